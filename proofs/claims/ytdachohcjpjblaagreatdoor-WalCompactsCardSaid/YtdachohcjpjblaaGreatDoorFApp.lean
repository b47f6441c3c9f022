/- Contract of a log's Append; no conditions but those that it names. -/
import Derived.Test.YtdachohcjpjblaaGreatDoorFMet
import Derived.BigQuiet
import Derived.Deep.QuietTactic
set_option maxHeartbeats 8000000
set_option maxRecDepth 100000
namespace Go.Proofs.YtdachohcjpjblaaGreatDoor
open Go.ChangeShapes Go.WideShapes Go.ChangeAt Go.RowKit
open Di (Keeps In below_on below_new)
open Wi (Hold)
def K.apS (X : List Rv) (s : Di.M.St) : Di.M.St := if rgB X then Di.M.app (K.fb (rcs X)) s else s
def K.apE (X : List Rv) (s : Di.M.St) : Int := if rgB X then Di.M.appE (K.fb (rcs X)) s else 1
theorem cut_all {s : Di.M.St} (h : Di.M.Ok s) : Di.M.cut (s.bs.length : Int) s = s := by
 unfold Di.M.cut
 rw [if_pos ⟨by omega, Int.le_refl _⟩, Int.toNat_natCast, List.take_length, Nat.min_eq_left h.2.2]
theorem app_join {w w1 w2 w4 w6 : World} {gl gd : Nat} {F Fd Fc Fd4 Fc1 : Nat → Prop} {s' : Di.M.St} (hb : Below w.heap.size w w1) (hlt : ∀ x, F x → x < w.heap.size) (hF : ∀ x, F x ↔ Fd x ∨ Fc x ∨ x = gl) (k1 : Keeps Fc w1 w2) (g1 : Di.Grew Fc Fc1 w1 w2) (k4 : Keeps Fd w2 w4) (g4 : Di.Grew Fd Fd4 w2 w4) (h : Logs w4 gl gd (fun x => Fd4 x ∨ Fc1 x ∨ x = gl) s' w6) : Logs w gl gd F s' w6 := by
 have hs := hb.size
 have hs2 := k1.size
 have k : Keeps F w w4 := ((Keeps.of_below hb).trans k1 (fun x _ f => (hF x).2 (.inr (.inl f)))).trans k4 (fun x _ f => (hF x).2 (.inl f))
 have hlt4 : ∀ x, x < w.heap.size → x < w4.heap.size := fun x hx => Nat.lt_of_lt_of_le hx k.size
 refine Logs.then k ⟨fun x f => ?_, fun x f => ?_⟩ h
 ·rcases f with f | f | f
  ·exact (g4.1 x f).imp (fun f => (hF x).2 (.inl f)) (fun e => by omega)
  ·exact (g1.1 x f).imp (fun f => (hF x).2 (.inr (.inl f))) (fun e => by omega)
  ·exact .inl ((hF x).2 (.inr (.inr f)))
 ·rcases f with f | f | f
  ·exact g4.2 x f
  ·exact Nat.lt_of_lt_of_le (g1.2 x f) k4.size
  ·exact hlt4 x (hlt x ((hF x).2 (.inr (.inr f))))
theorem appendL_any {w : World} {gl gd : Nat} {F : Nat → Prop} {s : Di.M.St} {v : Value} {X : List Rv} {A0 : List K.Rec} (h : Log w gl gd F s) (hA : s.bs = K.fb A0) (hg : K.Rg A0) (hs : s.bs.length ≤ 100000) (hr : Rws F w v X) (hm : ∀ x ∈ X, Wi.M.Mod x.r.c) (hl : X.length ≤ 1000) :
 Calls Tryz.prog 29 #[.pointer (some ⟨gl, 0, none⟩), v] w fun e w' => e = .returned (.int .i64 (K.apE X s)) ∧ Logs w gl gd F (K.apS X s) w' := by
 have HTb := Lib.hid h.tab
 have HFR := Lib.hid (frames_any h.tab hr.rows hm hl)
 have HH := Lib.hid h
 have HRD := Lib.hid (show K.rd s.bs = A0 by rw [hA, K.rd_of_fb hg])
 have HAL := Lib.hid (show (K.fb A0).length = s.bs.length by rw [← hA])
 clear hr hm hl hA hg h
 go_enter Tryz.func29, Tryz.ntmps29
 go_wp2_with (fail)
 refine HFR.out.mono ?_
 rintro e w1 ⟨u, rfl, ho, hb⟩
 have HO := Lib.hid ho
 have HB := Lib.hid hb
 have HL := Lib.hid (HH.out.below hb)
 clear ho hb
 cases hg : rgB X with
 | false =>
   simp only [Bool.false_eq_true, if_false]
   go_wp2
   go_ret
   refine ⟨by rw [K.apE, hg]; rfl, ?_⟩
   rw [K.apS, hg]
   exact Logs.of HH.out HB.out
 | true =>
   rw [hg] at HO
   simp only [if_true] at HO ⊢
   have HAE := Lib.hid (show K.apE X s = Di.M.appE (K.fb (rcs X)) s by rw [K.apE, hg]; rfl)
   have HAS := Lib.hid (show K.apS X s = Di.M.app (K.fb (rcs X)) s by rw [K.apS, hg]; rfl)
   clear hg
   obtain ⟨gc, Fd, Fc, X0, rest, A, c, vr, ve, gm, L, hF⟩ := HL.out
   have HL1 := Lib.hid L
   have HF := Lib.hid hF
   clear L hF HL
   go_wp2_with (fail)
   refine (look_any HL1.out hs).mono ?_
   rintro e w2 ⟨rfl, Fc1, X1, A1, c1, vr1, ve1, hX, L1, k1, g1, -⟩
   have hrest : ((s.bs.length : Int) - (K.fb (K.rd s.bs)).length) = 0 := by rw [HRD.out, HAL.out]; omega
   have hx1 : (K.fb (rcs X1)).length = s.bs.length := by rw [hX, HRD.out, HAL.out]
   have hou : Out F w1 u := Out.of_owns HO.out (fun x f => HH.out.lt x f)
   have HU2 := Lib.hid (bts_keeps (Fr.Row.of_owns HO.out : Fr.Bts w1 u (K.fb (rcs X))) (k1.wide (fun x _ f => (HF.out x).2 (.inr (.inl f))) : Keeps F w1 w2) hou)
   have hou2 : Out (fun x => Fd x ∨ Fc1 x ∨ x = gl) w2 u := hou.step k1.size (fun x f => by
    rcases f with f | f | f
    ·exact .inl ((HF.out x).2 (.inl f))
    ·exact (g1.1 x f).imp (fun f => (HF.out x).2 (.inr (.inl f))) id
    ·exact .inl ((HF.out x).2 (.inr (.inr f))))
   have HOU := Lib.hid hou2
   have HK2 := Lib.hid k1
   have HG2 := Lib.hid g1
   rw [hrest] at L1
   have hc1 := hold_cell L1.ct.blk 1 rfl
   have hc0 := hold_cell L1.ct.blk 0 rfl
   have HX1 := Lib.hid hx1
   have HL2 := Lib.hid L1
   have hok := L1.dk.ok
   have HOK := Lib.hid hok
   obtain ⟨A9, c9, hu9⟩ := bts_slice HU2.out
   have hul := HU2.out
   subst hu9
   rw [hx1] at hc0
   generalize hqn : (K.fb (rcs X)).length = qn at *
   have HQN := Lib.hid hqn
   have e1 : IntKind.i64.wrap ((s.z : Int) - s.bs.length) = (s.z : Int) - s.bs.length := by
    exact IntWalk.i64_in _ (by have := hok.1; have := hok.2.1; omega)
   clear hX L1 k1 g1 hrest hx1 hou hou2 hqn hul
   go_wp2
   go_region_held3 (fun w' => w'.cell? ⟨gc, 1, none⟩ = some (.int .i64 0)) (first | exact hc1 | assumption)
    (first
     | (go_at_call 20; refine Calls.mono (diskL_any (HL2.out.blk.on (Below.refl _ _).drew)) ?_; rintro e w3 ⟨rfl, rfl⟩)
     | (go_at_call 51; refine Calls.mono (Di.room_any (HL2.out.dk.below (Below.refl _ _).drew)) ?_; rintro e w3 ⟨rfl, hb3⟩; have HB3 := Lib.hid (show Below w2.heap.size w2 w3 from (Below.refl _ _).drew.trans hb3); have hc3 := hold_cell (HL2.out.ct.blk.on HB3.out) 1 rfl; clear hb3))
   have HL3 := Lib.hid (HL2.out.below HB3.out)
   have HU3 := Lib.hid (HU2.out.below HB3.out)
   have HO3 := Lib.hid (HOU.out.below HB3.out.size)
   have x0 := hold_cell HL3.out.ct.blk 0 rfl
   rw [HX1.out] at x0
   clear hc0 hc1 hc3
   by_cases hf : (qn : Int) ≤ (s.z : Int) - s.bs.length
   ·go_wp2
    go_region_held3 (fun w' => w'.cell? ⟨gc, 0, none⟩ = some (.slice A1 s.bs.length c1)) (first | exact x0 | assumption)
     (first
      | (go_at_call 20; refine Calls.mono (diskL_any (HL3.out.blk.on (Below.refl _ _).drew)) ?_; rintro e w4 ⟨rfl, rfl⟩)
      | (go_at_call 35; refine Calls.mono (Di.cutD_any (HL3.out.dk.below (Below.refl _ _).drew) _) ?_; rintro e w4 ⟨rfl, Fd4, d4, k4, g4⟩; rw [cut_all HOK.out] at d4; have HL4 := Lib.hid ((HL3.out.below (Below.refl _ _).drew).disk d4 k4 g4); have HD4 := Lib.hid d4; have HK4 := Lib.hid ((Keeps.of_below (F := Fd) (HB3.out.trans ((Below.refl _ _).drew.mono HB3.out.size))).trans k4 (fun _ _ e => e)); have HG4 := Lib.hid (show Di.Grew Fd Fd4 w2 w4 from ⟨fun x f => (g4.1 x f).imp id (fun e => Nat.le_trans HB3.out.size e), g4.2⟩); have x4 := hold_cell HL4.out.ct.blk 0 rfl; rw [HX1.out] at x4; clear d4 k4 g4))
    clear x0 x4 e1
    have HU4 := Lib.hid (bts_keeps HU2.out HK4.out (HOU.out.sub (fun x f => .inl f)))
    have HO4 := Lib.hid (show Out (fun x => Fd4 x ∨ Fc1 x ∨ x = gl) w4 (.slice A9 qn c9) from HOU.out.step HK4.out.size (fun x f => f.elim (fun f => (HG4.out.1 x f).imp .inl id) (fun f => .inl (.inr f))))
    go_wp2_with (fail)
    refine (diskL_any HL4.out.blk).mono ?_
    rintro e w5 ⟨rfl, rfl⟩
    go_wp2_with (fail)
    refine (Di.appendD_any (new := K.fb (rcs X)) HL4.out.dk (bts_di HU4.out) (fun _ b e f => (HO4.out b e).1 (.inl f))).mono ?_
    rintro e w6 ⟨rfl, Fd6, d6, k6, g6⟩
    have HG6 := Lib.hid (logs_disk (F := fun x => Fd4 x ∨ Fc1 x ∨ x = gl) HL4.out (fun _ => Iff.rfl) d6 k6 g6)
    clear d6 k6 g6
    go_wp2
    go_ret
    refine ⟨by rw [HAE.out]; rfl, ?_⟩
    rw [HAS.out]
    exact app_join HB.out (fun x => HH.out.lt x) HF.out HK2.out HG2.out HK4.out HG4.out HG6.out
   ·have HK4 := Lib.hid (Keeps.of_below (F := Fd) HB3.out)
    have HG4 := Lib.hid (Di.Grew.refl (w := w2) HL2.out.dk.lt HB3.out.size)
    clear x0 e1
    go_wp2_with (fail)
    refine (diskL_any HL3.out.blk).mono ?_
    rintro e w5 ⟨rfl, rfl⟩
    go_wp2_with (fail)
    refine (Di.appendD_any (new := K.fb (rcs X)) HL3.out.dk (bts_di HU3.out) (fun _ b e f => (HO3.out b e).1 (.inl f))).mono ?_
    rintro e w6 ⟨rfl, Fd6, d6, k6, g6⟩
    have HG6 := Lib.hid (logs_disk (F := fun x => Fd x ∨ Fc1 x ∨ x = gl) HL3.out (fun _ => Iff.rfl) d6 k6 g6)
    clear d6 k6 g6
    go_wp2
    go_ret
    refine ⟨by rw [HAE.out]; rfl, ?_⟩
    rw [HAS.out]
    exact app_join HB.out (fun x => HH.out.lt x) HF.out HK2.out HG2.out HK4.out HG4.out HG6.out
end Go.Proofs.YtdachohcjpjblaaGreatDoor
