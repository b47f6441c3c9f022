/- The document's Crash by value; conditions: rows that read. -/
import Derived.Test.YtdachohcjpjblaaGreatDoorFRfh
import Derived.Test.YtdachohcjpjblaaGreatDoorFBx
set_option maxHeartbeats 8000000
set_option maxRecDepth 100000
namespace Go.Proofs.YtdachohcjpjblaaGreatDoor
open Go.ChangeShapes Go.WideShapes Go.ChangeAt Go.RowKit
open Di (Keeps In below_on below_new)
open Wi (Hold)
namespace Rf
def Apd (w : World) (F : Nat → Prop) (Y X : List Rv) (sf : Int) (z : Nat) (e : Ending) (w' : World) : Prop := ∃ v' Y' E, e = .returned (.tuple #[.agg #[v',.int .i64 sf,.int .i64 z],.int .i64 E]) ∧ rcs Y' = Ag.dapp X z (rcs Y) ∧ Y'.length ≤ Y.length + X.length ∧ Rws F w' v' Y' ∧ Below w.heap.size w w'
theorem append_ref {w : World} {v u : Value} {F : Nat → Prop} {Y X : List Rv} (sf : Int) (z : Nat) (h : Rws F w v Y) (g : Rws F w u X) (hF : ∀ x, F x → x < w.heap.size) (hm : ∀ x ∈ X, Wi.M.Mod x.r.c) (hY : K.Rg (rcs Y)) (hl : Y.length ≤ 1000) (hx : X.length ≤ 1000) :
 Calls Tryz.prog 41 #[.agg #[v,.int .i64 sf,.int .i64 z], u] w (Apd w F Y X sf z) := by
 obtain ⟨A, c, rfl⟩ := rowN_sliceOf h.rows.row
 obtain ⟨A2, c2, rfl⟩ := rowN_sliceOf g.rows.row
 have HH := Lib.hid h
 have HG := Lib.hid g
 have HM := Lib.hid hm
 have HY := Lib.hid hY
 have HF := Lib.hid hF
 clear h g hm hY hF
 go_enter Tryz.func41, Tryz.ntmps41
 go_wp2
 have hb0 : Below w.heap.size w ((w.alloc (.cells #[.slice A Y.length c,.int .i64 sf,.int .i64 z] 41)).alloc (.cells #[.slice none 0 0,.int .i64 0,.int .i64 0] 41)) := below_new (below_new (Below.refl _ _))
 have HB0 := Lib.hid hb0
 have HA0 := Lib.hid (show Hold ((w.alloc (.cells #[.slice A Y.length c,.int .i64 sf,.int .i64 z] 41)).alloc (.cells #[.slice none 0 0,.int .i64 0,.int .i64 0] 41)) w.heap.size 41 [.slice A Y.length c,.int .i64 sf,.int .i64 z] from (Wi.Hold.new w [.slice A Y.length c,.int .i64 sf,.int .i64 z] 41).on (below_new (Below.refl _ _)))
 have HC0 := Lib.hid (show Hold ((w.alloc (.cells #[.slice A Y.length c,.int .i64 sf,.int .i64 z] 41)).alloc (.cells #[.slice none 0 0,.int .i64 0,.int .i64 0] 41)) (w.heap.size + 1) 41 [.slice none 0 0,.int .i64 0,.int .i64 0] from by
  have := Wi.Hold.new (w.alloc (.cells #[.slice A Y.length c,.int .i64 sf,.int .i64 z] 41)) [.slice none 0 0,.int .i64 0,.int .i64 0] 41
  rw [show (w.alloc (.cells #[.slice A Y.length c,.int .i64 sf,.int .i64 z] 41)).heap.size = w.heap.size + 1 by simp] at this
  exact this)
 clear hb0
 generalize hW0 : (w.alloc (.cells #[.slice A Y.length c,.int .i64 sf,.int .i64 z] 41)).alloc (.cells #[.slice none 0 0,.int .i64 0,.int .i64 0] 41) = W0 at *
 have HS0 := Lib.hid (show W0.heap.size = w.heap.size + 2 by rw [← hW0]; simp)
 clear hW0
 go_loopw [6] (fun i wr => ∃ k : Nat, i = .int .i64 k ∧ k ≤ X.length ∧ Hid (K.Rg ((rcs X).take k)) ∧ Hid (Below W0.heap.size W0 wr)) (fun i _ => X.length - (intOf i).toNat)
 case atStart => exact ⟨0, rfl, Nat.zero_le _, Lib.hid K.Rg.nil, Lib.hid (Below.refl _ _)⟩
 case round =>
  obtain ⟨k, rfl, hk, HR, HQ⟩ := hrel
  have HBQ := Lib.hid (below_on HB0.out HQ.out)
  by_cases hlt : k < X.length
  ·obtain ⟨x, hx⟩ : ∃ x, X[k]? = some x := ⟨_, List.getElem?_eq_getElem hlt⟩
   have hxm : x ∈ X := List.mem_of_getElem? hx
   obtain ⟨b, o, rfl, hbl, hrr⟩ := rowN_range (HG.out.rows.below HBQ.out).row hx
   have HX := Lib.hid ((HG.out.rows.tx x hxm).below HBQ.out)
   have HMX := Lib.hid (HM.out x hxm)
   have HXM := Lib.hid hxm
   have HXK := Lib.hid hx
   obtain ⟨r, va, vb⟩ := x
   have HRR := Lib.hid (show wr.rangeAt b (o + k * 25) [.int .i64 r.ir,.int .i64 r.is,.int .i64 r.st,.int .i64 r.pn,.int .i64 r.pr,.int .i64 r.bn,.int .i64 r.br,.int .i64 r.c.k,.int .i64 r.c.tc,.int .i64 r.c.tn,.int .i64 r.c.tt,.int .i64 r.c.tk,.int .i64 r.c.sh, va, vb,.bool r.c.cm,.int .i64 r.sq,.int .i64 r.d0,.int .i64 r.d1,.int .i64 r.d2,.int .i64 r.d3,.int .i64 r.d4,.int .i64 r.d5,.int .i64 r.d6,.bool r.kp] from hrr)
   have HE := Lib.hid (right59 r HX.out.rs HX.out.ws HMX.out)
   have hk1 : (k : Int) < (X.length : Int) := by omega
   clear hx hxm hrr hbl
   go_wp2_with (first
    | (with_reducible refine wpList_load_mid rfl 67 _ rfl b (o + k * 25) rfl [.int .i64 r.ir,.int .i64 r.is,.int .i64 r.st,.int .i64 r.pn,.int .i64 r.pr,.int .i64 r.bn,.int .i64 r.br,.int .i64 r.c.k,.int .i64 r.c.tc,.int .i64 r.c.tn,.int .i64 r.c.tt,.int .i64 r.c.tk,.int .i64 r.c.sh, va, vb,.bool r.c.cm,.int .i64 r.sq,.int .i64 r.d0,.int .i64 r.d1,.int .i64 r.d2,.int .i64 r.d3,.int .i64 r.d4,.int .i64 r.d5,.int .i64 r.d6,.bool r.kp] _ HRR.out Tryz.underlying67 rfl (by kernel_rfl) ?_)
    | fail)
   refine HE.out.mono ?_
   rintro e w1 ⟨rfl, hb1⟩
   have HB1 := Lib.hid (below_on HQ.out hb1)
   have HBX := Lib.hid (below_on HBQ.out hb1)
   cases hg : Wi.M.rightR r with
   | false =>
     have HRF := Lib.hid (show rgB X = false from rgB_bad HXM.out hg)
     have y0 := hold_cell (HA0.out.on HB1.out) 0 rfl
     have y1 := hold_cell (HA0.out.on HB1.out) 1 rfl
     have y2 := hold_cell (HA0.out.on HB1.out) 2 rfl
     have z0 := hold_cell (HC0.out.on HB1.out) 0 rfl
     have z1 := hold_cell (HC0.out.on HB1.out) 1 rfl
     have z2 := hold_cell (HC0.out.on HB1.out) 2 rfl
     have f0 := hold_soft (HC0.out.on HB1.out) 0
     have f1 := hold_soft (HC0.out.on HB1.out) 1
     have f2 := hold_soft (HC0.out.on HB1.out) 2
     clear hg hb1 HRR HE
     go_wp2
     have HD := Lib.hid (show Ag.dapp X z (rcs Y) = rcs Y by unfold Ag.dapp; rw [HRF.out]; rfl)
     obtain ⟨hbb, hh⟩ := Bx.box_fill (HC0.out.on HB1.out) (.slice A Y.length c) (.int .i64 sf) (.int .i64 z)
     refine bodyPost_ret (Bx.res_two rfl _ (w.heap.size + 1) rfl hh) rfl ?_
     have hbl : Below w.heap.size w _ := HBX.out.trans (hbb.k.below (fun x f => by rw [f]; omega) HBX.out.size)
     exact ⟨_, Y, 1, rfl, HD.out.symm, by omega, HH.out.below hbl, hbl⟩
   | true =>
     have HGN := Lib.hid (rgB_take HXK.out HR.out hg)
     clear hg hb1 HRR HE
     go_wp2
     go_roundw
     case rel => exact ⟨k + 1, by go_num, hlt, HGN, HB1⟩
     case measure => simp [intOf]; omega
  ·obtain rfl : k = X.length := by omega
   have hta : (rcs X).take X.length = rcs X := by rw [← rcs_len, List.take_length]
   have hrg : K.Rg (rcs X) := by have := HR.out; rwa [hta] at this
   have HRT := Lib.hid (rgB_iff.2 hrg)
   have HRG := Lib.hid hrg
   clear hta hrg
   have x0 := hold_cell (HA0.out.on HQ.out) 0 rfl
   have x2 := hold_cell (HA0.out.on HQ.out) 2 rfl
   have K1 := Lib.hid (bytes_ref ((HH.out.rows.below HBQ.out).below (Below.refl _ _).drew) (fun y hy => fit_of (HY.out y.r (List.mem_map.2 ⟨y, hy, rfl⟩))) (by omega))
   have HX2 := Lib.hid (show Rows wr (.slice A2 X.length c2) X from HG.out.rows.below HBQ.out)
   have hb1 : (K.fb (rcs Y)).length ≤ 808000 := by
    have := fb_le (HY.out)
    rw [rcs_len] at this
    omega
   have hb2 : (K.fb (rcs X)).length ≤ 808000 := by
    have := fb_le (HRG.out)
    rw [rcs_len] at this
    omega
   have HDP := Lib.hid (show Ag.dapp X z (rcs Y) = if (K.fb (rcs Y)).length + (K.fb (rcs X)).length ≤ z then rcs Y ++ rcs X else rcs Y by unfold Ag.dapp; rw [HRT.out]; rfl)
   generalize hly : (K.fb (rcs Y)).length = ly at *
   generalize hlx : (K.fb (rcs X)).length = lx at *
   obtain ⟨q, hq⟩ : ∃ q, q = ly + lx := ⟨_, rfl⟩
   have e1 : IntKind.i64.wrap ((ly : Int) + (lx : Int)) = (q : Int) := by
    rw [show (ly : Int) + (lx : Int) = (q : Int) by omega]
    exact IntWalk.i64_in _ (by omega)
   have HQQ := Lib.hid hq
   clear hq hb1 hb2 hly
   have HLX := Lib.hid hlx
   clear hlx
   go_wp2
   go_region_held3 (fun w' => w'.cell? ⟨w.heap.size, 0, none⟩ = some (.slice A Y.length c) ∧ w'.cell? ⟨w.heap.size, 2, none⟩ = some (.int .i64 z)) (first | exact ⟨x0, x2⟩ | exact ⟨by assumption, by assumption⟩)
    (first
     | (go_at_call 17; refine Calls.mono K1.out ?_; rintro e w1 ⟨rfl, hb1⟩; clear K1; have HB1 := Lib.hid (show Below wr.heap.size wr w1 from (Below.refl _ _).drew.trans hb1); clear hb1; have x3 := hold_cell ((HA0.out.on HQ.out).on HB1.out) 0 rfl; have x4 := hold_cell ((HA0.out.on HQ.out).on HB1.out) 2 rfl; have K2 := Lib.hid (bytes_ref (HX2.out.below HB1.out) (fun y hy => fit_of (HRG.out y.r (List.mem_map.2 ⟨y, hy, rfl⟩))) (by omega)); rw [HLX.out] at K2)
     | (go_at_call 17; refine Calls.mono K2.out ?_; rintro e w2 ⟨rfl, hb2⟩; have HB2 := Lib.hid (below_on HQ.out (below_on HB1.out hb2)); clear hb2; have x5 := hold_cell (HA0.out.on HB2.out) 0 rfl; have x6 := hold_cell (HA0.out.on HB2.out) 2 rfl))
   clear x0 x2 x3 x4 x5 x6 e1
   have HBX := Lib.hid (below_on HB0.out HB2.out)
   have x0 := hold_cell (HA0.out.on HB2.out) 0 rfl
   have x1 := hold_cell (HA0.out.on HB2.out) 1 rfl
   have x2 := hold_cell (HA0.out.on HB2.out) 2 rfl
   have z0 := hold_cell (HC0.out.on HB2.out) 0 rfl
   have z1 := hold_cell (HC0.out.on HB2.out) 1 rfl
   have z2 := hold_cell (HC0.out.on HB2.out) 2 rfl
   have f0 := hold_soft (HC0.out.on HB2.out) 0
   have f1 := hold_soft (HC0.out.on HB2.out) 1
   have f2 := hold_soft (HC0.out.on HB2.out) 2
   by_cases hf : q ≤ z
   ·have hf' : ¬ ((z : Int) < (q : Int)) := by omega
    obtain ⟨v1, w3, v2, w4, hr1, hr2, ho, hb3, hb4⟩ := join_recs (HH.out.rows.below HBX.out) (HG.out.rows.below HBX.out) (by omega)
    obtain ⟨A4, c4, rfl⟩ := Wi.ownsRow_slice ho
    have HR1 := Lib.hid hr1
    have HR2 := Lib.hid hr2
    have HO := Lib.hid ho
    have HB4 := Lib.hid (below_on HB2.out hb4)
    have HS := Lib.hid (show w.heap.size + 2 ≤ w2.heap.size by have := HB2.out.size; have := HS0.out; omega)
    have HD := Lib.hid (show Ag.dapp X z (rcs Y) = rcs Y ++ rcs X by rw [HDP.out, ← HQQ.out, if_pos hf])
    have w0 := hold_cell (HA0.out.on (below_new (o := .cells #[] 67) HB2.out)) 0 rfl
    clear x0 x1 x2 z0 z1 z2 f0 f1 f2 hr1 hr2 ho hb3 hb4
    have x0 := hold_cell (HA0.out.on HB4.out) 0 rfl
    have x1 := hold_cell (HA0.out.on HB4.out) 1 rfl
    have x2 := hold_cell (HA0.out.on HB4.out) 2 rfl
    have z0 := hold_cell (HC0.out.on HB4.out) 0 rfl
    have z1 := hold_cell (HC0.out.on HB4.out) 1 rfl
    have z2 := hold_cell (HC0.out.on HB4.out) 2 rfl
    have f0 := hold_soft (HC0.out.on HB4.out) 0
    have f1 := hold_soft (HC0.out.on HB4.out) 1
    have f2 := hold_soft (HC0.out.on HB4.out) 2
    have g0 := hold_soft (HA0.out.on HB4.out) 0
    go_wp2_with (first
     | (at_builtin; refine Lib.wpList_append_run _ rfl (.tmp 30) (.tmp 32) _ _ rfl _ _ rfl rfl _ _ HR1.out ?_)
     | (at_builtin; refine Lib.wpList_append_run _ rfl (.tmp 33) (.tmp 34) _ _ rfl _ _ rfl rfl _ _ HR2.out ?_)
     | fail)
    have k0 : Keeps (fun k => k = w.heap.size) w4 (w4.setCell ⟨w.heap.size, 0, none⟩ (.slice A4 (Y.length + X.length) c4)) := (Keeps.refl (fun k => k = w.heap.size) w4).setCell (p := ⟨w.heap.size, 0, none⟩) (.inl rfl) _
    obtain ⟨hbb, hh⟩ := Bx.box_fill (hold_keeps (HC0.out.on HB4.out) k0 (by omega)) (.slice A4 (Y.length + X.length) c4) (.int .i64 sf) (.int .i64 z)
    refine bodyPost_ret (Bx.res_two rfl _ (w.heap.size + 1) rfl hh) rfl ?_
    have hb4 := below_on HB0.out HB4.out
    have hb5 := hb4.trans (k0.below (fun x f => by rw [f]; omega) hb4.size)
    have hbl : Below w.heap.size w _ := hb5.trans (hbb.k.below (fun x f => by rw [f]; omega) hb5.size)
    have hlt : ∀ b, (Value.slice A4 (Y.length + X.length) c4).ownBlock = some b → w2.heap.size ≤ b := fun b e => (HO.out.lt b e).1
    have ho5 := owns_keeps (owns_keeps HO.out k0 (fun b e f => by have := hlt b e; have := HS.out; omega)) hbb.k (fun b e f => by have := hlt b e; have := HS.out; omega)
    refine ⟨_, Y ++ X, 0, rfl, by rw [HD.out]; simp [rcs], by simp, ⟨⟨by rw [List.length_append]; exact Wi.RowN.of_owns ho5, fun y hy => ?_⟩, fun h0 b e => ⟨fun f => ?_, ?_⟩, fun y hy => ?_⟩, hbl⟩
    ·exact (List.mem_append.1 hy).elim (fun hy => (HH.out.rows.tx y hy).below hbl) (fun hy => (HG.out.rows.tx y hy).below hbl)
    ·have := hlt b e; have := HS.out; have := HF.out b f; omega
    ·exact (ho5.lt b e).2
    ·exact (List.mem_append.1 hy).elim (fun hy => ((HH.out.below hbl).ot y hy)) (fun hy => ((HG.out.below hbl).ot y hy))
   ·have hf' : (z : Int) < (q : Int) := by omega
    have HD := Lib.hid (show Ag.dapp X z (rcs Y) = rcs Y by rw [HDP.out, ← HQQ.out, if_neg hf])
    go_wp2
    obtain ⟨hbb, hh⟩ := Bx.box_fill (HC0.out.on HB2.out) (.slice A Y.length c) (.int .i64 sf) (.int .i64 z)
    refine bodyPost_ret (Bx.res_two rfl _ (w.heap.size + 1) rfl hh) rfl ?_
    have hbl : Below w.heap.size w _ := HBX.out.trans (hbb.k.below (fun x f => by rw [f]; omega) HBX.out.size)
    exact ⟨_, Y, 7, rfl, HD.out.symm, by omega, HH.out.below hbl, hbl⟩
end Rf
end Go.Proofs.YtdachohcjpjblaaGreatDoor
namespace Go.Proofs.YtdachohcjpjblaaGreatDoor
open Go.ChangeShapes Go.WideShapes Go.ChangeAt Go.RowKit
open Di (Keeps In below_on below_new)
open Wi (Hold)
namespace Rf
theorem flatC_take : ∀ (Y : List Rv) (p : Nat), (Y.flatMap Rv.cells).take (p * 25) = (Y.take p).flatMap Rv.cells
 | [], p => by simp
 | y :: Y, 0 => by simp
 | y :: Y, p + 1 => by
   rw [List.flatMap_cons, List.take_succ_cons, List.flatMap_cons, List.take_append, show y.cells.length = 25 from rfl, List.take_of_length_le (by rw [show y.cells.length = 25 from rfl]; omega), show (p + 1) * 25 - 25 = p * 25 by omega, flatC_take Y p]
theorem rows_take {w : World} {A : Option Addr} {n c m : Nat} {Y : List Rv} (h : Rows w (.slice A n c) Y) (hm : m ≤ Y.length) : Rows w (.slice A m c) (Y.take m) := by
 obtain ⟨⟨hl, A', c', e, hc, hx⟩, ht⟩ := h
 simp only [Value.slice.injEq] at e
 obtain ⟨rfl, rfl, rfl⟩ := e
 refine ⟨⟨by rw [flat_len], A, c, by rw [List.length_take, Nat.min_eq_left hm], by rw [List.length_take]; omega, fun h0 => ?_⟩, fun y hy => ht y (List.mem_of_mem_take hy)⟩
 obtain ⟨b, o, rfl, hb, hy⟩ := hx (by rw [List.length_take] at h0; omega)
 refine ⟨b, o, rfl, hb, fun j x hj => hy j x ?_⟩
 rw [← flatC_take] at hj
 have := (List.getElem?_eq_some_iff.1 hj).1
 rw [List.length_take] at this
 rwa [List.getElem?_take_of_lt (by omega)] at hj
theorem rws_take {F : Nat → Prop} {w : World} {A : Option Addr} {n c m : Nat} {Y : List Rv} (h : Rws F w (.slice A n c) Y) (hm : m ≤ Y.length) : Rws F w (.slice A m c) (Y.take m) :=
 ⟨rows_take h.rows hm, fun h0 b e => h.ov (by rw [List.length_take] at h0; omega) b (by cases A <;> exact e), fun y hy => h.ot y (List.mem_of_mem_take hy)⟩
theorem cnt_stop {tn : Bool} {keep pos : Int} {r : K.Rec} {l : List K.Rec} (h : keep < K.len r ∨ (tn = true ∧ 0 ≤ pos ∧ pos < K.len r)) : K.cnt tn keep pos (r :: l) = 0 := by rw [K.cnt, if_pos h]
theorem cnt_go {tn : Bool} {keep pos : Int} {r : K.Rec} {l : List K.Rec} (h : ¬ (keep < K.len r ∨ (tn = true ∧ 0 ≤ pos ∧ pos < K.len r))) : K.cnt tn keep pos (r :: l) = K.cnt tn (keep - K.len r) (pos - K.len r) l + 1 := by rw [K.cnt, if_neg h]
theorem crash_ref {w : World} {A : Option Addr} {c : Nat} {Y : List Rv} (sf : Nat) (sz keep pos : Int) (tn : Bool) (h : Rows w (.slice A Y.length c) Y) (hsf : sf ≤ Y.length) (hY : K.Rg (rcs Y)) (hl : Y.length ≤ 1000) :
 Calls Tryz.prog 44 #[.agg #[.slice A Y.length c,.int .i64 sf,.int .i64 sz],.int .i64 keep,.int .i64 pos,.bool tn] w fun e w' => e = .returned (.agg #[.slice A (sf + K.cnt tn keep pos ((rcs Y).drop sf)) c,.int .i64 ((sf + K.cnt tn keep pos ((rcs Y).drop sf) : Nat) : Int),.int .i64 sz]) ∧ Below w.heap.size w w' := by
 have hcap : Y.length ≤ c := by
  obtain ⟨-, A', c', e, hc, -⟩ := h.row
  simp only [Value.slice.injEq] at e
  obtain ⟨-, -, rfl⟩ := e
  exact hc
 have HH := Lib.hid h
 have HY := Lib.hid hY
 have HC := Lib.hid hcap
 have HSF := Lib.hid hsf
 have HLL := Lib.hid hl
 have HFB := Lib.hid (show ∀ j, (K.fb (((rcs Y).drop sf).take j)).length ≤ 808 * 1000 from fun j => by
  have h1 : ∀ A : List K.Rec, K.Rg A → (K.fb A).length ≤ 808 * A.length := by
   intro A
   induction A with
   | nil => intro _; simp [K.fb_nil]
   | cons q A ih =>
     intro hA
     have := ih hA.cons.2
     have := (K.enc_len hA.cons.1).2
     rw [K.fb_len_cons, K.len, List.length_cons]
     omega
  have := h1 (((rcs Y).drop sf).take j) (fun r hr => hY r (List.mem_of_mem_drop (List.mem_of_mem_take hr)))
  rw [List.length_take, List.length_drop, rcs_len] at this
  omega)
 generalize hN : sf + K.cnt tn keep pos ((rcs Y).drop sf) = N at *
 have HN := Lib.hid hN
 clear h hY hcap hN hsf hl
 go_enter Tryz.func44, Tryz.ntmps44
 go_wp2
 have HB0 := Lib.hid (show Below w.heap.size w ((w.alloc (.cells #[.slice A Y.length c,.int .i64 sf,.int .i64 sz] 41)).alloc (.cells #[.slice none 0 0,.int .i64 0,.int .i64 0] 41)) from below_new (below_new (Below.refl _ _)))
 have HA0 := Lib.hid (show Hold ((w.alloc (.cells #[.slice A Y.length c,.int .i64 sf,.int .i64 sz] 41)).alloc (.cells #[.slice none 0 0,.int .i64 0,.int .i64 0] 41)) w.heap.size 41 [.slice A Y.length c,.int .i64 sf,.int .i64 sz] from (Wi.Hold.new w [.slice A Y.length c,.int .i64 sf,.int .i64 sz] 41).on (below_new (Below.refl _ _)))
 have HC0 := Lib.hid (show Hold ((w.alloc (.cells #[.slice A Y.length c,.int .i64 sf,.int .i64 sz] 41)).alloc (.cells #[.slice none 0 0,.int .i64 0,.int .i64 0] 41)) (w.heap.size + 1) 41 [.slice none 0 0,.int .i64 0,.int .i64 0] from by
  have := Wi.Hold.new (w.alloc (.cells #[.slice A Y.length c,.int .i64 sf,.int .i64 sz] 41)) [.slice none 0 0,.int .i64 0,.int .i64 0] 41
  rw [show (w.alloc (.cells #[.slice A Y.length c,.int .i64 sf,.int .i64 sz] 41)).heap.size = w.heap.size + 1 by simp] at this
  exact this)
 generalize hW0 : (w.alloc (.cells #[.slice A Y.length c,.int .i64 sf,.int .i64 sz] 41)).alloc (.cells #[.slice none 0 0,.int .i64 0,.int .i64 0] 41) = W0 at *
 clear hW0
 go_loopw [9, 10] (fun n i wr => ∃ j E : Nat, n = .int .i64 ((sf + j : Nat) : Int) ∧ i = .int .i64 E ∧ sf + j ≤ Y.length ∧ Hid (E = (K.fb (((rcs Y).drop sf).take j)).length) ∧ Hid (N = sf + j + K.cnt tn (keep - E) (pos - E) ((rcs Y).drop (sf + j))) ∧ Hid (Below W0.heap.size W0 wr)) (fun n _ _ => Y.length - (intOf n).toNat)
 case atStart => exact ⟨0, 0, rfl, rfl, HSF.out, Lib.hid (by simp [K.fb_nil]), Lib.hid (by rw [← HN.out]; simp), Lib.hid (Below.refl _ _)⟩
 case round =>
  obtain ⟨j, E, rfl, rfl, hj, HE, HV, HQ⟩ := hrel
  have HBQ := Lib.hid (below_on HB0.out HQ.out)
  have a0 := hold_cell (HA0.out.on HQ.out) 0 rfl
  obtain ⟨n, hn⟩ : ∃ n, n = sf + j := ⟨_, rfl⟩
  rw [← hn] at hj ⊢
  have HNN := Lib.hid hn
  clear hn
  by_cases hlt : n < Y.length
  ·obtain ⟨x, hx⟩ : ∃ x, Y[n]? = some x := ⟨_, List.getElem?_eq_getElem hlt⟩
   have hxm : x ∈ Y := List.mem_of_getElem? hx
   obtain ⟨b, o, rfl, hbl, hrr⟩ := rowN_range (HH.out.below HBQ.out).row hx
   have HX := Lib.hid ((HH.out.tx x hxm).below HBQ.out)
   have hxr : x.r ∈ rcs Y := List.mem_map.2 ⟨x, hxm, rfl⟩
   have hfit := fit_of (HY.out x.r hxr)
   have hrx : (rcs Y)[n]? = some x.r := by unfold rcs; rw [List.getElem?_map, hx]; rfl
   have hdr : (rcs Y).drop n = x.r :: (rcs Y).drop (n + 1) := by
    rw [List.drop_eq_getElem_cons (List.getElem?_eq_some_iff.1 hrx).1, (List.getElem?_eq_some_iff.1 hrx).2]
   have HE2 := Lib.hid (show E + K.len x.r = (K.fb (((rcs Y).drop sf).take (j + 1))).length by
    have e1 : ((rcs Y).drop sf)[j]? = some x.r := by rw [List.getElem?_drop, ← HNN.out]; exact hrx
    rw [List.take_add_one, e1, Option.toList_some, K.fb_append, List.length_append, ← HE.out, K.fb_len_cons, K.fb_nil]; simp)
   have HST := Lib.hid (show (keep - E < K.len x.r ∨ (tn = true ∧ 0 ≤ pos - E ∧ pos - E < K.len x.r)) → N = n from fun hs => by
    have := HV.out
    rw [← HNN.out, hdr, cnt_stop hs] at this
    exact this)
   have HGO := Lib.hid (show ¬ (keep - E < K.len x.r ∨ (tn = true ∧ 0 ≤ pos - E ∧ pos - E < K.len x.r)) → N = n + 1 + K.cnt tn (keep - (E + K.len x.r : Nat)) (pos - (E + K.len x.r : Nat)) ((rcs Y).drop (n + 1)) from fun hs => by
    have := HV.out
    rw [← HNN.out, hdr, cnt_go hs] at this
    rw [this, show keep - ((E + K.len x.r : Nat) : Int) = keep - (E : Int) - (K.len x.r : Int) by omega, show pos - ((E + K.len x.r : Nat) : Int) = pos - (E : Int) - (K.len x.r : Int) by omega]
    omega)
   obtain ⟨r, va, vb⟩ := x
   have HRR := Lib.hid (show wr.rangeAt b (o + n * 25) [.int .i64 r.ir,.int .i64 r.is,.int .i64 r.st,.int .i64 r.pn,.int .i64 r.pr,.int .i64 r.bn,.int .i64 r.br,.int .i64 r.c.k,.int .i64 r.c.tc,.int .i64 r.c.tn,.int .i64 r.c.tt,.int .i64 r.c.tk,.int .i64 r.c.sh, va, vb,.bool r.c.cm,.int .i64 r.sq,.int .i64 r.d0,.int .i64 r.d1,.int .i64 r.d2,.int .i64 r.d3,.int .i64 r.d4,.int .i64 r.d5,.int .i64 r.d6,.bool r.kp] from hrr)
   have HLN := Lib.hid (length_any (w := wr) r HX.out.rs HX.out.ws hfit.1 hfit.2)
   dsimp only at HE2 HST HGO
   obtain ⟨nx, hnx⟩ : ∃ nx, nx = E + K.len r := ⟨_, rfl⟩
   have e1 : IntKind.i64.wrap ((E : Int) + (K.len r : Nat)) = (nx : Int) := by
    rw [show (E : Int) + (K.len r : Nat) = (nx : Int) by omega]
    exact IntWalk.i64_in _ (by have := HFB.out (j + 1); have := HE2.out; omega)
   have e2 : IntKind.i64.wrap ((n : Int) + 1) = ((n + 1 : Nat) : Int) := by
    rw [show (n : Int) + 1 = ((n + 1 : Nat) : Int) by omega]
    exact IntWalk.i64_in _ (by have := HLL.out; omega)
   have HNX := Lib.hid hnx
   have hn1 : (n : Int) < (Y.length : Int) := by omega
   clear hx hxm hrr hbl hxr hfit hrx hdr hnx
   go_wp2_with (first
    | (with_reducible refine wpList_load_mid rfl 67 _ rfl b (o + n * 25) rfl [.int .i64 r.ir,.int .i64 r.is,.int .i64 r.st,.int .i64 r.pn,.int .i64 r.pr,.int .i64 r.bn,.int .i64 r.br,.int .i64 r.c.k,.int .i64 r.c.tc,.int .i64 r.c.tn,.int .i64 r.c.tt,.int .i64 r.c.tk,.int .i64 r.c.sh, va, vb,.bool r.c.cm,.int .i64 r.sq,.int .i64 r.d0,.int .i64 r.d1,.int .i64 r.d2,.int .i64 r.d3,.int .i64 r.d4,.int .i64 r.d5,.int .i64 r.d6,.bool r.kp] _ HRR.out Tryz.underlying67 rfl (by kernel_rfl) ?_)
    | fail)
   refine HLN.out.mono ?_
   rintro e w1 ⟨rfl, hb1⟩
   have HB1 := Lib.hid (below_on HQ.out hb1)
   clear hb1 HRR HLN
   have a2 := hold_cell (HA0.out.on HB1.out) 2 rfl
   have z0 := hold_cell (HC0.out.on HB1.out) 0 rfl
   have z1 := hold_cell (HC0.out.on HB1.out) 1 rfl
   have z2 := hold_cell (HC0.out.on HB1.out) 2 rfl
   have f0 := hold_soft (HC0.out.on HB1.out) 0
   have f1 := hold_soft (HC0.out.on HB1.out) 1
   have f2 := hold_soft (HC0.out.on HB1.out) 2
   have hc1 : (n : Int) ≤ (c : Int) := by have := HC.out; omega
   have b0 := hold_cell (HA0.out.on HB1.out) 0 rfl
   by_cases g1 : keep < (nx : Int)
   ·have HNE := Lib.hid (HST.out (.inl (by have := HNX.out; omega)))
    go_wp2
    go_region_with (fail)
    all_goals
     obtain ⟨hbb, hh⟩ := Bx.box_fill ((HC0.out.on HB1.out).on (Below.refl _ _).drew) (.slice (some ⟨b, o, none⟩) n c) (.int .i64 n) (.int .i64 sz)
     go_wp2
     refine bodyPost_ret (Bx.res_one rfl _ (w.heap.size + 1) rfl hh) rfl ?_
     have hbl := below_on HB0.out (HB1.out.trans (Below.refl _ _).drew)
     exact ⟨by rw [HNE.out], hbl.trans (hbb.k.below (fun x f => by rw [f]; omega) hbl.size)⟩
   ·cases tn with
    | false =>
      have HN1 := Lib.hid (HGO.out (by have := HNX.out; exact fun h => h.elim (fun e => by omega) (fun e => by simp at e)))
      go_wp2
      go_roundw
      case rel =>
       have h1 := HN1.out
       rw [← HNX.out] at h1
       exact ⟨j + 1, nx, by rw [HNN.out]; simp; omega, rfl, by have := HNN.out; omega, Lib.hid (by rw [HNX.out]; exact HE2.out), Lib.hid (by rw [show sf + (j + 1) = n + 1 by have := HNN.out; omega]; exact h1), HB1⟩
      case measure => simp [intOf]; omega
    | true =>
      by_cases g2 : (E : Int) ≤ pos
      ·by_cases g3 : pos < (nx : Int)
       ·have HNE := Lib.hid (HST.out (.inr ⟨rfl, by omega, by have := HNX.out; omega⟩))
        go_wp2
        go_region_with (fail)
        all_goals
         obtain ⟨hbb, hh⟩ := Bx.box_fill ((HC0.out.on HB1.out).on (Below.refl _ _).drew) (.slice (some ⟨b, o, none⟩) n c) (.int .i64 n) (.int .i64 sz)
         go_wp2
         refine bodyPost_ret (Bx.res_one rfl _ (w.heap.size + 1) rfl hh) rfl ?_
         have hbl := below_on HB0.out (HB1.out.trans (Below.refl _ _).drew)
         exact ⟨by rw [HNE.out], hbl.trans (hbb.k.below (fun x f => by rw [f]; omega) hbl.size)⟩
       ·skip
        have HN1 := Lib.hid (HGO.out (by have := HNX.out; exact fun h => h.elim (fun e => by omega) (fun e => by omega)))
        go_wp2
        go_roundw
        case rel =>
         have h1 := HN1.out
         rw [← HNX.out] at h1
         exact ⟨j + 1, nx, by rw [HNN.out]; simp; omega, rfl, by have := HNN.out; omega, Lib.hid (by rw [HNX.out]; exact HE2.out), Lib.hid (by rw [show sf + (j + 1) = n + 1 by have := HNN.out; omega]; exact h1), HB1⟩
        case measure => simp [intOf]; omega
      ·skip
       have HN1 := Lib.hid (HGO.out (by have := HNX.out; exact fun h => h.elim (fun e => by omega) (fun e => by omega)))
       go_wp2
       go_roundw
       case rel =>
        have h1 := HN1.out
        rw [← HNX.out] at h1
        exact ⟨j + 1, nx, by rw [HNN.out]; simp; omega, rfl, by have := HNN.out; omega, Lib.hid (by rw [HNX.out]; exact HE2.out), Lib.hid (by rw [show sf + (j + 1) = n + 1 by have := HNN.out; omega]; exact h1), HB1⟩
       case measure => simp [intOf]; omega
  ·have hnY : n = Y.length := by omega
   have HNE := Lib.hid (show N = n by
    have := HV.out
    rw [List.drop_of_length_le (by rw [rcs_len]; have := HNN.out; omega)] at this
    have h2 := HNN.out
    simp only [K.cnt] at this
    omega)
   have a2 := hold_cell (HA0.out.on HQ.out) 2 rfl
   have z0 := hold_cell (HC0.out.on HQ.out) 0 rfl
   have z1 := hold_cell (HC0.out.on HQ.out) 1 rfl
   have z2 := hold_cell (HC0.out.on HQ.out) 2 rfl
   have f0 := hold_soft (HC0.out.on HQ.out) 0
   have f1 := hold_soft (HC0.out.on HQ.out) 1
   have f2 := hold_soft (HC0.out.on HQ.out) 2
   have hc1 : (n : Int) ≤ (c : Int) := by have := HC.out; omega
   have hn1 : ¬ ((n : Int) < (Y.length : Int)) := by omega
   have hn2 : (n : Int) ≤ (Y.length : Int) := by omega
   subst hnY
   cases A with
   | none =>
     go_wp2
     go_region_with (fail)
     all_goals
      obtain ⟨hbb, hh⟩ := Bx.box_fill ((HC0.out.on HQ.out).on (Below.refl _ _).drew) (.slice none Y.length c) (.int .i64 Y.length) (.int .i64 sz)
      go_wp2
      refine bodyPost_ret (Bx.res_one rfl _ (w.heap.size + 1) rfl hh) rfl ?_
      have hbl := below_on HB0.out (HQ.out.trans (Below.refl _ _).drew)
      exact ⟨by rw [HNE.out], hbl.trans (hbb.k.below (fun x f => by rw [f]; omega) hbl.size)⟩
   | some a =>
     obtain ⟨b, o, spot⟩ := a
     go_wp2
     go_region_with (fail)
     all_goals
      obtain ⟨hbb, hh⟩ := Bx.box_fill ((HC0.out.on HQ.out).on (Below.refl _ _).drew) (.slice (some ⟨b, o, spot⟩) Y.length c) (.int .i64 Y.length) (.int .i64 sz)
      go_wp2
      refine bodyPost_ret (Bx.res_one rfl _ (w.heap.size + 1) rfl hh) rfl ?_
      have hbl := below_on HB0.out (HQ.out.trans (Below.refl _ _).drew)
      exact ⟨by rw [HNE.out], hbl.trans (hbb.k.below (fun x f => by rw [f]; omega) hbl.size)⟩
end Rf
end Go.Proofs.YtdachohcjpjblaaGreatDoor
