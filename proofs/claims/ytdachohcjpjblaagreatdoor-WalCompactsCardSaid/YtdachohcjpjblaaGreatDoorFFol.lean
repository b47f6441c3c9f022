/- Contract of the function that reads of a disk's bytes what is new; no conditions but those that it names. -/
import Derived.Test.YtdachohcjpjblaaGreatDoorFEach
import Derived.Test.YtdachohcjpjblaaGreatDoorFPre
set_option maxHeartbeats 8000000
set_option maxRecDepth 100000
namespace Go.Proofs.YtdachohcjpjblaaGreatDoor
open Go.ChangeShapes Go.WideShapes Go.ChangeAt Go.RowKit
open Di (Keeps In below_on below_new)
open Wi (Hold)
theorem bts_keeps {w w' : World} {v : Value} {xs : List UInt8} {F : Nat → Prop} (h : Fr.Bts w v xs) (k : Keeps F w w') (ho : Out F w v) : Fr.Bts w' v xs := by
 obtain ⟨A, c, e, hc, hx⟩ := h
 refine ⟨A, c, e, hc, fun h0 => ?_⟩
 obtain ⟨b, o, rfl, hb, hy⟩ := hx h0
 subst e
 exact ⟨b, o, rfl, Nat.lt_of_lt_of_le hb k.size, fun j x hj => (k.cell (p := ⟨b, o + j, none⟩) hb (ho b rfl).1).trans (hy j x hj)⟩
theorem Cts.rg {w : World} {gc : Nat} {F : Nat → Prop} {X : List Rv} {rest : Int} {fr vr ve : Value} {gm : Nat} (h : Cts w gc F X rest fr vr ve gm) : K.Rg (rcs X) := fun r hr => by
 obtain ⟨x, hx, rfl⟩ := List.mem_map.1 hr
 exact (h.tx x hx).rg
def Follows (w : World) (gc : Nat) (F : Nat → Prop) (X : List Rv) (gm b n : Nat) (xs : List UInt8) (w' : World) : Prop := ∃ F' X' vr' ve', rcs X' = K.rd xs ∧ Cts w' gc F' X' ((n : Int) - (K.fb (K.rd xs)).length) (.slice (some ⟨b, 0, none⟩) (K.fb (K.rd xs)).length n) vr' ve' gm ∧ Keeps F w w' ∧ Di.Grew F F' w w' ∧ ∀ x ∈ X', x ∈ X ∨ New w x
theorem Ct.to {w : World} {gc : Nat} {F : Nat → Prop} {X : List Rv} {E : List Int} {m : List (Ky × Rv)} {rest : Int} {fr vr ve : Value} {gm : Nat} (h : Ct w gc F X E m rest fr vr ve gm) (i : Nat) (v : Value) {fr' : Value} {rest' : Int}
 (hL : ([fr,.int .i64 rest, vr, ve, .map (some gm)] : List Value).set i v = [fr',.int .i64 rest', vr, ve, .map (some gm)]) : Ct (w.setCell ⟨gc, i, none⟩ v) gc F X E m rest' fr' vr ve gm :=
 h.set i v hL h.row h.ends h.tx h.fvr h.fve
theorem cb_begin {w1 : World} {gc : Nat} {F : Nat → Prop} {X : List Rv} {rest : Int} {fr vr ve : Value} {gm bc : Nat} {z : Int} (h : Cts w1 gc F X rest fr vr ve gm) (hc : Hold w1 bc 83 [.pointer (some ⟨gc, 0, none⟩)]) (nc : ¬ F bc) (hz : z = (K.fb (rcs X)).length) :
 Cb (w1.alloc (.cells #[.int .i64 z] 3)) gc (fun x => F x ∨ x = w1.heap.size) X rest fr vr ve gm w1.heap.size bc := by
 have hb : Below w1.heap.size w1 (w1.alloc (.cells #[.int .i64 z] 3)) := (Below.refl _ _).alloc (Nat.le_refl _) _
 refine ⟨Ct.wide (w0 := w1) (Ct.below h hb) (fun _ e => .inl e) (fun x e => e.imp id (fun e => by omega)) (fun x e => ?_) (fun x hx => ?_), ?_, .inr rfl, fun b e => ?_, hold_alloc hc _, fun e => ?_, Nat.lt_of_lt_of_le (hold_lt hc) hb.size⟩
 ·rcases e with e | rfl
  ·have := h.lt x e
   have := hb.size
   omega
  ·simp
 ·rcases hx with hx | ⟨k, hk⟩
  ·exact ⟨(h.tx x hx).oa, (h.tx x hx).ob⟩
  ·exact ⟨(h.tm _ hk).oa, (h.tm _ hk).ob⟩
 ·subst hz
  exact Wi.Hold.new w1 [.int .i64 ((K.fb (rcs X)).length : Int)] 3
 ·have := h.lt b (h.fve b e)
  omega
 ·rcases e with e | e
  ·exact nc e
  ·have := hold_lt hc
   omega
theorem fol_end {w W2 w2 : World} {gc : Nat} {F F1 : Nat → Prop} {X X1 : List Rv} {rest : Int} {fr vr1 ve1 : Value} {gm be bc b n q : Nat} {xs : List UInt8} (kb : Keeps F w W2) (hbe : w.heap.size ≤ be) (hC : Cb w2 gc F1 X1 rest fr vr1 ve1 gm be bc) (hX : rcs X1 = K.rd xs)
 (k2 : Keeps (fun x => F x ∨ x = be) W2 w2) (g2 : Di.Grew (fun x => F x ∨ x = be) F1 W2 w2) (hN : ∀ x ∈ X1, x ∈ X ∨ New w x) (fgc : F gc) (hq : (K.fb (rcs X1)).length = q) :
 Follows w gc F X gm b n xs ((w2.setCell ⟨gc, 0, none⟩ (.slice (some ⟨b, 0, none⟩) q n)).setCell ⟨gc, 1, none⟩ (.int .i64 ((n : Int) - q))).drew := by
 have hq2 : (K.fb (K.rd xs)).length = q := by rw [← hX, hq]
 have k0 : Keeps F w w2 := kb.trans k2 (fun x hx e => e.elim id (fun e => absurd hx (by omega)))
 refine ⟨F1, X1, vr1, ve1, hX, ?_, ?_, ?_, hN⟩
 ·rw [hq2]
  exact Cts.below (Ct.to (Ct.to hC.ct 0 (.slice (some ⟨b, 0, none⟩) q n) rfl) 1 (.int .i64 ((n : Int) - q)) rfl) (Below.refl _ _).drew
 ·exact ((k0.setCell (p := ⟨gc, 0, none⟩) (.inl fgc) _).setCell (p := ⟨gc, 1, none⟩) (.inl fgc) _).on (Below.refl _ _).drew
 ·refine ⟨fun x f => ?_, fun x f => ?_⟩
  ·have hs := kb.size
   rcases g2.1 x f with (e | e) | e
   ·exact .inl e
   ·exact .inr (by omega)
   ·exact .inr (by omega)
  ·have := g2.2 x f
   show x < ((w2.setCell ⟨gc, 0, none⟩ (.slice (some ⟨b, 0, none⟩) q n)).setCell ⟨gc, 1, none⟩ (.int .i64 ((n : Int) - q))).heap.size
   rw [Di.size_set, Di.size_set]
   exact this
theorem follow_any {w : World} {gc : Nat} {F : Nat → Prop} {X : List Rv} {rest : Int} {fr vr ve : Value} {gm b n : Nat} {xs : List UInt8} (hT : Fr.Tab w) (hT0 : ¬ F 0) (hu : Fr.Bts w (.slice (some ⟨b, 0, none⟩) n n) xs) (hn : n ≤ 100000) (hbF : ¬ F b) (hbl : b < w.heap.size) (h : Cts w gc F X rest fr vr ve gm) (hfr : Fr.Bts w fr (K.fb (rcs X))) (hX : (K.fb (rcs X)).length ≤ 100000) :
 Calls Tryz.prog 53 #[.pointer (some ⟨gc, 0, none⟩),.slice (some ⟨b, 0, none⟩) n n] w fun e w' => e = .returned (.tuple #[]) ∧ Follows w gc F X gm b n xs w' := by
 have hxn := hu.len.1
 have hXl : X.length ≤ 100000 := by have := h.rg.count; rw [rcs_len] at this; omega
 obtain ⟨A0, c0, rfl⟩ := bts_slice hfr
 have b1 : Below w.heap.size w (w.alloc (.cells #[.pointer (some ⟨gc, 0, none⟩)] 83)) := (Below.refl _ _).alloc (Nat.le_refl _) _
 have hg0 : (w.alloc (.cells #[.pointer (some ⟨gc, 0, none⟩)] 83)).cell? ⟨gc, 0, none⟩ = some (.slice A0 (K.fb (rcs X)).length c0) := (b1.cell (p := ⟨gc, 0, none⟩) (h.lt _ h.fgc)).trans (hold_cell h.blk 0 rfl)
 have HT := Lib.hid hT
 have HU := Lib.hid hu
 have HH := Lib.hid h
 have HFR := Lib.hid hfr
 have HX := Lib.hid hX
 have HXL := Lib.hid hXl
 have HXN := Lib.hid hxn
 have HB := Lib.hid b1
 have HN := Lib.hid hn
 have HT0 := Lib.hid hT0
 have HBF := Lib.hid hbF
 have HBL := Lib.hid hbl
 clear hT hu h hfr hX hXl hxn b1 hn hT0 hbF hbl
 have HP := Lib.hid (pre_any (HU.out.below HB.out) (HFR.out.below HB.out))
 go_enter Tryz.func53, Tryz.ntmps53
 go_wp2_with (fail)
 refine HP.out.mono ?_
 rintro e w1 ⟨rfl, rfl⟩
 cases hp : preB xs (K.fb (rcs X)) with
 | true =>
   obtain ⟨z, hz⟩ := preB_iff.1 hp
   have hH1 := Cts.below HH.out HB.out
   have hC1 : Hold (w.alloc (.cells #[.pointer (some ⟨gc, 0, none⟩)] 83)) w.heap.size 83 [.pointer (some ⟨gc, 0, none⟩)] := Wi.Hold.new w [.pointer (some ⟨gc, 0, none⟩)] 83
   have hcb := cb_begin (z := ((K.fb (rcs X)).length : Int)) hH1 hC1 (fun f => by have := HH.out.lt _ f; omega) rfl
   have hsz : (w.alloc (.cells #[.pointer (some ⟨gc, 0, none⟩)] 83)).heap.size = w.heap.size + 1 := by simp
   rw [hsz] at hcb
   have HCB := Lib.hid hcb
   clear hcb hsz
   have hzl : (K.fb (rcs X)).length + z.length = n := by rw [← HXN.out, hz, List.length_append]
   have hbz := HU.out.drop (K.fb (rcs X)).length (by omega)
   rw [hz, List.drop_left, Nat.zero_add] at hbz
   have HBZ := Lib.hid hbz
   have HZ := Lib.hid hz
   have hrd : rcs X ++ K.rd z = K.rd xs := by rw [hz, K.rd_fb HH.out.rg]
   have HRD := Lib.hid hrd
   have HB2 := Lib.hid (below_new (o := .cells #[.int .i64 ((K.fb (rcs X)).length : Int)] 3) HB.out)
   clear hp hH1 hC1 HP hbz hz hrd
   generalize hq0 : (K.fb (rcs X)).length = q0 at *
   have HQ0 := Lib.hid hq0
   clear hq0
   by_cases hnq : n = q0
   ·subst hnq
    go_wp2_with (fail)
    have hzz : Fr.Tab ((w.alloc (.cells #[.pointer (some ⟨gc, 0, none⟩)] 83)).alloc (.cells #[.int .i64 (n : Int)] 3)) := HT.out.below HB2.out
    have hzn : z = [] := List.eq_nil_of_length_eq_zero (by omega)
    refine (each_any (xs := z) hzz (by rw [hzn]; exact Fr.Bts.nil _ (some ⟨b, 0, none⟩) 0) (by have := HN.out; omega) HCB.out (by rw [HQ0.out]; exact HX.out) HXL.out).mono ?_
    rintro e w2 ⟨rfl, F1, X1, vr1, ve1, hX1, hC2, hS2, hK2, hG2, hN2⟩
    have HX1 := Lib.hid (hX1.trans HRD.out)
    have HC2 := Lib.hid hC2
    have HK2 := Lib.hid hK2
    have HG2 := Lib.hid hG2
    have HN2 := Lib.hid hN2
    have hle : (K.fb (rcs X1)).length ≤ n := by rw [HX1.out, ← HXN.out]; exact K.rd_len xs
    have x1 : w2.cell? ⟨w.heap.size, 0, none⟩ = some (.pointer (some ⟨gc, 0, none⟩)) := hold_cell hC2.own 0 rfl
    have x2 : w2.cell? ⟨w.heap.size + 1, 0, none⟩ = some (.int .i64 ((K.fb (rcs X1)).length : Int)) := hold_cell hC2.box 0 rfl
    have x3 := hold_cell hC2.ct.blk 0 rfl
    have x4 := hold_cell hC2.ct.blk 1 rfl
    have f3 := hold_soft hC2.ct.blk 0
    have f4 := hold_soft hC2.ct.blk 1
    have n1 : gc ≠ w.heap.size := fun e => hC2.nbc (e ▸ hC2.ct.fgc)
    have n2 : gc ≠ w.heap.size + 1 := hold_ne hC2.ct.blk hC2.box (by decide)
    generalize hq : (K.fb (rcs X1)).length = q at *
    have HQ := Lib.hid hq
    clear hq
    have e1 : IntKind.i64.wrap ((n : Int) - (q : Int)) = (n : Int) - (q : Int) := IntWalk.i64_in _ (by have := HN.out; omega)
    have hle2 : (q : Int) ≤ (n : Int) := by omega
    have s1 : ∀ i v, (w2.setCell ⟨gc, i, none⟩ v).cell? ⟨w.heap.size, 0, none⟩ = some (.pointer (some ⟨gc, 0, none⟩)) := fun i v => (World.cell?_of_block (Below.heap_setCell w2 ⟨gc, i, none⟩ v (w.heap.size) (fun e => n1 e.symm))).trans x1
    have s2 : ∀ i v, (w2.setCell ⟨gc, i, none⟩ v).cell? ⟨w.heap.size + 1, 0, none⟩ = some (.int .i64 (q : Int)) := fun i v => (World.cell?_of_block (Below.heap_setCell w2 ⟨gc, i, none⟩ v (w.heap.size + 1) (fun e => n2 e.symm))).trans x2
    have t1 : ∀ i v j u, ((w2.setCell ⟨gc, i, none⟩ v).setCell ⟨gc, j, none⟩ u).cell? ⟨w.heap.size, 0, none⟩ = some (.pointer (some ⟨gc, 0, none⟩)) := fun i v j u => (World.cell?_of_block (Below.heap_setCell _ ⟨gc, j, none⟩ u (w.heap.size) (fun e => n1 e.symm))).trans (s1 i v)
    have t2 : ∀ i v j u, ((w2.setCell ⟨gc, i, none⟩ v).setCell ⟨gc, j, none⟩ u).cell? ⟨w.heap.size + 1, 0, none⟩ = some (.int .i64 (q : Int)) := fun i v j u => (World.cell?_of_block (Below.heap_setCell _ ⟨gc, j, none⟩ u (w.heap.size + 1) (fun e => n2 e.symm))).trans (s2 i v)
    clear hX1 hC2 hS2 hK2 hG2 hN2 hzz
    go_wp2
    go_region_held3 (fun w' => w'.cell? ⟨w.heap.size, 0, none⟩ = some (.pointer (some ⟨gc, 0, none⟩)) ∧ w'.cell? ⟨w.heap.size + 1, 0, none⟩ = some (.int .i64 (q : Int))) (first | exact ⟨x1, x2⟩ | exact ⟨s1 _ _, s2 _ _⟩ | exact ⟨t1 _ _ _ _, t2 _ _ _ _⟩) (fail)
    clear s1 s2 t1 t2 x1 x2 x3 x4 f3 f4
    go_wp2
    refine bodyPost_end (v := .tuple #[]) (by simp [results, Tryz.results53]) rfl ?_
    exact ⟨rfl, fol_end (Keeps.of_below HB2.out) (by omega) HC2.out HX1.out HK2.out HG2.out (fun x hx => (HN2.out x hx).imp id (fun h => h.later HB2.out.size)) HH.out.fgc HQ.out⟩
   ·go_wp2_with (fail)
    have hzz : Fr.Tab ((w.alloc (.cells #[.pointer (some ⟨gc, 0, none⟩)] 83)).alloc (.cells #[.int .i64 (q0 : Int)] 3)) := HT.out.below HB2.out
    refine (each_any (xs := z) hzz (HBZ.out.below HB2.out) (by have := HN.out; omega) HCB.out (by rw [HQ0.out]; exact HX.out) HXL.out).mono ?_
    rintro e w2 ⟨rfl, F1, X1, vr1, ve1, hX1, hC2, hS2, hK2, hG2, hN2⟩
    have HX1 := Lib.hid (hX1.trans HRD.out)
    have HC2 := Lib.hid hC2
    have HK2 := Lib.hid hK2
    have HG2 := Lib.hid hG2
    have HN2 := Lib.hid hN2
    have hle : (K.fb (rcs X1)).length ≤ n := by rw [HX1.out, ← HXN.out]; exact K.rd_len xs
    have x1 : w2.cell? ⟨w.heap.size, 0, none⟩ = some (.pointer (some ⟨gc, 0, none⟩)) := hold_cell hC2.own 0 rfl
    have x2 : w2.cell? ⟨w.heap.size + 1, 0, none⟩ = some (.int .i64 ((K.fb (rcs X1)).length : Int)) := hold_cell hC2.box 0 rfl
    have x3 := hold_cell hC2.ct.blk 0 rfl
    have x4 := hold_cell hC2.ct.blk 1 rfl
    have f3 := hold_soft hC2.ct.blk 0
    have f4 := hold_soft hC2.ct.blk 1
    have n1 : gc ≠ w.heap.size := fun e => hC2.nbc (e ▸ hC2.ct.fgc)
    have n2 : gc ≠ w.heap.size + 1 := hold_ne hC2.ct.blk hC2.box (by decide)
    generalize hq : (K.fb (rcs X1)).length = q at *
    have HQ := Lib.hid hq
    clear hq
    have e1 : IntKind.i64.wrap ((n : Int) - (q : Int)) = (n : Int) - (q : Int) := IntWalk.i64_in _ (by have := HN.out; omega)
    have hle2 : (q : Int) ≤ (n : Int) := by omega
    have s1 : ∀ i v, (w2.setCell ⟨gc, i, none⟩ v).cell? ⟨w.heap.size, 0, none⟩ = some (.pointer (some ⟨gc, 0, none⟩)) := fun i v => (World.cell?_of_block (Below.heap_setCell w2 ⟨gc, i, none⟩ v (w.heap.size) (fun e => n1 e.symm))).trans x1
    have s2 : ∀ i v, (w2.setCell ⟨gc, i, none⟩ v).cell? ⟨w.heap.size + 1, 0, none⟩ = some (.int .i64 (q : Int)) := fun i v => (World.cell?_of_block (Below.heap_setCell w2 ⟨gc, i, none⟩ v (w.heap.size + 1) (fun e => n2 e.symm))).trans x2
    have t1 : ∀ i v j u, ((w2.setCell ⟨gc, i, none⟩ v).setCell ⟨gc, j, none⟩ u).cell? ⟨w.heap.size, 0, none⟩ = some (.pointer (some ⟨gc, 0, none⟩)) := fun i v j u => (World.cell?_of_block (Below.heap_setCell _ ⟨gc, j, none⟩ u (w.heap.size) (fun e => n1 e.symm))).trans (s1 i v)
    have t2 : ∀ i v j u, ((w2.setCell ⟨gc, i, none⟩ v).setCell ⟨gc, j, none⟩ u).cell? ⟨w.heap.size + 1, 0, none⟩ = some (.int .i64 (q : Int)) := fun i v j u => (World.cell?_of_block (Below.heap_setCell _ ⟨gc, j, none⟩ u (w.heap.size + 1) (fun e => n2 e.symm))).trans (s2 i v)
    clear hX1 hC2 hS2 hK2 hG2 hN2 hzz
    go_wp2
    go_region_held3 (fun w' => w'.cell? ⟨w.heap.size, 0, none⟩ = some (.pointer (some ⟨gc, 0, none⟩)) ∧ w'.cell? ⟨w.heap.size + 1, 0, none⟩ = some (.int .i64 (q : Int))) (first | exact ⟨x1, x2⟩ | exact ⟨s1 _ _, s2 _ _⟩ | exact ⟨t1 _ _ _ _, t2 _ _ _ _⟩) (fail)
    clear s1 s2 t1 t2 x1 x2 x3 x4 f3 f4
    go_wp2
    refine bodyPost_end (v := .tuple #[]) (by simp [results, Tryz.results53]) rfl ?_
    exact ⟨rfl, fol_end (Keeps.of_below HB2.out) (by omega) HC2.out HX1.out HK2.out HG2.out (fun x hx => (HN2.out x hx).imp id (fun h => h.later HB2.out.size)) HH.out.fgc HQ.out⟩
 | false =>
   have hH1 := Cts.below HH.out HB.out
   have hC1 : Hold (w.alloc (.cells #[.pointer (some ⟨gc, 0, none⟩)] 83)) w.heap.size 83 [.pointer (some ⟨gc, 0, none⟩)] := Wi.Hold.new w [.pointer (some ⟨gc, 0, none⟩)] 83
   have HC1 := Lib.hid hC1
   have HF1 := Lib.hid (forget_any hH1)
   have HGM := Lib.hid HH.out.fgm
   have HGC := Lib.hid HH.out.fgc
   clear hp HP hH1 hC1
   go_wp2_with (fail)
   refine HF1.out.mono ?_
   rintro e w3 ⟨rfl, hct, hk3, hs3⟩
   have kF : Keeps F (w.alloc (.cells #[.pointer (some ⟨gc, 0, none⟩)] 83)) w3 := hk3.wide (fun x _ e => e.elim (fun e => e ▸ HGC.out) (fun e => e ▸ HGM.out))
   have hnb : ¬ F w.heap.size := fun f => by have := HH.out.lt _ f; omega
   have hc3 : Hold w3 w.heap.size 83 [.pointer (some ⟨gc, 0, none⟩)] := hold_keeps HC1.out kF hnb
   have b3 : Below w3.heap.size w3 (w3.alloc (.cells #[.int .i64 0] 3)) := (Below.refl _ _).alloc (Nat.le_refl _) _
   have HCB := Lib.hid (cb_begin (X := []) (z := 0) hct hc3 hnb rfl)
   have HK3 := Lib.hid (((Keeps.of_below HB.out).trans kF (fun _ _ e => e)).on b3)
   have HT3 := Lib.hid (tab_keeps HT.out HK3.out HT0.out)
   have HU3 := Lib.hid (bts_keeps HU.out HK3.out (fun b' e => by cases e; exact ⟨HBF.out, HBL.out⟩))
   have HS3 := Lib.hid (show w.heap.size ≤ w3.heap.size by rw [hs3]; exact HB.out.size)
   have g3 : w3.cell? ⟨gc, 0, none⟩ = some (.slice none 0 0) := hold_cell hct.blk 0 rfl
   have c3 : w3.cell? ⟨w.heap.size, 0, none⟩ = some (.pointer (some ⟨gc, 0, none⟩)) := hold_cell hc3 0 rfl
   clear hct hk3 hs3 kF hnb hc3 b3
   go_wp2_with (fail)
   have hzz : Fr.Tab (w3.alloc (.cells #[.int .i64 0] 3)) := HT3.out
   refine (each_any (xs := xs) hzz (HU3.out) (by have := HN.out; omega) HCB.out (by rw [rcs_nil, K.fb_nil]; simp) (by simp)).mono ?_
   rintro e w2 ⟨rfl, F1, X1, vr1, ve1, hX1, hC2, hS2, hK2, hG2, hN2⟩
   have HX1 := Lib.hid (show rcs X1 = K.rd xs from hX1)
   have HC2 := Lib.hid hC2
   have HK2 := Lib.hid hK2
   have HG2 := Lib.hid hG2
   have HN2 := Lib.hid hN2
   have hle : (K.fb (rcs X1)).length ≤ n := by rw [HX1.out, ← HXN.out]; exact K.rd_len xs
   have x1 : w2.cell? ⟨w.heap.size, 0, none⟩ = some (.pointer (some ⟨gc, 0, none⟩)) := hold_cell hC2.own 0 rfl
   have x2 : w2.cell? ⟨w3.heap.size, 0, none⟩ = some (.int .i64 ((K.fb (rcs X1)).length : Int)) := hold_cell hC2.box 0 rfl
   have x3 := hold_cell hC2.ct.blk 0 rfl
   have x4 := hold_cell hC2.ct.blk 1 rfl
   have f3 := hold_soft hC2.ct.blk 0
   have f4 := hold_soft hC2.ct.blk 1
   have n1 : gc ≠ w.heap.size := fun e => hC2.nbc (e ▸ hC2.ct.fgc)
   have n2 : gc ≠ w3.heap.size := hold_ne hC2.ct.blk hC2.box (by decide)
   generalize hq : (K.fb (rcs X1)).length = q at *
   have HQ := Lib.hid hq
   clear hq
   have e1 : IntKind.i64.wrap ((n : Int) - (q : Int)) = (n : Int) - (q : Int) := IntWalk.i64_in _ (by have := HN.out; omega)
   have hle2 : (q : Int) ≤ (n : Int) := by omega
   have s1 : ∀ i v, (w2.setCell ⟨gc, i, none⟩ v).cell? ⟨w.heap.size, 0, none⟩ = some (.pointer (some ⟨gc, 0, none⟩)) := fun i v => (World.cell?_of_block (Below.heap_setCell w2 ⟨gc, i, none⟩ v (w.heap.size) (fun e => n1 e.symm))).trans x1
   have s2 : ∀ i v, (w2.setCell ⟨gc, i, none⟩ v).cell? ⟨w3.heap.size, 0, none⟩ = some (.int .i64 (q : Int)) := fun i v => (World.cell?_of_block (Below.heap_setCell w2 ⟨gc, i, none⟩ v (w3.heap.size) (fun e => n2 e.symm))).trans x2
   have t1 : ∀ i v j u, ((w2.setCell ⟨gc, i, none⟩ v).setCell ⟨gc, j, none⟩ u).cell? ⟨w.heap.size, 0, none⟩ = some (.pointer (some ⟨gc, 0, none⟩)) := fun i v j u => (World.cell?_of_block (Below.heap_setCell _ ⟨gc, j, none⟩ u (w.heap.size) (fun e => n1 e.symm))).trans (s1 i v)
   have t2 : ∀ i v j u, ((w2.setCell ⟨gc, i, none⟩ v).setCell ⟨gc, j, none⟩ u).cell? ⟨w3.heap.size, 0, none⟩ = some (.int .i64 (q : Int)) := fun i v j u => (World.cell?_of_block (Below.heap_setCell _ ⟨gc, j, none⟩ u (w3.heap.size) (fun e => n2 e.symm))).trans (s2 i v)
   clear hX1 hC2 hS2 hK2 hG2 hN2 hzz
   go_wp2
   go_region_held3 (fun w' => w'.cell? ⟨w.heap.size, 0, none⟩ = some (.pointer (some ⟨gc, 0, none⟩)) ∧ w'.cell? ⟨w3.heap.size, 0, none⟩ = some (.int .i64 (q : Int))) (first | exact ⟨x1, x2⟩ | exact ⟨s1 _ _, s2 _ _⟩ | exact ⟨t1 _ _ _ _, t2 _ _ _ _⟩) (fail)
   clear s1 s2 t1 t2 x1 x2 x3 x4 f3 f4
   go_wp2
   refine bodyPost_end (v := .tuple #[]) (by simp [results, Tryz.results53]) rfl ?_
   exact ⟨rfl, fol_end (HK3.out) (by exact HS3.out) HC2.out HX1.out HK2.out HG2.out (fun x hx => .inr ((HN2.out x hx).elim (fun e => (List.not_mem_nil e).elim) (fun h => h.later HK3.out.size))) HH.out.fgc HQ.out⟩
end Go.Proofs.YtdachohcjpjblaaGreatDoor
