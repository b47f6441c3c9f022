/- Contract of the law's few: may steps be gone through; no conditions but those that it names. -/
import Derived.Test.YtdachohcjpjblaaGreatDoorFFrs
set_option maxHeartbeats 8000000
set_option maxRecDepth 100000
namespace Go.Proofs.YtdachohcjpjblaaGreatDoor
open Go.ChangeShapes Go.WideShapes Go.ChangeAt Go.RowKit
open Di (Keeps In below_on below_new)
open Wi (Hold)
structure Dv where
 vb : Int
 n : Int
 ps : Int
 msk : UInt8
 X : List Rv
 rv : Value
def Dv.cells (d : Dv) : List Value := [.int .i64 d.vb,.int .i64 d.n,.int .i64 d.ps,.int .u8 (d.msk.toNat : Int), d.rv]
def modX (X : List Rv) : Bool := X.all fun x => Wi.M.modB x.r.c
def Dv.fewB (d : Dv) : Bool := decide (d.X.length ≤ 4) && modX d.X
def fewB (z : Int) (D : List Dv) : Bool := D.all Dv.fewB && (decide (D.length ≤ 30) && (decide (0 ≤ z) && decide (z ≤ 1048576)))
structure DoRows (w : World) (v : Value) (D : List Dv) : Prop where
 row : Wi.RowN 5 w v D.length (D.flatMap Dv.cells)
 tx : ∀ d ∈ D, Rows w d.rv d.X
theorem DoRows.below {w w' : World} {v : Value} {D : List Dv} (h : DoRows w v D) (k : Below w.heap.size w w') : DoRows w' v D := ⟨h.row.below k, fun d hd => (h.tx d hd).below k⟩
theorem dflat_at {D : List Dv} : ∀ {k : Nat} {d : Dv}, D[k]? = some d → ∀ j v, d.cells[j]? = some v → (D.flatMap Dv.cells)[k * 5 + j]? = some v := by
 induction D with
 | nil => intro k x h; simp at h
 | cons y D ih =>
   intro k d h j v hv
   rw [List.flatMap_cons]
   have hl : y.cells.length = 5 := rfl
   have hj : j < 5 := by have := (List.getElem?_eq_some_iff.1 hv).1; exact this
   cases k with
   | zero =>
     simp only [List.getElem?_cons_zero, Option.some.injEq] at h
     subst h
     rw [Nat.zero_mul, Nat.zero_add, List.getElem?_append_left (by omega)]
     exact hv
   | succ k =>
     rw [List.getElem?_append_right (by omega), show (k + 1) * 5 + j - y.cells.length = k * 5 + j by omega]
     exact ih (by simpa using h) j v hv
theorem drow_at {w : World} {A : Option Addr} {c k : Nat} {D : List Dv} {d : Dv} (h : Wi.RowN 5 w (.slice A D.length c) D.length (D.flatMap Dv.cells)) (hx : D[k]? = some d) : ∃ b o, A = some ⟨b, o, none⟩ ∧ b < w.heap.size ∧ w.cell? ⟨b, o + k * 5, none⟩ = some (.int .i64 d.vb) ∧ w.cell? ⟨b, o + k * 5 + 1, none⟩ = some (.int .i64 d.n) ∧ w.cell? ⟨b, o + k * 5 + 2, none⟩ = some (.int .i64 d.ps) ∧ w.cell? ⟨b, o + k * 5 + 3, none⟩ = some (.int .u8 (d.msk.toNat : Int)) ∧ w.cell? ⟨b, o + k * 5 + 4, none⟩ = some d.rv := by
 have hk := (List.getElem?_eq_some_iff.1 hx).1
 obtain ⟨hl, A', c', ev, hc, hy⟩ := h
 simp only [Value.slice.injEq] at ev
 obtain ⟨rfl, -, rfl⟩ := ev
 obtain ⟨b, o, rfl, hb, hz⟩ := hy (by omega)
 have g : ∀ j v, d.cells[j]? = some v → w.cell? ⟨b, o + k * 5 + j, none⟩ = some v := fun j v hv => by
  rw [Nat.add_assoc]; exact hz (k * 5 + j) v (dflat_at hx j v hv)
 exact ⟨b, o, rfl, hb, g 0 _ rfl, g 1 _ rfl, g 2 _ rfl, g 3 _ rfl, g 4 _ rfl⟩
theorem few09_any {w : World} {v : Value} {D : List Dv} (z : Int) (h : DoRows w v D) (hbig : D.length ≤ 9223372036854775807) : Calls Tryz.prog 18 #[.int .i64 z, v] w fun e w' => e = .returned (.bool (fewB z D)) ∧ Below w.heap.size w w' := by
 obtain ⟨A, c, rfl⟩ := rowN_sliceOf h.row
 have HH := Lib.hid h
 clear h
 go_enter Tryz.func18, Tryz.ntmps18
 go_wp2
 go_loopw [11] (fun i wr => ∃ k : Nat, i = .int .i64 k ∧ k ≤ D.length ∧ Hid (Below w.heap.size w wr) ∧ Hid (∀ d ∈ D.take k, Dv.fewB d = true)) (fun i _ => D.length - (intOf i).toNat)
 case atStart => exact ⟨0, rfl, Nat.zero_le _, Lib.hid (Below.refl _ _), Lib.hid (fun d hd => (List.not_mem_nil hd).elim)⟩
 case round =>
  obtain ⟨k, rfl, hk, HW, HA⟩ := hrel
  by_cases hlt : k < D.length
  ·obtain ⟨d, hd⟩ : ∃ d, D[k]? = some d := ⟨_, List.getElem?_eq_getElem hlt⟩
   have hdm : d ∈ D := List.mem_of_getElem? hd
   obtain ⟨b, o, rfl, hbl, q0, q1, q2, q3, q4⟩ := drow_at (HH.out.below HW.out).row hd
   have HNO := Lib.hid (show Dv.fewB d = false → fewB z D = false from fun e => by
    have : D.all Dv.fewB = false := by
     rw [Bool.eq_false_iff]
     intro e2
     have := List.all_eq_true.1 e2 d hdm
     rw [e] at this; cases this
    unfold fewB
    rw [this]; rfl)
   have HYES := Lib.hid (show Dv.fewB d = true → ∀ d' ∈ D.take (k + 1), Dv.fewB d' = true from fun e d' hd' => by
    rw [List.take_add_one, hd, Option.toList_some, List.mem_append, List.mem_singleton] at hd'
    rcases hd' with hd' | rfl
    ·exact HA.out d' hd'
    ·exact e)
   have HR := Lib.hid ((HH.out.tx d hdm).below HW.out)
   obtain ⟨vb, n, ps, msk, X, rv⟩ := d
   dsimp only at q0 q1 q2 q3 q4
   obtain ⟨A1, c1, ev⟩ := rowN_sliceOf HR.out.row
   dsimp only at ev
   subst ev
   have hb1 : Below wr.heap.size wr (wr.alloc (.cells #[.int .i64 vb,.int .i64 n,.int .i64 ps,.int .u8 (msk.toNat : Int),.slice A1 X.length c1] 43)) := below_new (Below.refl _ _)
   have HW1 := Lib.hid (below_on HW.out hb1)
   have HR1 := Lib.hid (HR.out.below hb1)
   have hk1 : (k : Int) < (D.length : Int) := by omega
   have HLT := Lib.hid hlt
   clear hd hdm hbl hb1 hlt
   by_cases h4 : X.length ≤ 4
   ·have HX4 := Lib.hid h4
    have h4' : ¬ ((4 : Int) < (X.length : Int)) := by omega
    have HHO := Lib.hid (Wi.Hold.new wr [.int .i64 vb,.int .i64 n,.int .i64 ps,.int .u8 (msk.toNat : Int),.slice A1 X.length c1] 43)
    go_wp2
    generalize hW1 : (wr.alloc (.cells #[.int .i64 vb,.int .i64 n,.int .i64 ps,.int .u8 (msk.toNat : Int),.slice A1 X.length c1] 43)) = W1 at *
    have HHH := Lib.hid HHO.out
    clear hW1
    go_loopw [22] (fun i wr => ∃ j : Nat, i = .int .i64 j ∧ j ≤ X.length ∧ Hid (Below W1.heap.size W1 wr) ∧ Hid (∀ x ∈ X.take j, Wi.M.modB x.r.c = true)) (fun i _ => X.length - (intOf i).toNat)
    case atStart => exact ⟨0, rfl, Nat.zero_le _, Lib.hid (Below.refl _ _), Lib.hid (fun d hd => (List.not_mem_nil hd).elim)⟩
    case round =>
     obtain ⟨j, rfl, hj, HV, HM⟩ := hrel
     by_cases hjl : j < X.length
     ·obtain ⟨x, hx⟩ : ∃ x, X[j]? = some x := ⟨_, List.getElem?_eq_getElem hjl⟩
      have hxm : x ∈ X := List.mem_of_getElem? hx
      obtain ⟨b2, o2, rfl, hbl2, hrr⟩ := rowN_range (HR1.out.below HV.out).row hx
      have HX := Lib.hid ((HR1.out.tx x hxm).below HV.out)
      have HXN := Lib.hid (show Wi.M.modB x.r.c = false → modX X = false from fun e => by
       rw [Bool.eq_false_iff]
       intro e2
       have := List.all_eq_true.1 e2 x hxm
       rw [e] at this; cases this)
      have HXY := Lib.hid (show Wi.M.modB x.r.c = true → ∀ x' ∈ X.take (j + 1), Wi.M.modB x'.r.c = true from fun e x' hx' => by
       rw [List.take_add_one, hx, Option.toList_some, List.mem_append, List.mem_singleton] at hx'
       rcases hx' with hx' | rfl
       ·exact HM.out x' hx'
       ·exact e)
      obtain ⟨r, va, vb'⟩ := x
      obtain ⟨A3, c3, ea⟩ := rowN_sliceOf HX.out.rs
      obtain ⟨A4, c4, eb⟩ := rowN_sliceOf HX.out.ws
      dsimp only at ea eb
      subst ea eb
      have HRR := Lib.hid (show wr.rangeAt b2 (o2 + j * 25) [.int .i64 r.ir,.int .i64 r.is,.int .i64 r.st,.int .i64 r.pn,.int .i64 r.pr,.int .i64 r.bn,.int .i64 r.br,.int .i64 r.c.k,.int .i64 r.c.tc,.int .i64 r.c.tn,.int .i64 r.c.tt,.int .i64 r.c.tk,.int .i64 r.c.sh, (.slice A3 r.c.rs.length c3), (.slice A4 r.c.ws.length c4),.bool r.c.cm,.int .i64 r.sq,.int .i64 r.d0,.int .i64 r.d1,.int .i64 r.d2,.int .i64 r.d3,.int .i64 r.d4,.int .i64 r.d5,.int .i64 r.d6,.bool r.kp] from hrr)
      have hb3 : Below wr.heap.size wr (wr.alloc (.cells #[.int .i64 r.ir,.int .i64 r.is,.int .i64 r.st,.int .i64 r.pn,.int .i64 r.pr,.int .i64 r.bn,.int .i64 r.br,.int .i64 r.c.k,.int .i64 r.c.tc,.int .i64 r.c.tn,.int .i64 r.c.tt,.int .i64 r.c.tk,.int .i64 r.c.sh, (.slice A3 r.c.rs.length c3), (.slice A4 r.c.ws.length c4),.bool r.c.cm,.int .i64 r.sq,.int .i64 r.d0,.int .i64 r.d1,.int .i64 r.d2,.int .i64 r.d3,.int .i64 r.d4,.int .i64 r.d5,.int .i64 r.d6,.bool r.kp] 67)) := below_new (Below.refl _ _)
      have HV1 := Lib.hid (below_on HV.out hb3)
      have HX1 := Lib.hid (HX.out.below hb3)
      have hcw : (wr.alloc (.cells #[.int .i64 r.ir,.int .i64 r.is,.int .i64 r.st,.int .i64 r.pn,.int .i64 r.pr,.int .i64 r.bn,.int .i64 r.br,.int .i64 r.c.k,.int .i64 r.c.tc,.int .i64 r.c.tn,.int .i64 r.c.tt,.int .i64 r.c.tk,.int .i64 r.c.sh, (.slice A3 r.c.rs.length c3), (.slice A4 r.c.ws.length c4),.bool r.c.cm,.int .i64 r.sq,.int .i64 r.d0,.int .i64 r.d1,.int .i64 r.d2,.int .i64 r.d3,.int .i64 r.d4,.int .i64 r.d5,.int .i64 r.d6,.bool r.kp] 67)).rangeAt wr.heap.size 7 [.int .i64 r.c.k,.int .i64 r.c.tc,.int .i64 r.c.tn,.int .i64 r.c.tt,.int .i64 r.c.tk,.int .i64 r.c.sh,.slice A3 r.c.rs.length c3,.slice A4 r.c.ws.length c4,.bool r.c.cm] := fun i u hi => by
       have hh := Wi.Hold.new wr [.int .i64 r.ir,.int .i64 r.is,.int .i64 r.st,.int .i64 r.pn,.int .i64 r.pr,.int .i64 r.bn,.int .i64 r.br,.int .i64 r.c.k,.int .i64 r.c.tc,.int .i64 r.c.tn,.int .i64 r.c.tt,.int .i64 r.c.tk,.int .i64 r.c.sh, (.slice A3 r.c.rs.length c3), (.slice A4 r.c.ws.length c4),.bool r.c.cm,.int .i64 r.sq,.int .i64 r.d0,.int .i64 r.d1,.int .i64 r.d2,.int .i64 r.d3,.int .i64 r.d4,.int .i64 r.d5,.int .i64 r.d6,.bool r.kp] 67
       refine hold_cell hh (7 + i) ?_
       match i, hi with
       | 0, hi => exact hi
       | 1, hi => exact hi
       | 2, hi => exact hi
       | 3, hi => exact hi
       | 4, hi => exact hi
       | 5, hi => exact hi
       | 6, hi => exact hi
       | 7, hi => exact hi
       | 8, hi => exact hi
      have HCW := Lib.hid hcw
      have hj1 : (j : Int) < (X.length : Int) := by omega
      have HF := Lib.hid (Wi.few_one (w := wr.alloc (.cells #[.int .i64 r.ir,.int .i64 r.is,.int .i64 r.st,.int .i64 r.pn,.int .i64 r.pr,.int .i64 r.bn,.int .i64 r.br,.int .i64 r.c.k,.int .i64 r.c.tc,.int .i64 r.c.tn,.int .i64 r.c.tt,.int .i64 r.c.tk,.int .i64 r.c.sh, (.slice A3 r.c.rs.length c3), (.slice A4 r.c.ws.length c4),.bool r.c.cm,.int .i64 r.sq,.int .i64 r.d0,.int .i64 r.d1,.int .i64 r.d2,.int .i64 r.d3,.int .i64 r.d4,.int .i64 r.d5,.int .i64 r.d6,.bool r.kp] 67)) (b := wr.heap.size + 1) (by simp) r.c HX1.out.rs HX1.out.ws)
      have hb4 : Below (wr.alloc (.cells #[.int .i64 r.ir,.int .i64 r.is,.int .i64 r.st,.int .i64 r.pn,.int .i64 r.pr,.int .i64 r.bn,.int .i64 r.br,.int .i64 r.c.k,.int .i64 r.c.tc,.int .i64 r.c.tn,.int .i64 r.c.tt,.int .i64 r.c.tk,.int .i64 r.c.sh, (.slice A3 r.c.rs.length c3), (.slice A4 r.c.ws.length c4),.bool r.c.cm,.int .i64 r.sq,.int .i64 r.d0,.int .i64 r.d1,.int .i64 r.d2,.int .i64 r.d3,.int .i64 r.d4,.int .i64 r.d5,.int .i64 r.d6,.bool r.kp] 67)).heap.size (wr.alloc (.cells #[.int .i64 r.ir,.int .i64 r.is,.int .i64 r.st,.int .i64 r.pn,.int .i64 r.pr,.int .i64 r.bn,.int .i64 r.br,.int .i64 r.c.k,.int .i64 r.c.tc,.int .i64 r.c.tn,.int .i64 r.c.tt,.int .i64 r.c.tk,.int .i64 r.c.sh, (.slice A3 r.c.rs.length c3), (.slice A4 r.c.ws.length c4),.bool r.c.cm,.int .i64 r.sq,.int .i64 r.d0,.int .i64 r.d1,.int .i64 r.d2,.int .i64 r.d3,.int .i64 r.d4,.int .i64 r.d5,.int .i64 r.d6,.bool r.kp] 67)) ((wr.alloc (.cells #[.int .i64 r.ir,.int .i64 r.is,.int .i64 r.st,.int .i64 r.pn,.int .i64 r.pr,.int .i64 r.bn,.int .i64 r.br,.int .i64 r.c.k,.int .i64 r.c.tc,.int .i64 r.c.tn,.int .i64 r.c.tt,.int .i64 r.c.tk,.int .i64 r.c.sh, (.slice A3 r.c.rs.length c3), (.slice A4 r.c.ws.length c4),.bool r.c.cm,.int .i64 r.sq,.int .i64 r.d0,.int .i64 r.d1,.int .i64 r.d2,.int .i64 r.d3,.int .i64 r.d4,.int .i64 r.d5,.int .i64 r.d6,.bool r.kp] 67)).alloc (.cells #[.int .i64 r.c.k,.int .i64 r.c.tc,.int .i64 r.c.tn,.int .i64 r.c.tt,.int .i64 r.c.tk,.int .i64 r.c.sh,.slice A3 r.c.rs.length c3,.slice A4 r.c.ws.length c4,.bool r.c.cm] 63)) := below_new (Below.refl _ _)
      have HV2 := Lib.hid (below_on HV1.out hb4)
      clear hx hxm hbl2 hrr hb3 hcw hb4 HX1 HX
      go_wp2_with (first
       | (with_reducible refine wpList_load_mid rfl 67 _ rfl b2 (o2 + j * 25) rfl [.int .i64 r.ir,.int .i64 r.is,.int .i64 r.st,.int .i64 r.pn,.int .i64 r.pr,.int .i64 r.bn,.int .i64 r.br,.int .i64 r.c.k,.int .i64 r.c.tc,.int .i64 r.c.tn,.int .i64 r.c.tt,.int .i64 r.c.tk,.int .i64 r.c.sh, (.slice A3 r.c.rs.length c3), (.slice A4 r.c.ws.length c4),.bool r.c.cm,.int .i64 r.sq,.int .i64 r.d0,.int .i64 r.d1,.int .i64 r.d2,.int .i64 r.d3,.int .i64 r.d4,.int .i64 r.d5,.int .i64 r.d6,.bool r.kp] _ HRR.out Tryz.underlying67 rfl (by kernel_rfl) ?_)
       | (with_reducible refine Wi.wpList_store_fresh rfl 67 _ _ rfl wr.heap.size rfl 67 _ [.int .i64 r.ir,.int .i64 r.is,.int .i64 r.st,.int .i64 r.pn,.int .i64 r.pr,.int .i64 r.bn,.int .i64 r.br,.int .i64 r.c.k,.int .i64 r.c.tc,.int .i64 r.c.tn,.int .i64 r.c.tt,.int .i64 r.c.tk,.int .i64 r.c.sh, (.slice A3 r.c.rs.length c3), (.slice A4 r.c.ws.length c4),.bool r.c.cm,.int .i64 r.sq,.int .i64 r.d0,.int .i64 r.d1,.int .i64 r.d2,.int .i64 r.d3,.int .i64 r.d4,.int .i64 r.d5,.int .i64 r.d6,.bool r.kp] rfl rfl rfl (by kernel_rfl) rfl ?_)
       | (with_reducible refine wpList_load_mid rfl 63 _ rfl wr.heap.size 7 rfl _ _ HCW.out Tryz.underlying63 rfl (by kernel_rfl) ?_)
       | fail)
      refine HF.out.mono ?_
      rintro e w5 ⟨rfl, hb5⟩
      have HV5 := Lib.hid (below_on HV2.out hb5)
      have HW5 := Lib.hid (below_on HW1.out HV5.out)
      clear hb5 HCW HRR
      cases hm : Wi.M.modB r.c with
      | false =>
        have HRES := Lib.hid (HNO.out (show Dv.fewB _ = false by unfold Dv.fewB; dsimp only; rw [HXN.out hm, Bool.and_false]))
        clear hm
        go_wp2
        go_ret
        exact ⟨by rw [HRES.out]; rfl, HW5.out⟩
      | true =>
        have HM1 := Lib.hid (HXY.out hm)
        clear hm
        go_wp2
        go_roundw
        case rel => exact ⟨j + 1, by go_num, hjl, HV5, HM1⟩
        case measure => simp [intOf]; omega
     ·obtain rfl : j = X.length := by omega
      have HALL := Lib.hid (HYES.out (show Dv.fewB _ = true by
       unfold Dv.fewB
       dsimp only
       rw [decide_eq_true HX4.out, Bool.true_and]
       refine List.all_eq_true.2 fun x hx => HM.out x ?_
       rw [List.take_length]; exact hx))
      have HWF := Lib.hid (below_on HW1.out HV.out)
      go_wp2
      go_roundw
      case rel =>
       have hk9 := HLT.out
       exact ⟨k + 1, by go_num, HLT.out, HWF, HALL⟩
      case measure => simp [intOf]; have := HLT.out; omega
   ·have HRES := Lib.hid (HNO.out (show Dv.fewB _ = false by unfold Dv.fewB; dsimp only; rw [decide_eq_false h4, Bool.false_and]))
    have h4' : (4 : Int) < (X.length : Int) := by omega
    go_wp2
    go_ret
    exact ⟨by rw [HRES.out]; rfl, HW1.out⟩
  ·obtain rfl : k = D.length := by omega
   have HALL := Lib.hid (show D.all Dv.fewB = true from List.all_eq_true.2 fun d hd => HA.out d (by rw [List.take_length]; exact hd))
   have HRES := Lib.hid (show fewB z D = (decide ((D.length : Int) ≤ 30) && (decide (0 ≤ z) && decide (z ≤ 1048576))) by
    unfold fewB
    rw [HALL.out, Bool.true_and]
    congr 1
    rw [Bool.eq_iff_iff, decide_eq_true_iff, decide_eq_true_iff]; omega)
   clear HA HALL hk
   by_cases g1 : (D.length : Int) ≤ 30
   ·by_cases g2 : (0 : Int) ≤ z
    ·by_cases g3 : z ≤ 1048576
     ·have e1 := decide_eq_true g1
      have e2 := decide_eq_true g2
      have e3 := decide_eq_true g3
      go_wp2
      go_ret
      exact ⟨by rw [HRES.out, e1, e2, e3]; rfl, HW.out⟩
     ·have e1 := decide_eq_true g1
      have e2 := decide_eq_true g2
      have e3 := decide_eq_false g3
      go_wp2
      go_ret
      exact ⟨by rw [HRES.out, e1, e2, e3]; rfl, HW.out⟩
    ·have e1 := decide_eq_true g1
     have e2 := decide_eq_false g2
     go_wp2
     go_ret
     exact ⟨by rw [HRES.out, e1, e2]; rfl, HW.out⟩
   ·have e1 := decide_eq_false g1
    go_wp2
    go_ret
    exact ⟨by rw [HRES.out, e1]; rfl, HW.out⟩
end Go.Proofs.YtdachohcjpjblaaGreatDoor
