/- The document's Compact by value; conditions: rows that read. -/
import Derived.Test.YtdachohcjpjblaaGreatDoorFRfh
import Derived.Test.YtdachohcjpjblaaGreatDoorFRfi
import Derived.Test.YtdachohcjpjblaaGreatDoorFBx
set_option maxHeartbeats 8000000
set_option maxRecDepth 100000
namespace Go.Proofs.YtdachohcjpjblaaGreatDoor
open Go.ChangeShapes Go.WideShapes Go.ChangeAt Go.RowKit
open Di (Keeps In below_on below_new)
open Wi (Hold)
namespace Rf
theorem lastR_take {A : List K.Rec} {j : Nat} {r : K.Rec} (h : A[j]? = some r) (k : Ky) : K.lastR (A.drop j) k = if (K.lastR (A.drop (j + 1)) k).isSome then K.lastR (A.drop (j + 1)) k else if k = (r.ir, r.is) then some r else none := by
 have e : A.drop j = r :: A.drop (j + 1) := by
  rw [List.drop_eq_getElem_cons (List.getElem?_eq_some_iff.1 h).1]
  rw [(List.getElem?_eq_some_iff.1 h).2]
 rw [e]
 unfold K.lastR
 rw [List.reverse_cons, List.find?_append]
 cases (A.drop (j + 1)).reverse.find? fun r => decide (k = (r.ir, r.is)) with
 | some x => rfl
 | none =>
   by_cases hk : k = (r.ir, r.is)
   ·simp [hk]
   ·simp [hk]
theorem lastR_drop {A : List K.Rec} {j : Nat} {k : Ky} {r : K.Rec} (h : K.lastR (A.drop j) k = some r) : K.lastR A k = some r := by
 have e : A = A.take j ++ A.drop j := (List.take_append_drop j A).symm
 unfold K.lastR at h ⊢
 rw [e, List.reverse_append, List.find?_append, h]; rfl
theorem set67 {w : World} {b : Nat} {Z : List Value} {y : Rv} (hh : Hold w b 67 Z) (hl : Z.length = 25) : Hold (w.setCells b 0 y.cells) b 67 y.cells := by
 have := Wi.Hold.set (b := b) (t := 67) y.cells [] Z [] (by rw [hl]; rfl) w (by simpa using hh)
 simpa using this
theorem results26 {tmps : Array Value} {w : World} {b : Nat} {L : List Value} {x : Value} (hp : tmps.getD 4 undef = .pointer (some ⟨b, 0, none⟩)) (hx : tmps.getD 5 undef = x) (hr : w.rangeAt b 0 L) (hi : (Tryz.prog.info? 67).map (·.size) = some L.length) :
 (results Tryz.f26 tmps).run Tryz.prog w = .ok (.tuple #[.agg L.toArray, x]) w := by
 rw [results_cell_tmp rfl, hp, hx]
 simp [asAddr, run_loadVar_mid w b 0 67 L _ hr Tryz.underlying67 rfl hi, Result.andThen]
theorem get_ref {w : World} {v : Value} {Y : List Rv} (sf sz : Int) (k1 k2 : Int) (h : Rows w v Y) (hl : Y.length ≤ 100000) : Calls Tryz.prog 26 #[.agg #[v,.int .i64 sf,.int .i64 sz],.agg #[.int .i64 k1,.int .i64 k2]] w fun e w' => Below w.heap.size w w' ∧
 ((∃ y ∈ Y, e = .returned (.tuple #[y.val,.bool true]) ∧ K.lastR (rcs Y) (k1, k2) = some y.r) ∨ (e = .returned (.tuple #[Rv.zero.val,.bool false]) ∧ K.lastR (rcs Y) (k1, k2) = none)) := by
 obtain ⟨A, c, rfl⟩ := rowN_sliceOf h.row
 have HH := Lib.hid h
 clear h
 have e1 : IntKind.i64.wrap ((Y.length : Int) - 1) = (Y.length : Int) - 1 := IntWalk.i64_in _ (by omega)
 go_enter Tryz.func26, Tryz.ntmps26
 go_wp2
 have HA := Lib.hid (Wi.Hold.new w [.slice A Y.length c,.int .i64 sf,.int .i64 sz] 41)
 have HB := Lib.hid (Wi.Hold.new (w.alloc (.cells #[.slice A Y.length c,.int .i64 sf,.int .i64 sz] 41)) [.int .i64 k1,.int .i64 k2] 53)
 have hb0 : Below w.heap.size w (((w.alloc (.cells #[.slice A Y.length c,.int .i64 sf,.int .i64 sz] 41)).alloc (.cells #[.int .i64 k1,.int .i64 k2] 53)).alloc (.cells #[.int .i64 0,.int .i64 0,.int .i64 0,.int .i64 0,.int .i64 0,.int .i64 0,.int .i64 0,.int .i64 0,.int .i64 0,.int .i64 0,.int .i64 0,.int .i64 0,.int .i64 0,.slice none 0 0,.slice none 0 0,.bool false,.int .i64 0,.int .i64 0,.int .i64 0,.int .i64 0,.int .i64 0,.int .i64 0,.int .i64 0,.int .i64 0,.bool false] 67)) := below_new (below_new (below_new (Below.refl _ _)))
 have HB0 := Lib.hid hb0
 have HA0 := Lib.hid (show Hold (((w.alloc (.cells #[.slice A Y.length c,.int .i64 sf,.int .i64 sz] 41)).alloc (.cells #[.int .i64 k1,.int .i64 k2] 53)).alloc (.cells #[.int .i64 0,.int .i64 0,.int .i64 0,.int .i64 0,.int .i64 0,.int .i64 0,.int .i64 0,.int .i64 0,.int .i64 0,.int .i64 0,.int .i64 0,.int .i64 0,.int .i64 0,.slice none 0 0,.slice none 0 0,.bool false,.int .i64 0,.int .i64 0,.int .i64 0,.int .i64 0,.int .i64 0,.int .i64 0,.int .i64 0,.int .i64 0,.bool false] 67)) w.heap.size 41 [.slice A Y.length c,.int .i64 sf,.int .i64 sz] from HA.out.on (below_new (below_new (Below.refl _ _))))
 have HK0 := Lib.hid (show Hold (((w.alloc (.cells #[.slice A Y.length c,.int .i64 sf,.int .i64 sz] 41)).alloc (.cells #[.int .i64 k1,.int .i64 k2] 53)).alloc (.cells #[.int .i64 0,.int .i64 0,.int .i64 0,.int .i64 0,.int .i64 0,.int .i64 0,.int .i64 0,.int .i64 0,.int .i64 0,.int .i64 0,.int .i64 0,.int .i64 0,.int .i64 0,.slice none 0 0,.slice none 0 0,.bool false,.int .i64 0,.int .i64 0,.int .i64 0,.int .i64 0,.int .i64 0,.int .i64 0,.int .i64 0,.int .i64 0,.bool false] 67)) (w.heap.size + 1) 53 [.int .i64 k1,.int .i64 k2] from by
  have := HB.out.on (below_new (o := .cells #[.int .i64 0,.int .i64 0,.int .i64 0,.int .i64 0,.int .i64 0,.int .i64 0,.int .i64 0,.int .i64 0,.int .i64 0,.int .i64 0,.int .i64 0,.int .i64 0,.int .i64 0,.slice none 0 0,.slice none 0 0,.bool false,.int .i64 0,.int .i64 0,.int .i64 0,.int .i64 0,.int .i64 0,.int .i64 0,.int .i64 0,.int .i64 0,.bool false] 67) (Below.refl _ _))
  rw [show (w.alloc (.cells #[.slice A Y.length c,.int .i64 sf,.int .i64 sz] 41)).heap.size = w.heap.size + 1 by simp] at this
  exact this)
 have HC0 := Lib.hid (show Hold (((w.alloc (.cells #[.slice A Y.length c,.int .i64 sf,.int .i64 sz] 41)).alloc (.cells #[.int .i64 k1,.int .i64 k2] 53)).alloc (.cells #[.int .i64 0,.int .i64 0,.int .i64 0,.int .i64 0,.int .i64 0,.int .i64 0,.int .i64 0,.int .i64 0,.int .i64 0,.int .i64 0,.int .i64 0,.int .i64 0,.int .i64 0,.slice none 0 0,.slice none 0 0,.bool false,.int .i64 0,.int .i64 0,.int .i64 0,.int .i64 0,.int .i64 0,.int .i64 0,.int .i64 0,.int .i64 0,.bool false] 67)) (w.heap.size + 1 + 1) 67 [.int .i64 0,.int .i64 0,.int .i64 0,.int .i64 0,.int .i64 0,.int .i64 0,.int .i64 0,.int .i64 0,.int .i64 0,.int .i64 0,.int .i64 0,.int .i64 0,.int .i64 0,.slice none 0 0,.slice none 0 0,.bool false,.int .i64 0,.int .i64 0,.int .i64 0,.int .i64 0,.int .i64 0,.int .i64 0,.int .i64 0,.int .i64 0,.bool false] from by
  have := Wi.Hold.new ((w.alloc (.cells #[.slice A Y.length c,.int .i64 sf,.int .i64 sz] 41)).alloc (.cells #[.int .i64 k1,.int .i64 k2] 53)) [.int .i64 0,.int .i64 0,.int .i64 0,.int .i64 0,.int .i64 0,.int .i64 0,.int .i64 0,.int .i64 0,.int .i64 0,.int .i64 0,.int .i64 0,.int .i64 0,.int .i64 0,.slice none 0 0,.slice none 0 0,.bool false,.int .i64 0,.int .i64 0,.int .i64 0,.int .i64 0,.int .i64 0,.int .i64 0,.int .i64 0,.int .i64 0,.bool false] 67
  rw [show ((w.alloc (.cells #[.slice A Y.length c,.int .i64 sf,.int .i64 sz] 41)).alloc (.cells #[.int .i64 k1,.int .i64 k2] 53)).heap.size = w.heap.size + 1 + 1 by simp] at this
  exact this)
 clear hb0 HA HB
 generalize hW0 : ((w.alloc (.cells #[.slice A Y.length c,.int .i64 sf,.int .i64 sz] 41)).alloc (.cells #[.int .i64 k1,.int .i64 k2] 53)).alloc (.cells #[.int .i64 0,.int .i64 0,.int .i64 0,.int .i64 0,.int .i64 0,.int .i64 0,.int .i64 0,.int .i64 0,.int .i64 0,.int .i64 0,.int .i64 0,.int .i64 0,.int .i64 0,.slice none 0 0,.slice none 0 0,.bool false,.int .i64 0,.int .i64 0,.int .i64 0,.int .i64 0,.int .i64 0,.int .i64 0,.int .i64 0,.int .i64 0,.bool false] 67) = W0 at *
 have HZ0 := Lib.hid hW0
 clear hW0
 go_loopw [6] (fun i wr => ∃ j : Nat, i = .int .i64 ((j : Int) - 1) ∧ j ≤ Y.length ∧ Hid (K.lastR ((rcs Y).drop j) (k1, k2) = none) ∧ Hid (Below W0.heap.size W0 wr)) (fun i _ => (intOf i + 1).toNat)
 case atStart => exact ⟨Y.length, rfl, Nat.le_refl _, Lib.hid (by rw [List.drop_of_length_le (by rw [rcs_len]; exact Nat.le_refl _)]; rfl), Lib.hid (Below.refl _ _)⟩
 case round =>
  obtain ⟨j, rfl, hj, HN, HQ⟩ := hrel
  cases j with
  | zero =>
    have HC2 := Lib.hid (HC0.out.on HQ.out)
    have a2 := hold_cell (HA0.out.on HQ.out) 0 rfl
    rw [show (((0 : Nat) : Int) - 1) = -1 by omega]
    go_wp2_with (first
     | (refine Wi.store_list rfl 67 (.tmp 4) (.tmp 28) rfl (w.heap.size + 1 + 1) 0 Rv.zero.cells rfl rfl (HC2.out.there (by decide)) (by kernel_rfl) (by kernel_rfl) ?_)
     | fail)
    have hh := set67 HC2.out rfl (y := Rv.zero)
    refine bodyPost_ret (results26 (b := w.heap.size + 1 + 1) (L := Rv.zero.cells) (x := .bool false) rfl rfl (fun u v hv => hold_cell hh (0 + u) (by rw [Nat.zero_add]; exact hv)) (by kernel_rfl)) rfl ?_
    exact ⟨(below_on HB0.out HQ.out).trans (Wi.below_setCells (by omega) _ _ _ _ (Below.refl _ _)), .inr ⟨rfl, HN.out⟩⟩
  | succ j =>
    obtain ⟨x, hx⟩ : ∃ x, Y[j]? = some x := ⟨_, List.getElem?_eq_getElem (by omega)⟩
    have hxm : x ∈ Y := List.mem_of_getElem? hx
    obtain ⟨b, o, rfl, hbl, hrr⟩ := rowN_range ((HH.out.below HB0.out).below HQ.out).row hx
    have e2 : (((j + 1 : Nat) : Int) - 1) = (j : Int) := by omega
    rw [e2]
    have hj0 : (0 : Int) ≤ (j : Int) := by omega
    have hj1 : (j : Int) < (Y.length : Int) := by omega
    have a0 := hold_cell (HA0.out.on HQ.out) 0 rfl
    have z0 := hold_cell (HK0.out.on HQ.out) 0 rfl
    have z1 := hold_cell (HK0.out.on HQ.out) 1 rfl
    have y0 : wr.cell? ⟨b, o + j * 25, none⟩ = some (.int .i64 x.r.ir) := by have := hrr 0 _ rfl; simpa using this
    have y1 : wr.cell? ⟨b, o + j * 25 + 1, none⟩ = some (.int .i64 x.r.is) := hrr 1 _ rfl
    have HX := Lib.hid (lastR_take (A := rcs Y) (j := j) (r := x.r) (by unfold rcs; rw [List.getElem?_map, hx]; rfl) (k1, k2))
    have HXM := Lib.hid hxm
    have HTX := Lib.hid ((HH.out.below HB0.out).below HQ.out |>.tx x hxm)
    have HRX := Lib.hid (show ∀ n, (wr.drewN n).rangeAt b (o + j * 25) x.cells from fun n i u hi => ((below_drewN (Below.refl wr.heap.size wr) n).cell (p := ⟨b, o + j * 25 + i, none⟩) hbl).trans (hrr i u hi))
    clear hxm hx hrr hbl
    have HY0 := Lib.hid y0
    have HY1 := Lib.hid y1
    clear y0 y1
    by_cases h1 : x.r.ir = k1
    ·by_cases h2 : x.r.is = k2
     ·have y0 : wr.cell? ⟨b, o + j * 25, none⟩ = some (.int .i64 k1) := by rw [HY0.out, h1]
      have y1 : wr.cell? ⟨b, o + j * 25 + 1, none⟩ = some (.int .i64 k2) := by rw [HY1.out, h2]
      have H1 := Lib.hid (show x.cells.all (·.oneCell') = true from List.all_eq_true.2 (one_cells HTX.out))
      have HLA := Lib.hid (show K.lastR ((rcs Y).drop j) (k1, k2) = some x.r by
       rw [HX.out, HN.out, if_neg (by simp), if_pos (by rw [h1, h2])])
      clear h1 h2
      go_wp2
      go_quiet (fail)
      have HQ2 := Lib.hid (below_drewN HQ.out nq)
      generalize hW2 : wr.drewN nq = W2 at *
      have HRX2 := Lib.hid (show W2.rangeAt b (o + j * 25) x.cells from by rw [← hW2]; exact HRX.out nq)
      clear hW2
      have HC2 := Lib.hid (HC0.out.on HQ2.out)
      have a2 := hold_cell (HA0.out.on HQ2.out) 0 rfl
      go_wp2_with (first
       | (refine wpList_load_mid rfl 67 (.tmp 26) rfl b (o + j * 25) rfl x.cells _ HRX2.out Tryz.underlying67 rfl (by kernel_rfl) ?_)
       | (refine Wi.store_list rfl 67 (.tmp 4) (.tmp 27) rfl (w.heap.size + 1 + 1) 0 x.cells rfl rfl (HC2.out.there (show 0 + x.cells.length ≤ _ from Nat.le_refl 25)) (by kernel_rfl) H1.out ?_)
       | fail)
      have hh := set67 HC2.out rfl (y := x)
      (try simp only [Exit.inBlock, Exit.then])
      refine bodyPost_ret (results26 (b := w.heap.size + 1 + 1) (L := x.cells) (x := .bool true) rfl rfl (fun u v hv => hold_cell hh (0 + u) (by rw [Nat.zero_add]; exact hv)) (by kernel_rfl)) rfl ?_
      exact ⟨(below_on HB0.out HQ2.out).trans (Wi.below_setCells (by omega) _ _ _ _ (Below.refl _ _)), .inl ⟨x, HXM.out, rfl, lastR_drop HLA.out⟩⟩
     ·have y0 : wr.cell? ⟨b, o + j * 25, none⟩ = some (.int .i64 k1) := by rw [HY0.out, h1]
      have y1 := HY1.out
      have HNX := Lib.hid (show K.lastR ((rcs Y).drop j) (k1, k2) = none by
       rw [HX.out, HN.out, if_neg (by simp), if_neg (fun e => h2 (by simp only [Prod.mk.injEq] at e; exact e.2.symm))])
      clear h1
      go_wp2
      go_quiet (fail)
      go_wp2
      go_roundw
      case rel => exact ⟨j, rfl, by omega, HNX, Lib.hid (below_drewN HQ.out _)⟩
      case measure => simp [intOf]
    ·have y0 := HY0.out
     have y1 := HY1.out
     have HNX := Lib.hid (show K.lastR ((rcs Y).drop j) (k1, k2) = none by
      rw [HX.out, HN.out, if_neg (by simp), if_neg (fun e => h1 (by simp only [Prod.mk.injEq] at e; exact e.1.symm))])
     go_wp2
     go_quiet (fail)
     go_wp2
     go_roundw
     case rel => exact ⟨j, rfl, by omega, HNX, Lib.hid (below_drewN HQ.out _)⟩
     case measure => simp [intOf]
end Rf
end Go.Proofs.YtdachohcjpjblaaGreatDoor
namespace Go.Proofs.YtdachohcjpjblaaGreatDoor
open Go.ChangeShapes Go.WideShapes Go.ChangeAt Go.RowKit
open Di (Keeps In below_on below_new)
open Wi (Hold)
namespace Rf
theorem key_some {Y : List Rv} {k : Ky} (h : k ∈ Y.map Rv.key) : (K.lastR (rcs Y) k).isSome := by
 obtain ⟨y, hy, rfl⟩ := List.mem_map.1 h
 unfold K.lastR
 rw [List.find?_isSome]
 exact ⟨y.r, List.mem_reverse.2 (List.mem_map.2 ⟨y, hy, rfl⟩), by simp [Rv.key]⟩
theorem some_key {Y : List Rv} {k : Ky} (h : (K.lastR (rcs Y) k).isSome) : k ∈ Y.map Rv.key := by
 obtain ⟨r, e⟩ := Option.isSome_iff_exists.1 h
 unfold K.lastR at e
 obtain ⟨y, hy, rfl⟩ := List.mem_map.1 (List.mem_reverse.1 (List.mem_of_find?_eq_some e))
 have := List.find?_some e
 exact List.mem_map.2 ⟨y, hy, (of_decide_eq_true this).symm⟩
theorem all_keys (Y : List Rv) (k : Ky) : k ∈ Nn.all (Y.map Rv.key) ↔ (K.lastR (rcs Y) k).isSome := by
 rw [Nn.all_mem]
 exact ⟨key_some, some_key⟩
theorem get_there {w : World} {v : Value} {Y : List Rv} (sf sz : Int) (k1 k2 : Int) (h : Rows w v Y) (hl : Y.length ≤ 100000) (hk : (k1, k2) ∈ Nn.all (Y.map Rv.key)) : Calls Tryz.prog 26 #[.agg #[v,.int .i64 sf,.int .i64 sz],.agg #[.int .i64 k1,.int .i64 k2]] w fun e w' => ∃ y, e = .returned (.tuple #[y.val,.bool true]) ∧ Hid (y ∈ Y ∧ K.lastR (rcs Y) (k1, k2) = some y.r ∧ Below w.heap.size w w') := by
 refine (get_ref sf sz k1 k2 h hl).mono ?_
 rintro e w' ⟨hb, ⟨y, hy, rfl, hla⟩ | ⟨rfl, hn⟩⟩
 ·exact ⟨y, rfl, Lib.hid ⟨hy, hla, hb⟩⟩
 ·have := (all_keys Y (k1, k2)).1 hk
  rw [hn] at this
  cases this
theorem step_store67 {ops : Array Oper} {o : Oper} {a : Act} {w : World} {K : Act → World → Prop} {Q : Exit → Act → World → Prop} {E : Prop} (hg : o.guard = none) (x z : Operand) (ho : o.op = .store 67 x z) (b : Nat) (Z : List Value) (y : Rv) (hx : a.eval x = .pointer (some ⟨b, 0, none⟩)) (hy : a.eval z = .agg y.cells.toArray)
 (hh : Hold w b 67 Z) (hl : Z.length = 25) (h1 : y.cells.toArray.all (·.oneCell') = true) (hK : K (a.put o.dst undef) (w.setCells b 0 y.cells)) : if Region.wanted o (yielded ops a.tmps) = true then Oper.wp Tryz.prog o a w K Q else E := by
 rw [if_pos (by simp [Region.wanted, hg])]
 exact wp_store_mid 67 x z ho b 0 y.cells.toArray hx hy (hh.there (by rw [hl]; exact Nat.le_refl 25)) (by kernel_rfl) h1 hK
theorem step_alloc67 {ops : Array Oper} {o : Oper} {a : Act} {w : World} {K : Act → World → Prop} {Q : Exit → Act → World → Prop} {E : Prop} (hg : o.guard = none) (ho : o.op = .alloc 67)
 (hK : K (a.put o.dst (.pointer (some ⟨w.heap.size, 0, none⟩))) (w.alloc (.cells Rv.zero.cells.toArray 67))) : if Region.wanted o (yielded ops a.tmps) = true then Oper.wp Tryz.prog o a w K Q else E := by
 rw [if_pos (by simp [Region.wanted, hg])]
 have hrun : (Instr.alloc 67 true (.tuple #[])).run Tryz.prog w = .ok (.pointer (some ⟨w.heap.size, 0, none⟩)) (w.alloc (.cells Rv.zero.cells.toArray 67)) := by kernel_rfl
 unfold Oper.wp
 simp [execOp, ho, hrun, Result.andThen]
 exact hK
def Cpd (w : World) (F : Nat → Prop) (Y : List Rv) (sz : Int) (e : Ending) (w' : World) : Prop := ∃ v' Y', e = .returned (.agg #[v',.int .i64 (Y'.length : Nat),.int .i64 sz]) ∧ rcs Y' = Ag.pick (rcs Y) (Nn.all (Y.map Rv.key)) ∧ Rws F w' v' Y' ∧ Below w.heap.size w w'
theorem compact_ref {w : World} {v : Value} {F : Nat → Prop} {Y : List Rv} (sf sz : Int) (h : Rws F w v Y) (hF : ∀ x, F x → x < w.heap.size) (hl : Y.length ≤ 1000) : Calls Tryz.prog 43 #[.agg #[v,.int .i64 sf,.int .i64 sz]] w (Cpd w F Y sz) := by
 obtain ⟨A, c, rfl⟩ := rowN_sliceOf h.rows.row
 have HH := Lib.hid h
 have HF := Lib.hid hF
 have HLL := Lib.hid hl
 clear h hF
 go_enter Tryz.func43, Tryz.ntmps43
 have HB0 := Lib.hid (show Below w.heap.size w ((w.alloc (.cells #[.slice A Y.length c,.int .i64 sf,.int .i64 sz] 41)).alloc (.cells #[.slice none 0 0,.int .i64 0,.int .i64 0] 41)) from below_new (below_new (Below.refl _ _)))
 have HI := Lib.hid (insts_ref sf sz (HH.out.rows.below HB0.out) hl)
 have HA0 := Lib.hid (show Hold ((w.alloc (.cells #[.slice A Y.length c,.int .i64 sf,.int .i64 sz] 41)).alloc (.cells #[.slice none 0 0,.int .i64 0,.int .i64 0] 41)) w.heap.size 41 [.slice A Y.length c,.int .i64 sf,.int .i64 sz] from (Wi.Hold.new w [.slice A Y.length c,.int .i64 sf,.int .i64 sz] 41).on (below_new (Below.refl _ _)))
 have HC0 := Lib.hid (show Hold ((w.alloc (.cells #[.slice A Y.length c,.int .i64 sf,.int .i64 sz] 41)).alloc (.cells #[.slice none 0 0,.int .i64 0,.int .i64 0] 41)) (w.heap.size + 1) 41 [.slice none 0 0,.int .i64 0,.int .i64 0] from by
  have := Wi.Hold.new (w.alloc (.cells #[.slice A Y.length c,.int .i64 sf,.int .i64 sz] 41)) [.slice none 0 0,.int .i64 0,.int .i64 0] 41
  rw [show (w.alloc (.cells #[.slice A Y.length c,.int .i64 sf,.int .i64 sz] 41)).heap.size = w.heap.size + 1 by simp] at this
  exact this)
 go_wp2_with (fail)
 refine HI.out.mono ?_
 rintro e w1 ⟨v1, rfl, hrow, hb⟩
 obtain ⟨ks, hks⟩ : ∃ ks, ks = Nn.all (Y.map Rv.key) := ⟨_, rfl⟩
 rw [← hks] at hrow
 have HKS := Lib.hid hks
 have HKL := Lib.hid (show ks.length ≤ 1000 by rw [hks]; have := Nn.all_len (Y.map Rv.key); rw [List.length_map] at this; omega)
 obtain ⟨A1, c1, rfl⟩ : ∃ A c, v1 = .slice A ks.length c := by
  rcases hrow.2 with ⟨rfl, hz0⟩ | ⟨g, cap, cr, rfl, -⟩
  ·exact ⟨_, _, by rw [hz0]⟩
  ·exact ⟨_, _, rfl⟩
 have HR := Lib.hid hrow
 have HB1 := Lib.hid (below_on HB0.out hb)
 have HA1 := Lib.hid (HA0.out.on hb)
 have HC1 := Lib.hid (HC0.out.on hb)
 clear hrow hb HI HA0 HC0 hks
 obtain ⟨i0, hi, hz0, hz1, hz2⟩ := info_parts info67
 go_wp2
 go_loopw [3, 5] (fun sl i wr => ∃ (j : Nat) (o : Value) (Z : List Rv), sl = o ∧ i = .int .i64 j ∧ j ≤ ks.length ∧ Hid (Z.length = j) ∧ Hid (rcs Z = Ag.pick (rcs Y) (ks.take j)) ∧ Hid (∀ z ∈ Z, z ∈ Y) ∧ Hid (wr.ownsRow w1.heap.size 67 25 o j (Z.flatMap Rv.cells)) ∧ Hid (Below w1.heap.size w1 wr)) (fun _ i _ => ks.length - (intOf i).toNat)
 case atStart => exact ⟨0, _, [], rfl, rfl, Nat.zero_le _, Lib.hid rfl, Lib.hid rfl, Lib.hid (fun z hz => (List.not_mem_nil hz).elim), Lib.hid (World.ownsRow_nil _ _ _ _), Lib.hid (Below.refl _ _)⟩
 case round =>
  obtain ⟨j, o, Z, ho, rfl, hj, HZL, HZP, HZY, HO, HQ⟩ := hrel
  have ho2 := ho.symm
  subst ho2
  clear ho
  by_cases hlt : j < ks.length
  ·obtain ⟨⟨k1, k2⟩, hk⟩ : ∃ k, ks[j]? = some k := ⟨_, List.getElem?_eq_getElem hlt⟩
   have hkm : (k1, k2) ∈ Nn.all (Y.map Rv.key) := HKS.out ▸ List.mem_of_getElem? hk
   obtain ⟨g, cap, ev, hgb, hgl, -, d0, d1⟩ := row_kc HR.out hk
   simp only [Value.slice.injEq] at ev
   obtain ⟨rfl, -, rfl⟩ := ev
   have HKM := Lib.hid hkm
   have HKJ := Lib.hid hk
   have HJ := Lib.hid hlt
   have hj1 : (j : Int) < (ks.length : Int) := by omega
   obtain ⟨Wd, hWd⟩ : ∃ Wd, Wd = wr.drew := ⟨_, rfl⟩
   have hbd : Below wr.heap.size wr Wd := by rw [hWd]; exact (Below.refl _ _).drew
   have HBD := Lib.hid (below_on HQ.out hbd)
   have HOD := Lib.hid (Wi.ownsRow_on HO.out hbd)
   have HBX := Lib.hid (below_on HB1.out HBD.out)
   have HRD := Lib.hid (HH.out.rows.below HBX.out)
   have HAD := Lib.hid (HA1.out.on HBD.out)
   have p0 : Wd.cell? ⟨g, j * 2, none⟩ = some (.int .i64 k1) := (HBD.out.cell (p := ⟨g, j * 2, none⟩) hgl).trans d0
   have p1 : Wd.cell? ⟨g, j * 2 + 1, none⟩ = some (.int .i64 k2) := (HBD.out.cell (p := ⟨g, j * 2 + 1, none⟩) hgl).trans d1
   have q0 := hold_cell HAD.out 0 rfl
   have q1 := hold_cell HAD.out 1 rfl
   have q2 := hold_cell HAD.out 2 rfl
   have HGL := Lib.hid (show g < Wd.heap.size from Nat.lt_of_lt_of_le hgl HBD.out.size)
   have HS5 := Lib.hid (show ∀ W, Below Wd.heap.size Wd W → W.cell? ⟨g, j * 2, none⟩ = some (.int .i64 k1) ∧ W.cell? ⟨g, j * 2 + 1, none⟩ = some (.int .i64 k2) ∧ W.cell? ⟨w.heap.size, 0, none⟩ = some (.slice A Y.length c) ∧ W.cell? ⟨w.heap.size, 1, none⟩ = some (.int .i64 sf) ∧ W.cell? ⟨w.heap.size, 2, none⟩ = some (.int .i64 sz) from fun W k =>
    ⟨(k.cell (p := ⟨g, j * 2, none⟩) HGL.out).trans p0, (k.cell (p := ⟨g, j * 2 + 1, none⟩) HGL.out).trans p1, hold_cell (HAD.out.on k) 0 rfl, hold_cell (HAD.out.on k) 1 rfl, hold_cell (HAD.out.on k) 2 rfl⟩)
   have HBZ := Lib.hid (show ∀ W b, Below Wd.heap.size Wd W → Wd.heap.size ≤ b → ∀ L, Below Wd.heap.size Wd (W.setCells b 0 L) from fun W b k h L => k.trans (Wi.below_setCells h _ _ _ _ (Below.refl _ _)))
   have GA := Lib.hid (show ∀ W, Below Wd.heap.size Wd W → Calls Tryz.prog 26 #[.agg #[.slice A Y.length c,.int .i64 sf,.int .i64 sz],.agg #[.int .i64 k1,.int .i64 k2]] W fun e w' => ∃ y, e = .returned (.tuple #[y.val,.bool true]) ∧ Hid (y ∈ Y ∧ K.lastR (rcs Y) (k1, k2) = some y.r ∧ Below W.heap.size W w') from fun W k => get_there sf sz k1 k2 (HRD.out.below k) (by have := HLL.out; omega) HKM.out)
   have hkb9 := HKL.out
   clear hk hkm hgb hgl d0 d1 hlt hbd
   go_wp2
   refine wp_region_held_drew (S := fun w' => w'.cell? ⟨g, j * 2, none⟩ = some (.int .i64 k1) ∧ w'.cell? ⟨g, j * 2 + 1, none⟩ = some (.int .i64 k2) ∧ w'.cell? ⟨w.heap.size, 0, none⟩ = some (.slice A Y.length c) ∧ w'.cell? ⟨w.heap.size, 1, none⟩ = some (.int .i64 sf) ∧ w'.cell? ⟨w.heap.size, 2, none⟩ = some (.int .i64 sz)) (by kernel_rfl) (by rw [← hWd]; exact HS5.out _ (Below.refl _ _)) (fun hHeld => ?_)
   rw [← hWd] at hHeld ⊢
   clear hWd
   refine wpAnyH_take (i := 0) (v := ?_) rfl (by kernel_rfl) (by kernel_rfl) (by kernel_rfl) (fun _ _ _ h => h) (Or.inl ⟨by rfl, ?_⟩) (by assumption) ?_
   rotate_left
   ·(intro w hSw; (try dsimp only at hSw); go_split_ands; go_simp; (try with_reducible rfl))
   (try simp only [Act.put]); (try simp only [List.setIfInBounds_toArray]); (try simp only [List.set_cons_succ]); (try simp only [List.set_cons_zero])
   refine wpAnyH_take (i := 1) (v := ?_) rfl (by kernel_rfl) (by kernel_rfl) (by kernel_rfl) (fun _ _ _ h => h) (Or.inl ⟨by rfl, ?_⟩) (by assumption) ?_
   rotate_left
   ·(intro w hSw; (try dsimp only at hSw); go_split_ands; go_simp; (try with_reducible rfl))
   (try simp only [Act.put]); (try simp only [List.setIfInBounds_toArray]); (try simp only [List.set_cons_succ]); (try simp only [List.set_cons_zero])
   refine wpAnyH_take (i := 2) (v := ?_) rfl (by kernel_rfl) (by kernel_rfl) (by kernel_rfl) (fun _ _ _ h => h) (Or.inl ⟨by rfl, ?_⟩) (by assumption) ?_
   rotate_left
   ·(intro w hSw; (try dsimp only at hSw); go_split_ands; go_simp; (try with_reducible rfl))
   (try simp only [Act.put]); (try simp only [List.setIfInBounds_toArray]); (try simp only [List.set_cons_succ]); (try simp only [List.set_cons_zero])
   refine wpAnyH_take (i := 3) (v := ?_) rfl (by kernel_rfl) (by kernel_rfl) (by kernel_rfl) (fun _ _ _ h => h) (Or.inl ⟨by rfl, ?_⟩) (by assumption) ?_
   rotate_left
   ·(intro w hSw; (try dsimp only at hSw); go_split_ands; go_simp; (try with_reducible rfl))
   (try simp only [Act.put]); (try simp only [List.setIfInBounds_toArray]); (try simp only [List.set_cons_succ]); (try simp only [List.set_cons_zero])
   refine wpAnyH_take (i := 4) (v := ?_) rfl (by kernel_rfl) (by kernel_rfl) (by kernel_rfl) (fun _ _ _ h => h) (Or.inl ⟨by rfl, ?_⟩) (by assumption) ?_
   rotate_left
   ·(intro w hSw; (try dsimp only at hSw); go_split_ands; go_simp; (try with_reducible rfl))
   (try simp only [Act.put]); (try simp only [List.setIfInBounds_toArray]); (try simp only [List.set_cons_succ]); (try simp only [List.set_cons_zero])
   refine wpAnyH_ready (rs := [5, 9]) (by kernel_rfl) (by simp) ?_
   refine AllReadyH.cons rfl (fun K hK => ?_) (AllReadyH.cons rfl (fun K hK => ?_) AllReadyH.nil)
   focus
    go_simp
    refine (GA.out _ (Below.refl _ _)).mono ?_
    rintro e w5 ⟨y, rfl, hxy⟩
    have hb5 := below_on (Below.refl _ _) hxy.out.2.2
    have HW5 := Lib.hid hb5
    go_simp
    refine hK.out _ _ (by exact HS5.out _ HW5.out) (fun hHeld => ?_)
    clear hK K
    (try simp only [List.getElem_toArray, List.getElem_cons_succ, List.getElem_cons_zero, Act.put])
    (try simp only [Act.put]); (try simp only [List.setIfInBounds_toArray]); (try simp only [List.set_cons_succ]); (try simp only [List.set_cons_zero])
    refine wpAnyH_take (i := 6) (v := ?_) rfl (by kernel_rfl) (by kernel_rfl) (by kernel_rfl) (fun _ _ _ h => h) (Or.inl ⟨by rfl, ?_⟩) (by assumption) ?_
    rotate_left
    ·(intro w hSw; (try dsimp only at hSw); go_split_ands; go_simp; (try with_reducible rfl))
    (try simp only [List.getElem_toArray, List.getElem_cons_succ, List.getElem_cons_zero, Act.put])
    (try simp only [Act.put]); (try simp only [List.setIfInBounds_toArray]); (try simp only [List.set_cons_succ]); (try simp only [List.set_cons_zero])
    refine wpAnyH_take (i := 7) (v := ?_) rfl (by kernel_rfl) (by kernel_rfl) (by kernel_rfl) (fun _ _ _ h => h) (Or.inl ⟨by rfl, ?_⟩) (by assumption) ?_
    rotate_left
    ·(intro w hSw; (try dsimp only at hSw); go_split_ands; go_simp; (try with_reducible rfl))
    (try simp only [List.getElem_toArray, List.getElem_cons_succ, List.getElem_cons_zero, Act.put])
    (try simp only [Act.put]); (try simp only [List.setIfInBounds_toArray]); (try simp only [List.set_cons_succ]); (try simp only [List.set_cons_zero])
    refine wpAnyH_take (i := 8) (v := ?_) rfl (by kernel_rfl) (by kernel_rfl) (by kernel_rfl) (fun _ _ _ h => h) (Or.inl ⟨by rfl, ?_⟩) (by assumption) ?_
    rotate_left
    ·(intro w hSw; (try dsimp only at hSw); go_split_ands; go_simp; (try with_reducible rfl))
    (try simp only [List.getElem_toArray, List.getElem_cons_succ, List.getElem_cons_zero, Act.put])
    (try simp only [Act.put]); (try simp only [List.setIfInBounds_toArray]); (try simp only [List.set_cons_succ]); (try simp only [List.set_cons_zero])
    refine wpAnyH_ready (rs := [9]) (by kernel_rfl) (by simp) ?_
    refine AllReadyH.cons rfl (fun K hK => ?_) AllReadyH.nil
    refine step_alloc67 rfl rfl ?_
    refine hK.out _ _ (by exact HS5.out _ (below_new HW5.out)) (fun hHeld => ?_)
    clear hK K
    (try simp only [List.getElem_toArray, List.getElem_cons_succ, List.getElem_cons_zero, Act.put])
    (try simp only [Act.put]); (try simp only [List.setIfInBounds_toArray]); (try simp only [List.set_cons_succ]); (try simp only [List.set_cons_zero])
    have hh : Hold (w5.alloc (.cells Rv.zero.cells.toArray 67)) (w5.heap.size) 67 Rv.zero.cells := Wi.Hold.new w5 Rv.zero.cells 67
    have htx : Txt Wd y := HRD.out.tx y hxy.out.1
    have h1 : y.cells.toArray.all (·.oneCell') = true := all_oneCell_toArray (one_cells htx)
    have hb6 := HBZ.out _ (w5.heap.size) (below_new (o := .cells Rv.zero.cells.toArray 67) HW5.out) (HW5.out.size) y.cells
    have hh6 := set67 hh rfl (y := y)
    refine wpAnyH_ready (rs := [10]) (by kernel_rfl) (by simp) ?_
    refine AllReadyH.cons rfl (fun K hK => ?_) AllReadyH.nil
    refine step_store67 rfl (.tmp 6) (.tmp 23) rfl (w5.heap.size) Rv.zero.cells y rfl rfl hh rfl h1 ?_
    refine hK.out _ _ (by exact HS5.out _ hb6) (fun hHeld => ?_)
    clear hK K
    (try simp only [List.getElem_toArray, List.getElem_cons_succ, List.getElem_cons_zero, Act.put])
    (try simp only [Act.put]); (try simp only [List.setIfInBounds_toArray]); (try simp only [List.set_cons_succ]); (try simp only [List.set_cons_zero])
    refine wpAnyH_take (i := 11) (v := ?_) rfl (by kernel_rfl) (by kernel_rfl) (by kernel_rfl) (fun _ _ _ h => h) (Or.inl ⟨by rfl, ?_⟩) (by assumption) ?_
    rotate_left
    ·(intro w hSw; (try dsimp only at hSw); go_split_ands; go_simp; (try with_reducible rfl))
    (try simp only [List.getElem_toArray, List.getElem_cons_succ, List.getElem_cons_zero, Act.put])
    (try simp only [Act.put]); (try simp only [List.setIfInBounds_toArray]); (try simp only [List.set_cons_succ]); (try simp only [List.set_cons_zero])
    refine wpAnyH_done (by kernel_rfl) ?_ _
    generalize hW6 : World.setCells (w5.alloc (.cells Rv.zero.cells.toArray 67)) (w5.heap.size) 0 y.cells = W6 at *
    clear hW6
    generalize hBK : (w5.heap.size) = bk at *
    clear hBK
   rotate_left
   focus
    refine step_alloc67 rfl rfl ?_
    refine hK.out _ _ (by exact HS5.out _ (below_new (Below.refl _ _))) (fun hHeld => ?_)
    clear hK K
    (try simp only [List.getElem_toArray, List.getElem_cons_succ, List.getElem_cons_zero, Act.put])
    (try simp only [Act.put]); (try simp only [List.setIfInBounds_toArray]); (try simp only [List.set_cons_succ]); (try simp only [List.set_cons_zero])
    refine wpAnyH_ready (rs := [5]) (by kernel_rfl) (by simp) ?_
    refine AllReadyH.cons rfl (fun K hK => ?_) AllReadyH.nil
    go_simp
    refine (GA.out _ (below_new (Below.refl _ _))).mono ?_
    rintro e w5 ⟨y, rfl, hxy⟩
    have hb5 := below_on (below_new (Below.refl _ _)) hxy.out.2.2
    have HW5 := Lib.hid hb5
    go_simp
    refine hK.out _ _ (by exact HS5.out _ HW5.out) (fun hHeld => ?_)
    clear hK K
    (try simp only [List.getElem_toArray, List.getElem_cons_succ, List.getElem_cons_zero, Act.put])
    (try simp only [Act.put]); (try simp only [List.setIfInBounds_toArray]); (try simp only [List.set_cons_succ]); (try simp only [List.set_cons_zero])
    refine wpAnyH_take (i := 6) (v := ?_) rfl (by kernel_rfl) (by kernel_rfl) (by kernel_rfl) (fun _ _ _ h => h) (Or.inl ⟨by rfl, ?_⟩) (by assumption) ?_
    rotate_left
    ·(intro w hSw; (try dsimp only at hSw); go_split_ands; go_simp; (try with_reducible rfl))
    (try simp only [List.getElem_toArray, List.getElem_cons_succ, List.getElem_cons_zero, Act.put])
    (try simp only [Act.put]); (try simp only [List.setIfInBounds_toArray]); (try simp only [List.set_cons_succ]); (try simp only [List.set_cons_zero])
    refine wpAnyH_take (i := 7) (v := ?_) rfl (by kernel_rfl) (by kernel_rfl) (by kernel_rfl) (fun _ _ _ h => h) (Or.inl ⟨by rfl, ?_⟩) (by assumption) ?_
    rotate_left
    ·(intro w hSw; (try dsimp only at hSw); go_split_ands; go_simp; (try with_reducible rfl))
    (try simp only [List.getElem_toArray, List.getElem_cons_succ, List.getElem_cons_zero, Act.put])
    (try simp only [Act.put]); (try simp only [List.setIfInBounds_toArray]); (try simp only [List.set_cons_succ]); (try simp only [List.set_cons_zero])
    refine wpAnyH_take (i := 8) (v := ?_) rfl (by kernel_rfl) (by kernel_rfl) (by kernel_rfl) (fun _ _ _ h => h) (Or.inl ⟨by rfl, ?_⟩) (by assumption) ?_
    rotate_left
    ·(intro w hSw; (try dsimp only at hSw); go_split_ands; go_simp; (try with_reducible rfl))
    (try simp only [List.getElem_toArray, List.getElem_cons_succ, List.getElem_cons_zero, Act.put])
    (try simp only [Act.put]); (try simp only [List.setIfInBounds_toArray]); (try simp only [List.set_cons_succ]); (try simp only [List.set_cons_zero])
    have hh : Hold w5 (Wd.heap.size) 67 Rv.zero.cells := (Wi.Hold.new Wd Rv.zero.cells 67).on hxy.out.2.2
    have htx : Txt Wd y := HRD.out.tx y hxy.out.1
    have h1 : y.cells.toArray.all (·.oneCell') = true := all_oneCell_toArray (one_cells htx)
    have hb6 := HBZ.out _ (Wd.heap.size) (HW5.out) (Nat.le_refl _) y.cells
    have hh6 := set67 hh rfl (y := y)
    refine wpAnyH_ready (rs := [10]) (by kernel_rfl) (by simp) ?_
    refine AllReadyH.cons rfl (fun K hK => ?_) AllReadyH.nil
    refine step_store67 rfl (.tmp 6) (.tmp 23) rfl (Wd.heap.size) Rv.zero.cells y rfl rfl hh rfl h1 ?_
    refine hK.out _ _ (by exact HS5.out _ hb6) (fun hHeld => ?_)
    clear hK K
    (try simp only [List.getElem_toArray, List.getElem_cons_succ, List.getElem_cons_zero, Act.put])
    (try simp only [Act.put]); (try simp only [List.setIfInBounds_toArray]); (try simp only [List.set_cons_succ]); (try simp only [List.set_cons_zero])
    refine wpAnyH_take (i := 11) (v := ?_) rfl (by kernel_rfl) (by kernel_rfl) (by kernel_rfl) (fun _ _ _ h => h) (Or.inl ⟨by rfl, ?_⟩) (by assumption) ?_
    rotate_left
    ·(intro w hSw; (try dsimp only at hSw); go_split_ands; go_simp; (try with_reducible rfl))
    (try simp only [List.getElem_toArray, List.getElem_cons_succ, List.getElem_cons_zero, Act.put])
    (try simp only [Act.put]); (try simp only [List.setIfInBounds_toArray]); (try simp only [List.set_cons_succ]); (try simp only [List.set_cons_zero])
    refine wpAnyH_done (by kernel_rfl) ?_ _
    generalize hW6 : World.setCells w5 (Wd.heap.size) 0 y.cells = W6 at *
    clear hW6
    obtain ⟨bk, hBK⟩ : ∃ bk, bk = Wd.heap.size := ⟨_, rfl⟩
    rw [← hBK] at hh6 ⊢
   rotate_left
   all_goals
    obtain ⟨hyY, hyl, -⟩ := hxy.out
    have HH6 := Lib.hid (show Hold W6 bk 67 y.cells from hh6)
    have ho6 := Wi.ownsRow_on HOD.out hb6
    have hba : Below W6.heap.size W6 (W6.alloc (.cells y.cells.toArray 67)) := below_new (Below.refl _ _)
    have hs6 : w1.heap.size ≤ W6.heap.size := Nat.le_trans HBD.out.size hb6.size
    obtain ⟨o', w9, hrun, hown9, hgrow9, -⟩ := run_append_own (P := Tryz.prog) (W6.alloc (.cells y.cells.toArray 67)) w1.heap.size 31 31 67 i0 Rv.zero.val 25 232 Tryz.underlying31 hi hz0 hz1 hz2 rfl (by omega) o j _ (ho6.alloc _) ⟨W6.heap.size, 0, none⟩ 1 1 y.cells rfl (rec_new W6 y) (one_cells htx) (by have := HKL.out; have := HJ.out; unfold maxLen; omega) (by have := HKL.out; have := HJ.out; omega) (by simp; omega)
    have hb9 : Below w1.heap.size w1 w9 := (below_on (below_on HBD.out hb6) hba).grown hgrow9 (by simp; omega) (fun k e => (ho6.lt k e).1)
    have HAR := Lib.hid hrun
    have HO9 := Lib.hid (show w9.ownsRow w1.heap.size 67 25 o' (j + 1) ((Z ++ [y]).flatMap Rv.cells) by rw [List.flatMap_append, List.flatMap_singleton]; exact hown9)
    have HB9 := Lib.hid hb9
    have HZP9 := Lib.hid (show rcs (Z ++ [y]) = Ag.pick (rcs Y) (ks.take (j + 1)) by
     rw [List.take_add_one, HKJ.out, Option.toList_some]
     unfold Ag.pick
     rw [List.map_append, List.map_singleton, hyl]
     have := HZP.out
     unfold Ag.pick at this
     rw [← this]
     simp [rcs])
    have HZY9 := Lib.hid (show ∀ z ∈ Z ++ [y], z ∈ Y from fun z hz => (List.mem_append.1 hz).elim (HZY.out z) (fun e => by rw [List.mem_singleton.1 e]; exact hyY))
    clear hh htx h1 hb6 hh6 hyY hyl ho6 hba hs6 hrun hown9 hgrow9 hb9 hxy hb5 hHeld
    go_wp2_with (first
     | (refine wpList_load_mid rfl 67 (.tmp 6) rfl bk 0 rfl y.cells _ HH6.out.cel.whole Tryz.underlying67 rfl (by kernel_rfl) ?_)
     | (with_reducible refine wpList_build67 rfl (.tmp 26) rfl y rfl ?_)
     | (at_builtin; refine Lib.wpList_append_run _ rfl (.tmp 25) (.tmp 27) _ _ rfl _ _ rfl rfl _ _ HAR.out ?_)
     | fail)
    go_roundw
    case rel => exact ⟨j + 1, o', Z ++ [y], rfl, by go_num, HJ.out, Lib.hid (by rw [List.length_append, HZL.out]; rfl), HZP9, HZY9, HO9, HB9⟩
    case measure => simp [intOf]; have := HJ.out; omega
  ·obtain rfl : j = ks.length := by omega
   have hj1 : ¬ ((ks.length : Int) < (ks.length : Int)) := by omega
   obtain ⟨A4, c4, rfl⟩ := Wi.ownsRow_slice HO.out
   have x2 := hold_cell (HA1.out.on HQ.out) 2 rfl
   have z0 := hold_cell (HC1.out.on HQ.out) 0 rfl
   have z1 := hold_cell (HC1.out.on HQ.out) 1 rfl
   have z2 := hold_cell (HC1.out.on HQ.out) 2 rfl
   have f0 := hold_soft (HC1.out.on HQ.out) 0
   have f1 := hold_soft (HC1.out.on HQ.out) 1
   have f2 := hold_soft (HC1.out.on HQ.out) 2
   go_wp2
   obtain ⟨hbb, hh⟩ := Bx.box_fill (HC1.out.on HQ.out) (.slice A4 ks.length c4) (.int .i64 ks.length) (.int .i64 sz)
   refine bodyPost_ret (Bx.res_one rfl _ (w.heap.size + 1) rfl hh) rfl ?_
   have hb3 := below_on HB1.out HQ.out
   have hbl : Below w.heap.size w _ := hb3.trans (hbb.k.below (fun x f => by rw [f]; omega) hb3.size)
   have hs1 : w.heap.size + 2 ≤ w1.heap.size := by have := hold_lt HC1.out; omega
   have ho5 := owns_keeps HO.out hbb.k (fun b e f => by have := (HO.out.lt b e).1; omega)
   have hzl : Z.length = ks.length := HZL.out
   refine ⟨_, Z, by rw [hzl], by rw [HZP.out, List.take_length, HKS.out], ⟨⟨by rw [hzl]; exact Wi.RowN.of_owns ho5, fun y hy => (HH.out.rows.tx y (HZY.out y hy)).below hbl⟩, fun h0 b e => ⟨fun f => ?_, (ho5.lt b e).2⟩, fun y hy => (HH.out.below hbl).ot y (HZY.out y hy)⟩, hbl⟩
   have := (ho5.lt b e).1
   have := HF.out b f
   omega
end Rf
end Go.Proofs.YtdachohcjpjblaaGreatDoor
