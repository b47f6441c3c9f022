/- The library's iterator over a slice of records from its end; conditions: its own. -/
import Derived.RangeFuncNested
import Derived.RangeFuncBound
import Derived.RangeFuncCalls
import Derived.RangeFuncLeaves
import Derived.Shelf.Abstract
import Derived.WalkKit
import Derived.OwnWalkIn
import Derived.TacticsInMore
import Derived.LoopNIn
import Derived.LoopIn
import Derived.Test.YtpknkhgkejkpkaaGreatSv
namespace Go.Proofs.YtpknkhgkejkpkaaGreat
open Go.ChangeShapes Go.WideShapes Go.ChangeAt Go.RowKit

open Go.Shelf
attribute [local go_sem] Oper.semAt_some

/-- The places from the end on. -/
def fromEnd {n : Nat} (hn : 0 < n) (k : Nat) : Fin n := ⟨n - 1 - k, by omega⟩
def ends {n : Nat} (hn : 0 < n) (k : Nat) : List (Fin n) := (List.range k).map (fromEnd hn)
theorem ends_succ {n : Nat} (hn : 0 < n) (k : Nat) : ends hn (k + 1) = ends hn k ++ [fromEnd hn k] := by simp [ends, List.range_succ]
theorem ends_len {n : Nat} (hn : 0 < n) (k : Nat) : (ends hn k).length = k := by simp [ends]
theorem ends_mem {n : Nat} (hn : 0 < n) {k : Nat} (j : Fin n) (hj : n ≤ j.val + k) : j ∈ ends hn k := by
  refine List.mem_map.2 ⟨n - 1 - j.val, List.mem_range.2 (by have := j.isLt; omega), ?_⟩
  apply Fin.ext
  show n - 1 - (n - 1 - j.val) = j.val
  have := j.isLt
  omega
/-- What the iterator hands on. -/
def encB (X : List Rv) (k : Fin X.length) : Array Value := #[.int .i64 (k.val : Int), X[k].val]
/-- All of them; the last ones. -/
def AllB (X : List Rv) (ys : List (Fin X.length)) : Prop := ∀ k, k ∈ ys
def TailB (X : List Rv) (ys : List (Fin X.length)) : Prop := ∀ q x, ys = q ++ [x] → ∀ j : Fin X.length, x.val < j.val → j ∈ q

set_option maxRecDepth 100000 in
set_option maxHeartbeats 8000000 in
theorem back1_nil (F : Fence) (n : Nat) (hf : F.fn 65) (hro : F.round = none) (l Bs c : Nat) (A : Option Addr) (X : List Rv) (J : List (Fin X.length) → World → Prop) (W : World) (hBs : W.cell? ⟨Bs, 0, none⟩ = some (.slice A 0 c)) (h0 : J [] W) :
    CallsIn F n Tryz.prog 65 #[.func (.yield l) #[] #[], .pointer (some ⟨Bs, 0, none⟩)] W fun e W' => (∃ v, e = .returned v) ∧ J [] W' := by
  refine callsIn_of_wp Tryz.func65 rfl hf ?_ hro
  simp only [Tryz.ntmps65, List.size_toArray, List.length_cons, List.length_nil, Nat.reduceAdd, Nat.reduceSub, Array.replicate_succ, Array.replicate_zero, List.push_toArray, List.append_toArray, List.nil_append, List.cons_append]
  gi_wp2
  gi_loopw [3] (fun i wr => i = .int .i64 (-1) ∧ J [] wr) (fun _ _ => 0)
  case atStart => exact ⟨rfl, h0⟩
  case round =>
    obtain ⟨rfl, hJs⟩ := hrel
    gi_wp2
    go_end0
    exact ⟨⟨_, rfl⟩, hJs⟩

set_option maxRecDepth 100000 in
set_option maxHeartbeats 8000000 in
theorem back1_in (F : Fence) (n : Nat) (hf : F.fn 65) (hro : F.round = none) (hn : 1 ≤ n) (l Bs n₀ b o c : Nat) (X : List Rv) (hX : 0 < X.length) (hl : X.length ≤ 1000) (hb : b < n₀) (J Jx : List (Fin X.length) → World → Prop)
    (hY : ∀ pre x W, J pre W → pre.length < X.length → YieldAt F (n - 1) Tryz.prog l (encB X x) W fun e W' =>
      (e = .returned (.bool true) ∧ J (pre ++ [x]) W' ∧ Below n₀ W W') ∨ (e = .returned (.bool false) ∧ Jx (pre ++ [x]) W'))
    (W : World) (hBs : W.cell? ⟨Bs, 0, none⟩ = some (.slice (some ⟨b, o, none⟩) X.length c)) (hB0 : Bs < n₀) (hc : ∀ k x, X[k]? = some x → W.rangeAt b (o + k * 25) x.cells) (h0 : J [] W) :
    CallsIn F n Tryz.prog 65 #[.func (.yield l) #[] #[], .pointer (some ⟨Bs, 0, none⟩)] W fun e W' => (∃ v, e = .returned v) ∧
      ((∃ ys, AllB X ys ∧ J ys W') ∨ (∃ pre, TailB X pre ∧ Jx pre W')) := by
  refine callsIn_of_wp Tryz.func65 rfl hf ?_ hro
  simp only [Tryz.ntmps65, List.size_toArray, List.length_cons, List.length_nil, Nat.reduceAdd, Nat.reduceSub, Array.replicate_succ, Array.replicate_zero, List.push_toArray, List.append_toArray, List.nil_append, List.cons_append]
  gi_wp2
  gi_loopw [3] (fun i wr => ∃ (k : Nat) (z : Int), k ≤ X.length ∧ z = (X.length : Int) - 1 - k ∧ i = .int .i64 z ∧ J (ends hX k) wr ∧ Below n₀ W wr)
    (fun i _ => (intOf i + 1).toNat)
  case atStart => exact ⟨0, (X.length : Int) - 1, Nat.zero_le _, by omega, by go_num, h0, Below.refl _ _⟩
  case round =>
    obtain ⟨k, z, hk, hz, rfl, hJs, hnx⟩ := hrel
    have hBs' := (hnx.cell (p := ⟨Bs, 0, none⟩) hB0).trans hBs
    by_cases hlt : k < X.length
    · obtain ⟨j, hj⟩ : ∃ j, j = X.length - 1 - k := ⟨_, rfl⟩
      obtain rfl : z = (j : Int) := by omega
      have hjl : j < X.length := by omega
      obtain ⟨x, hx⟩ : ∃ x, X[j]? = some x := ⟨_, List.getElem?_eq_getElem hjl⟩
      have hgx : X[fromEnd hX k] = x := by
        subst hj
        exact (List.getElem?_eq_some_iff.1 hx).2
      have hcx : wr.rangeAt b (o + j * 25) x.cells := fun q v hq => (hnx.cell (p := ⟨b, o + j * 25 + q, none⟩) hb).trans (hc j x hx q v hq)
      obtain ⟨fn, tmps, assign, body, hy, hR⟩ := hY _ (fromEnd hX k) wr hJs (by rw [ends_len]; exact hlt)
      have hv : ((fromEnd hX k).val : Int) = (j : Int) := by show ((X.length - 1 - k : Nat) : Int) = j; rw [hj]
      unfold encB Rv.val at hy
      rw [hgx, hv] at hy
      have hj1 : (0 : Int) ≤ (j : Int) := by omega
      have hj2 : (j : Int) < (X.length : Int) := by omega
      have HJ := Lib.hid (show j + 1 + k = X.length by omega)
      clear hx hgx hv hc hj hz hjl hlt
      gi_wp2_with (with_reducible refine inList_load rfl 41 _ rfl b (o + j * 25) rfl x.cells _ hcx Tryz.underlying41 rfl (rv_size _) ?_)
      refine hR.mono ?_
      rintro e W3 (⟨rfl, hJ3, hk3⟩ | ⟨rfl, hJx3⟩)
      · gi_wp2
        go_roundw
        case rel =>
          have := HJ.out
          exact ⟨k + 1, (j : Int) - 1, by omega, by omega, by go_num, by rw [ends_succ]; exact hJ3, hnx.trans hk3⟩
        case measure => simp [intOf]
      · gi_wp2
        refine bodyPost_ret (results_none rfl _ _ _) rfl ?_
        refine ⟨⟨_, rfl⟩, .inr ⟨_, ?_, hJx3⟩⟩
        intro q y e i hi
        have := HJ.out
        obtain ⟨e1, e2⟩ := List.append_inj' e rfl
        rw [← e1]
        refine ends_mem hX i ?_
        have : y = fromEnd hX k := by simpa using e2.symm
        subst this
        have : (fromEnd hX k).val = X.length - 1 - k := rfl
        omega
    · obtain rfl : k = X.length := by omega
      obtain rfl : z = -1 := by omega
      gi_wp2
      go_end0
      exact ⟨⟨_, rfl⟩, .inl ⟨_, fun i => ends_mem hX i (by omega), hJs⟩⟩

set_option maxHeartbeats 4000000 in
/-- slices.Backward: the slice is boxed; the function value has the box. -/
theorem back_any (A : Option Addr) (n c : Nat) (w : World) : Calls Tryz.prog 34 #[.slice A n c] w fun e w' => e = .returned (.func (.func 65) #[] #[.pointer (some ⟨w.heap.size, 0, none⟩)]) ∧ w' = w.alloc (.cells #[.slice A n c] 22) := by
  go_enter Tryz.func34, Tryz.ntmps34
  go_wp2
  go_ret
  exact ⟨rfl, rfl⟩

/-- From the end on: all of them, or the last ones. -/
theorem back_stops (F : Fence) (n : Nat) (hf : F.fn 65) (hro : F.round = none) (hn : 1 ≤ n) (Bs n₀ : Nat) (v : Value) (X : List Rv) (hl : X.length ≤ 1000) (w : World) (hB0 : Bs < n₀) (hn₀ : n₀ ≤ w.heap.size)
    (hc : w.cell? ⟨Bs, 0, none⟩ = some v) (h : ∃ A c, v = .slice A X.length c ∧ (0 < X.length → ∃ b o, A = some ⟨b, o, none⟩ ∧ b < n₀ ∧ ∀ k x, X[k]? = some x → w.rangeAt b (o + k * 25) x.cells)) :
    SeqStopsK F n Tryz.prog 65 #[.pointer (some ⟨Bs, 0, none⟩)] (encB X) (Below n₀) (AllB X) (TailB X) X.length w := fun l J Jx W hW _ _ hY h0 => by
  have hc' := (hW.cell (p := ⟨Bs, 0, none⟩) (show Bs < w.heap.size by omega)).trans hc
  obtain ⟨A, c, rfl, hA⟩ := h
  by_cases hX : 0 < X.length
  · obtain ⟨b, o, rfl, hb, hr⟩ := hA hX
    exact back1_in F n hf hro hn l Bs n₀ b o c X hX hl hb J Jx hY W hc' hB0 (fun k x hx q u hq => (hW.cell (p := ⟨b, o + k * 25 + q, none⟩) (show b < w.heap.size by omega)).trans (hr k x hx q u hq)) h0
  · have e : X.length = 0 := by omega
    rw [e] at hc'
    refine (back1_nil F n hf hro l Bs c A X J W hc' h0).mono fun _ _ ⟨he, hj⟩ => ⟨he, .inl ⟨[], fun k => ?_, hj⟩⟩
    exact absurd k.isLt (by omega)
end Go.Proofs.YtpknkhgkejkpkaaGreat
