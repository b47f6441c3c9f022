/- Contracts of keys.Right and keys.Weight and of the document's Right; no conditions but the lengths that they name. -/
import Derived.Test.YtagngbdlpdilnaaRows
import Derived.Test.YtagngbdlpdilnaaMath
import Derived.WalkKit
import Derived.WalkSpells
import Derived.Lib.Hide
import Derived.Lib.OthersKept
import Derived.BigCall
namespace Go.Proofs.Ytagngbdlpdilnaa
open Go.RowKit

theorem ret_int {k : IntKind} {a b : Int} (h : a = b) : Ending.returned (.int k a) = .returned (.int k b) := by rw [h]
theorem ret_bool {a b : Bool} (h : a = b) : Ending.returned (.bool a) = .returned (.bool b) := by rw [h]
/-- One stretch behind another. -/
theorem below_on {a b c : World} (h : Below a.heap.size a b) (k : Below b.heap.size b c) : Below a.heap.size a c := h.trans (k.mono h.size)
/-- A new block. -/
theorem below_new {a b : World} {o : Obj} (h : Below a.heap.size a b) : Below a.heap.size a (b.alloc o) := h.alloc h.size _

theorem rb_one {n : Nat} (h : 1 ≤ n) : decide ((n : Int) ≤ 8) = M.rightB n := by
  rw [Bool.eq_iff_iff, M.rightB_iff, decide_eq_true_eq]; omega
theorem rb_two {n : Nat} (h : 0 < n) : decide ((n : Int) < 9) = M.rightB n := by
  rw [Bool.eq_iff_iff, M.rightB_iff, decide_eq_true_eq]; omega
theorem rb_no {n : Nat} (h : ¬ 1 ≤ n) : false = M.rightB n := by
  cases e : M.rightB n
  · rfl
  · exact absurd (M.rightB_iff.1 e).1 h

set_option maxHeartbeats 400000 in
theorem right_any (s : ByteArray) (w : World) : Calls Try.prog 115 #[.string s] w fun e w' => e = .returned (.bool (M.rightB s.size)) ∧ w = w' := by
  by_cases h1 : 1 ≤ s.size
  · go_enter Try.func115, Try.ntmps115
    go_wp2
    go_ret
    exact ⟨ret_bool (rb_one h1), rfl⟩
  · go_enter Try.func115, Try.ntmps115
    go_wp2
    go_ret
    exact ⟨ret_bool (rb_no h1), rfl⟩

set_option maxHeartbeats 400000 in
theorem dright_any (s : ByteArray) (w : World) : Calls Try.prog 77 #[.string s] w fun e w' => e = .returned (.bool (M.rightB s.size)) ∧ w = w' := by
  by_cases h1 : 0 < s.size
  · go_enter Try.func77, Try.ntmps77
    go_wp2
    go_ret
    exact ⟨ret_bool (rb_two h1), rfl⟩
  · go_enter Try.func77, Try.ntmps77
    go_wp2
    go_ret
    exact ⟨ret_bool (rb_no (by omega)), rfl⟩

theorem wrap_small {n : Nat} (h : n ≤ 1000000000000000) : wrap64 (n : Int) = (n : Int) := by
  unfold wrap64; omega
theorem weigh_wrap (l : List Nat) (r : Nat) (hl : l.length ≤ 2000) (hr : r ≤ 1114111) (hw : M.weigh 0 l ≤ 4456444000000) :
    wrap64 ((M.weigh 0 l : Int) + wrap64 (((l.length : Int) + 1) * (r : Int))) = ((M.weigh 0 (l ++ [r]) : Nat) : Int) := by
  have h1 : (l.length + 1) * r ≤ 2001 * 1114111 := Nat.mul_le_mul (by omega) hr
  have e : ((l.length : Int) + 1) * (r : Int) = (((l.length + 1) * r : Nat) : Int) := by rw [Int.natCast_mul, Int.natCast_add, Int.natCast_one]
  rw [e, wrap_small (by omega), ← Int.natCast_add, wrap_small (by omega), M.weigh_snoc]

theorem len_split {l m : List Nat} {s : ByteArray} (h : l ++ m = M.runes s) : l.length ≤ s.size := by
  have h1 := M.runes_len s
  rw [← h] at h1
  simp at h1
  omega
theorem le_split {l m : List Nat} {s : ByteArray} (h : l ++ m = M.runes s) : ∀ r ∈ l, r ≤ 1114111 := fun r hr => M.runes_le s r (by rw [← h]; simp [hr])

end Go.Proofs.Ytagngbdlpdilnaa
