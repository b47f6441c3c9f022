/- Contracts of both Shards and of awake; no conditions. -/
import Derived.Test.YtagngbdlpdilnaaWalksD
namespace Go.Proofs.Ytagngbdlpdilnaa
open Go.RowKit

namespace M
/-- Is there a shard? -/
def okB (l : Nat) (n : Int) : Bool := rightB l && (decide (1 ≤ n) && decide (n ≤ 4))
theorem okB_iff {l : Nat} {n : Int} : okB l n = true ↔ (1 ≤ l ∧ l ≤ 8) ∧ 1 ≤ n ∧ n ≤ 4 := by
  unfold okB; rw [Bool.and_eq_true, rightB_iff, Bool.and_eq_true, decide_eq_true_eq, decide_eq_true_eq]
/-- A text's shard, and why there is none. -/
def sh (s : ByteArray) (n : Int) : Int := if okB s.size n then (weight s : Int) % n else 0
def er (s : ByteArray) (n : Int) : Int := if okB s.size n then 0 else 1
theorem sh_ok {s : ByteArray} {n : Int} (h : okB s.size n = true) : sh s n = (weight s : Int) % n ∧ er s n = 0 := by simp [sh, er, h]
theorem sh_no {s : ByteArray} {n : Int} (h : okB s.size n = false) : sh s n = 0 ∧ er s n = 1 := by simp [sh, er, h]
theorem okB_right {l : Nat} {n : Int} (h : rightB l = false) : okB l n = false := by simp [okB, h]
theorem okB_n {l : Nat} {n : Int} (h : ¬ (1 ≤ n ∧ n ≤ 4)) : okB l n = false := by
  cases e : okB l n
  · rfl
  · exact absurd (okB_iff.1 e).2 h
theorem okB_yes {l : Nat} {n : Int} (h : rightB l = true) (h1 : 1 ≤ n) (h2 : n ≤ 4) : okB l n = true := okB_iff.2 ⟨rightB_iff.1 h, h1, h2⟩
end M

theorem two (b : Bool) : b = true ∨ b = false := by cases b <;> simp

theorem sub_div (a n : Int) : a - a / n * n = a % n := by rw [Int.emod_def, Int.mul_comm n]

theorem wrap_id {a : Int} (h0 : 0 ≤ a) (h1 : a ≤ 1000000000000000) : wrap64 a = a := by unfold wrap64; omega
theorem rem_wrap {a n : Int} (h0 : 0 ≤ a) (h1 : a ≤ 1000000000000000) (hn : 1 ≤ n) : wrap64 (a - wrap64 (wrap64 (a / n) * n)) = a - a / n * n := by
  have hq : 0 ≤ a / n := Int.ediv_nonneg h0 (by omega)
  have hq1 : a / n ≤ a := Int.ediv_le_self _ h0
  have hq2 : a / n * n ≤ a := Int.ediv_mul_le _ (by omega)
  have hq3 : 0 ≤ a / n * n := Int.mul_nonneg hq (by omega)
  rw [wrap_id hq (by omega), wrap_id hq3 (by omega), wrap_id (by omega) (by omega)]

end Go.Proofs.Ytagngbdlpdilnaa
