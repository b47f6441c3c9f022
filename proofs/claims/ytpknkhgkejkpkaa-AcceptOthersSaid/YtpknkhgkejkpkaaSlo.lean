/- Contracts of the next slot, of the last one of an instance; no conditions but those that they name. -/
import Derived.Test.YtpknkhgkejkpkaaPx
import Derived.BigQuiet
import Derived.Deep.QuietTactic

namespace Go.Proofs.Ytpknkhgkejkpkaa
open Go.ChangeShapes Go.WideShapes Go.ChangeAt Go.RowKit

attribute [local go_sem ↓] run_same_inst Dp.run_max_mx Dp.run_min_mn
set_option maxHeartbeats 1000000 in
theorem following_any (n : Int) (w : World) : Calls Try.prog 47 #[.int .i64 n] w fun e w' => e = .returned (.int .i64 (fol n)) ∧ w = w' := by
  have hf : wrap64 (Dp.M.mn n 1099511627775 + 1) = fol n := rfl
  go_enter Try.func47, Try.ntmps47
  go_wp2
  go_ret
  exact ⟨rfl, rfl⟩
end Go.Proofs.Ytpknkhgkejkpkaa

namespace Go.Proofs.Ytpknkhgkejkpkaa
open Go.ChangeShapes Go.WideShapes Go.ChangeAt Go.RowKit

attribute [local go_sem ↓] Dp.run_max_mx Dp.run_min_mn
theorem wrap_one {n : Int} (h : 0 ≤ n) (h' : n ≤ 1048576) : wrap64 (n + 1) = n + 1 := by
  obtain ⟨k, rfl⟩ := Int.eq_ofNat_of_zero_le h
  have := wrap_small (n := k + 1) (by omega)
  simpa using this
theorem slots_nonneg (p : Int) : ∀ (l : List M.Rec) (n : Int), 0 ≤ n → n ≤ slotsL p n l
  | [], n, _ => Int.le_refl n
  | r :: l, n, h => by
    have h1 : n ≤ slot1 p n r := by unfold slot1 Dp.M.mx; split <;> (try split) <;> omega
    exact Int.le_trans h1 (slots_nonneg p l (slot1 p n r) (by omega))
end Go.Proofs.Ytpknkhgkejkpkaa
