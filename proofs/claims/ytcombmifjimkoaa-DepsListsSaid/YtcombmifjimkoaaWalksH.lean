/- Contracts of Count and Insts; no conditions. -/
import Derived.Test.YtcombmifjimkoaaLaws
import Derived.Test.YtcombmifjimkoaaMathB
import Derived.OwnWalk
import Derived.LoopTactic
namespace Go.Proofs.Ytcombmifjimkoaa
open Go.RowKit
attribute [local go_sem ↓] run_max_mx run_min_mn run_same7

theorem idx_any (f : Nat → Int) (k : Nat) (h : k < 7) (w : World) : (Instr.index 23 (.agg #[.int .i64 (f 0), .int .i64 (f 1), .int .i64 (f 2), .int .i64 (f 3), .int .i64 (f 4), .int .i64 (f 5), .int .i64 (f 6)]) (.int .i64 k)).run Try.prog w = .ok (.int .i64 (f k)) w := by
  rcases M.seven h with rfl | rfl | rfl | rfl | rfl | rfl | rfl <;> kernel_rfl

set_option maxHeartbeats 1000000 in
theorem count_no (a : Nat → Int) (w : World) (hr : M.right a = false) :
    Calls Try.prog 23 #[.agg #[.int .i64 (a 0), .int .i64 (a 1), .int .i64 (a 2), .int .i64 (a 3), .int .i64 (a 4), .int .i64 (a 5), .int .i64 (a 6)]] w fun e w' => e = .returned (.int .i64 0) ∧ Below w.heap.size w w' := by
  go_enter Try.func23, Try.ntmps23
  go_wp2_with (fail)
  refine (right_any _ _).mono ?_
  rintro e w1 ⟨rfl, hb⟩
  have H1 := Lib.hid (below_on (below_new (Below.refl _ _)) hb)
  clear hb
  go_wp2
  go_ret
  exact ⟨rfl, H1.out⟩

set_option maxHeartbeats 1000000 in
theorem count_yes (a : Nat → Int) (w : World) (hr : M.right a = true) :
    Calls Try.prog 23 #[.agg #[.int .i64 (a 0), .int .i64 (a 1), .int .i64 (a 2), .int .i64 (a 3), .int .i64 (a 4), .int .i64 (a 5), .int .i64 (a 6)]] w fun e w' => e = .returned (.int .i64 (M.ln a 7)) ∧ Below w.heap.size w w' := by
  have HR := Lib.hid hr
  go_enter Try.func23, Try.ntmps23
  go_wp2_with (fail)
  refine (right_any _ _).mono ?_
  rintro e w1 ⟨rfl, hb⟩
  have H1 := Lib.hid (below_on (below_new (Below.refl _ _)) hb)
  have P1 := Lib.hid ((At7.new w a).on hb)
  clear hb
  obtain ⟨l0, c00, c01, c02, c03, c04, c05, c06⟩ := P1.out
  go_wp2_with (fail)
  clear l0 c00 c01 c02 c03 c04 c05 c06
  go_loop [3, 10] (fun n i => ∃ k : Nat, k ≤ 7 ∧ i = .int .i64 k ∧ n = .int .i64 (M.ln a k)) (fun _ i => 7 - (intOf i).toNat)
  case atStart => exact ⟨0, by omega, rfl, rfl⟩
  case round =>
    obtain ⟨k, hk, rfl, rfl⟩ := hrel
    have hl := M.ln_le HR.out hk
    by_cases hlt : k < 7
    · have hix := idx_any a k hlt
      have hb := M.right_iff.1 HR.out k hlt
      obtain ⟨hb0, hb1⟩ := hb
      have HE := Lib.hid (show ((M.ln a (k + 1) : Nat) : Int) = (M.ln a k : Int) + a k by rw [M.ln]; omega)
      go_wp2
      go_round
      case rel => exact ⟨k + 1, by omega, by go_num, by rw [HE.out]⟩
      case measure => simp [intOf]; omega
    · obtain rfl : k = 7 := by omega
      go_wp2
      go_ret
      exact ⟨rfl, H1.out⟩
end Go.Proofs.Ytcombmifjimkoaa
