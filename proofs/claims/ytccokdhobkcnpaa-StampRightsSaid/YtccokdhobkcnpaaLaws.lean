/- The walks of StampRights and StampOrders: they return true, and nothing that was there changes; no conditions. -/
import Derived.Test.YtccokdhobkcnpaaAfter
namespace Go.Proofs.Ytccokdhobkcnpaa
open Go.RowKit

set_option maxHeartbeats 4000000 in
theorem rights_law (n r t c u m i s : Int) (w : World) :
    Calls Try.prog 3 #[.agg #[.int .i64 n, .int .i64 r], .agg #[.int .i64 t, .int .i64 c], .agg #[.int .i64 u, .int .i64 m], .agg #[.int .i64 i, .int .i64 s]] w fun e w' => e = .returned (.bool true) ∧ Below w.heap.size w w' := by
  go_enter Try.func3, Try.ntmps3
  go_wp2_with (fail)
  have HB := Lib.hid (show Below w.heap.size w ((((w.alloc (.cells #[.int .i64 n, .int .i64 r] 23)).alloc (.cells #[.int .i64 t, .int .i64 c] 25)).alloc (.cells #[.int .i64 u, .int .i64 m] 27)).alloc (.cells #[.int .i64 i, .int .i64 s] 29)) from
    (((((Below.refl _ _).alloc (Nat.le_refl _) _).alloc (by simp) _).alloc (by simp; omega) _).alloc (by simp; omega) _))
  refine wp_region_after (by kernel_rfl) (by kernel_rfl) ?_
  have hx := @After.cell ((((w.alloc (.cells #[.int .i64 n, .int .i64 r] 23)).alloc (.cells #[.int .i64 t, .int .i64 c] 25)).alloc (.cells #[.int .i64 u, .int .i64 m] 27)).alloc (.cells #[.int .i64 i, .int .i64 s] 29))
  repeat (go_big_quiet_step (first
    | (go_at_call 10; exact Calls.after_of (rightBallot_any _ _ _))
    | (go_at_call 11; exact Calls.after_of (refBallot_any _ _ _))
    | (go_at_call 12; exact Calls.after_of (rightStamp_any _ _ _))
    | (go_at_call 13; exact Calls.after_of (refStamp_any _ _ _))
    | (go_at_call 14; exact Calls.after_of (rightTxn_any _ _ _))
    | (go_at_call 15; exact Calls.after_of (refTxn_any _ _ _))
    | (go_at_call 16; exact Calls.after_of (rightInst_any _ _ _))
    | (go_at_call 17; exact Calls.after_of (refInst_any _ _ _))
    | (go_at_call 18; exact Calls.after_of (awake_any _))))
  refine wpQuiet_nil ?_
  rintro _ ⟨x, rfl⟩
  go_wp2
  go_ret
  exact ⟨rfl, below_on HB.out x.below⟩
end Go.Proofs.Ytccokdhobkcnpaa
