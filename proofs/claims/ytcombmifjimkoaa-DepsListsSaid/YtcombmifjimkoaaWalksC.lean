/- Contracts of Right, Count, awake; no conditions. -/
import Derived.Test.YtcombmifjimkoaaWalksB
namespace Go.Proofs.Ytcombmifjimkoaa
open Go.RowKit
attribute [local go_sem ↓] run_max_mx run_min_mn run_same7

theorem over_zero (a : Nat → Int) (w : World) :
    Calls Try.prog 15 #[.agg #[.int .i64 (a 0), .int .i64 (a 1), .int .i64 (a 2), .int .i64 (a 3), .int .i64 (a 4), .int .i64 (a 5), .int .i64 (a 6)], .agg #[.int .i64 0, .int .i64 0, .int .i64 0, .int .i64 0, .int .i64 0, .int .i64 0, .int .i64 0]] w fun e w' => e = .returned (.bool (M.over a M.zf)) ∧ Below w.heap.size w w' := by
  have h := over_any a M.zf w
  simp only [M.zf] at h
  exact h
theorem over_wf (a : Nat → Int) (w : World) :
    Calls Try.prog 15 #[.agg #[.int .i64 (M.wf 0), .int .i64 (M.wf 1), .int .i64 (M.wf 2), .int .i64 (M.wf 3), .int .i64 (M.wf 4), .int .i64 (M.wf 5), .int .i64 (M.wf 6)], .agg #[.int .i64 (a 0), .int .i64 (a 1), .int .i64 (a 2), .int .i64 (a 3), .int .i64 (a 4), .int .i64 (a 5), .int .i64 (a 6)]] w fun e w' => e = .returned (.bool (M.over M.wf a)) ∧ Below w.heap.size w w' := over_any M.wf a w
set_option maxHeartbeats 400000 in
theorem right_no (a : Nat → Int) (w : World) (h : M.over a M.zf = false) :
    Calls Try.prog 9 #[.agg #[.int .i64 (a 0), .int .i64 (a 1), .int .i64 (a 2), .int .i64 (a 3), .int .i64 (a 4), .int .i64 (a 5), .int .i64 (a 6)]] w fun e w' => e = .returned (.bool false) ∧ Below w.heap.size w w' := by
  have K := Lib.hid (over_zero a)
  rw [h] at K
  go_enter Try.func9, Try.ntmps9
  go_wp2_with (fail)
  have HB := Lib.hid (show Below w.heap.size w (w.alloc (.cells #[.int .i64 (a 0), .int .i64 (a 1), .int .i64 (a 2), .int .i64 (a 3), .int .i64 (a 4), .int .i64 (a 5), .int .i64 (a 6)] 23)) from below_new (Below.refl _ _))
  refine wp_region_after (by kernel_rfl) (by kernel_rfl) ?_
  have hx := @After.cell (w.alloc (.cells #[.int .i64 (a 0), .int .i64 (a 1), .int .i64 (a 2), .int .i64 (a 3), .int .i64 (a 4), .int .i64 (a 5), .int .i64 (a 6)] 23))
  clear h
  repeat (go_big_quiet_step (first | (go_at_call 15; exact Calls.after_of (K.out _))))
  refine wpQuiet_nil ?_
  rintro _ ⟨x, rfl⟩
  go_wp2
  go_ret
  exact ⟨rfl, below_on HB.out x.below⟩
set_option maxHeartbeats 400000 in
theorem right_yes (a : Nat → Int) (w : World) (h : M.over a M.zf = true) :
    Calls Try.prog 9 #[.agg #[.int .i64 (a 0), .int .i64 (a 1), .int .i64 (a 2), .int .i64 (a 3), .int .i64 (a 4), .int .i64 (a 5), .int .i64 (a 6)]] w fun e w' => e = .returned (.bool (M.over M.wf a)) ∧ Below w.heap.size w w' := by
  have K := Lib.hid (over_zero a)
  rw [h] at K
  go_enter Try.func9, Try.ntmps9
  go_wp2_with (fail)
  have HB := Lib.hid (show Below w.heap.size w (w.alloc (.cells #[.int .i64 (a 0), .int .i64 (a 1), .int .i64 (a 2), .int .i64 (a 3), .int .i64 (a 4), .int .i64 (a 5), .int .i64 (a 6)] 23)) from below_new (Below.refl _ _))
  refine wp_region_after (by kernel_rfl) (by kernel_rfl) ?_
  have hx := @After.cell (w.alloc (.cells #[.int .i64 (a 0), .int .i64 (a 1), .int .i64 (a 2), .int .i64 (a 3), .int .i64 (a 4), .int .i64 (a 5), .int .i64 (a 6)] 23))
  clear h
  go_big_quiet_step (first | (go_at_call 15; exact Calls.after_of (K.out _)))
  go_big_quiet_step (first | (go_at_call 15; exact Calls.after_of (K.out _)))
  go_big_quiet_step (first | (go_at_call 15; exact Calls.after_of (K.out _)))
  go_big_quiet_step (first | (go_at_call 15; exact Calls.after_of (K.out _)))
  go_big_quiet_step (first | (go_at_call 24; exact Calls.after_of (whole_any _)))
  go_big_quiet_step (fail)
  repeat (go_big_quiet_step (first
    | (go_at_call 15; exact Calls.after_of (over_wf _ _))))
  refine wpQuiet_nil ?_
  rintro _ ⟨x, rfl⟩
  go_wp2
  go_ret
  exact ⟨rfl, below_on HB.out x.below⟩
theorem right_any (a : Nat → Int) (w : World) :
    Calls Try.prog 9 #[.agg #[.int .i64 (a 0), .int .i64 (a 1), .int .i64 (a 2), .int .i64 (a 3), .int .i64 (a 4), .int .i64 (a 5), .int .i64 (a 6)]] w fun e w' => e = .returned (.bool (M.right a)) ∧ Below w.heap.size w w' := by
  cases h : M.over a M.zf
  · rw [show M.right a = false by unfold M.right; rw [h]; rfl]
    exact right_no a w h
  · rw [show M.right a = M.over M.wf a by unfold M.right; rw [h]; rfl]
    exact right_yes a w h

end Go.Proofs.Ytcombmifjimkoaa
