/- Contracts of layer 2's functions on ballots and instances, and of the document's; no conditions. -/
import Derived.Test.YtagngbdlpdilnaaAfter
namespace Go.Proofs.Ytagngbdlpdilnaa
open Go.RowKit

set_option maxHeartbeats 400000 in
theorem isReplica_any (k : Int) (w : World) :
    Calls Try.prog 65 #[.int .i64 k] w fun e w' => e = .returned (.bool (M.within k 0 6)) ∧ w = w' := by
  go_enter Try.func65, Try.ntmps65
  go_wp2_with (go_at_call 66; refine (within_any _ _ _ _).mono ?_; rintro e w' ⟨rfl, rfl⟩)
  go_ret
  exact ⟨rfl, rfl⟩

set_option maxHeartbeats 400000 in
theorem rightBallot_any (n r : Int) (w : World) :
    Calls Try.prog 32 #[.agg #[.int .i64 n, .int .i64 r]] w fun e w' => e = .returned (.bool (M.pairB n r 0 1099511627776 0 6)) ∧ Below w.heap.size w w' := by
  cases h1 : M.within n 0 1099511627776
  · rw [M.pair_one h1]
    go_enter Try.func32, Try.ntmps32
    go_wp2_with (go_at_call 66; refine (within_any _ _ _ _).mono ?_; rintro e w' ⟨rfl, rfl⟩)
    go_ret
    exact ⟨rfl, (Below.refl _ _).alloc (Nat.le_refl _) _⟩
  · cases h2 : M.within r 0 6
    · rw [M.pair_two h2]
      go_enter Try.func32, Try.ntmps32
      go_wp2_with (first
        | (go_at_call 66; refine (within_any _ _ _ _).mono ?_; rintro e w' ⟨rfl, rfl⟩)
        | (go_at_call 65; refine (isReplica_any _ _).mono ?_; rintro e w' ⟨rfl, rfl⟩))
      go_ret
      exact ⟨rfl, (Below.refl _ _).alloc (Nat.le_refl _) _⟩
    · rw [M.pair_true h1 h2]
      go_enter Try.func32, Try.ntmps32
      go_wp2_with (first
        | (go_at_call 66; refine (within_any _ _ _ _).mono ?_; rintro e w' ⟨rfl, rfl⟩)
        | (go_at_call 65; refine (isReplica_any _ _).mono ?_; rintro e w' ⟨rfl, rfl⟩))
      go_ret
      exact ⟨rfl, (Below.refl _ _).alloc (Nat.le_refl _) _⟩
set_option maxHeartbeats 400000 in
theorem rightInst_any (x y : Int) (w : World) :
    Calls Try.prog 31 #[.agg #[.int .i64 x, .int .i64 y]] w fun e w' => e = .returned (.bool (M.pairB x y 0 6 1 1048576)) ∧ Below w.heap.size w w' := by
  cases h1 : M.within x 0 6
  · rw [M.pair_one h1]
    go_enter Try.func31, Try.ntmps31
    go_wp2_with (first
      | (go_at_call 65; refine (isReplica_any _ _).mono ?_; rintro e w' ⟨rfl, rfl⟩)
      | (go_at_call 66; refine (within_any _ _ _ _).mono ?_; rintro e w' ⟨rfl, rfl⟩))
    go_ret
    exact ⟨rfl, (Below.refl _ _).alloc (Nat.le_refl _) _⟩
  · cases h2 : M.within y 1 1048576
    · rw [M.pair_two h2]
      go_enter Try.func31, Try.ntmps31
      go_wp2_with (first
        | (go_at_call 65; refine (isReplica_any _ _).mono ?_; rintro e w' ⟨rfl, rfl⟩)
        | (go_at_call 66; refine (within_any _ _ _ _).mono ?_; rintro e w' ⟨rfl, rfl⟩))
      go_ret
      exact ⟨rfl, (Below.refl _ _).alloc (Nat.le_refl _) _⟩
    · rw [M.pair_true h1 h2]
      go_enter Try.func31, Try.ntmps31
      go_wp2_with (first
        | (go_at_call 65; refine (isReplica_any _ _).mono ?_; rintro e w' ⟨rfl, rfl⟩)
        | (go_at_call 66; refine (within_any _ _ _ _).mono ?_; rintro e w' ⟨rfl, rfl⟩))
      go_ret
      exact ⟨rfl, (Below.refl _ _).alloc (Nat.le_refl _) _⟩

set_option maxHeartbeats 400000 in
theorem refBallot_any (x y : Int) (w : World) :
    Calls Try.prog 38 #[.agg #[.int .i64 x, .int .i64 y]] w fun e w' => e = .returned (.bool (M.pairB x y 0 1099511627776 0 6)) ∧ Below w.heap.size w w' := by
  by_cases h1 : 0 ≤ x
  · by_cases h2 : x ≤ 1099511627776
    · by_cases h3 : 0 ≤ y
      · by_cases h4 : y ≤ 6
        · rw [M.pair_true (M.within_true h1 h2) (M.within_true h3 h4)]
          go_enter Try.func38, Try.ntmps38
          go_wp2
          go_ret
          exact ⟨rfl, (Below.refl _ _).alloc (Nat.le_refl _) _⟩
        · rw [M.pair_two (M.within_high h4)]
          go_enter Try.func38, Try.ntmps38
          go_wp2
          go_ret
          exact ⟨rfl, (Below.refl _ _).alloc (Nat.le_refl _) _⟩
      · rw [M.pair_two (M.within_low h3)]
        go_enter Try.func38, Try.ntmps38
        go_wp2
        go_ret
        exact ⟨rfl, (Below.refl _ _).alloc (Nat.le_refl _) _⟩
    · rw [M.pair_one (M.within_high h2)]
      go_enter Try.func38, Try.ntmps38
      go_wp2
      go_ret
      exact ⟨rfl, (Below.refl _ _).alloc (Nat.le_refl _) _⟩
  · rw [M.pair_one (M.within_low h1)]
    go_enter Try.func38, Try.ntmps38
    go_wp2
    go_ret
    exact ⟨rfl, (Below.refl _ _).alloc (Nat.le_refl _) _⟩

set_option maxHeartbeats 400000 in
theorem refInst_any (x y : Int) (w : World) :
    Calls Try.prog 37 #[.agg #[.int .i64 x, .int .i64 y]] w fun e w' => e = .returned (.bool (M.pairB x y 0 6 1 1048576)) ∧ Below w.heap.size w w' := by
  by_cases h1 : 0 ≤ x
  · by_cases h2 : x ≤ 6
    · by_cases h3 : 1 ≤ y
      · by_cases h4 : y ≤ 1048576
        · rw [M.pair_true (M.within_true h1 h2) (M.within_true h3 h4)]
          go_enter Try.func37, Try.ntmps37
          go_wp2
          go_ret
          exact ⟨rfl, (Below.refl _ _).alloc (Nat.le_refl _) _⟩
        · rw [M.pair_two (M.within_high h4)]
          go_enter Try.func37, Try.ntmps37
          go_wp2
          go_ret
          exact ⟨rfl, (Below.refl _ _).alloc (Nat.le_refl _) _⟩
      · rw [M.pair_two (M.within_low h3)]
        go_enter Try.func37, Try.ntmps37
        go_wp2
        go_ret
        exact ⟨rfl, (Below.refl _ _).alloc (Nat.le_refl _) _⟩
    · rw [M.pair_one (M.within_high h2)]
      go_enter Try.func37, Try.ntmps37
      go_wp2
      go_ret
      exact ⟨rfl, (Below.refl _ _).alloc (Nat.le_refl _) _⟩
  · rw [M.pair_one (M.within_low h1)]
    go_enter Try.func37, Try.ntmps37
    go_wp2
    go_ret
    exact ⟨rfl, (Below.refl _ _).alloc (Nat.le_refl _) _⟩

set_option maxHeartbeats 400000 in
theorem compareBallots_any (a b c d : Int) (w : World) :
    Calls Try.prog 33 #[.agg #[.int .i64 a, .int .i64 b], .agg #[.int .i64 c, .int .i64 d]] w fun e w' => e = .returned (.int .i64 (M.ord a b c d)) ∧ Below w.heap.size w w' := by
  by_cases h1 : a < c
  · have n1 : ¬ a = c := by omega
    rw [M.ord_lt h1]
    go_enter Try.func33, Try.ntmps33
    go_wp2_with (first
      | (go_at_call 67; refine (side_true _).mono ?_; rintro e w' ⟨rfl, rfl⟩))
    go_ret
    exact ⟨rfl, ((Below.refl _ _).alloc (Nat.le_refl _) _).alloc (by simp) _⟩
  · by_cases h2 : c < a
    · have n1 : ¬ a = c := by omega
      rw [M.ord_gt h2]
      go_enter Try.func33, Try.ntmps33
      go_wp2_with (first
        | (go_at_call 67; refine (side_false _).mono ?_; rintro e w' ⟨rfl, rfl⟩))
      go_ret
      exact ⟨rfl, ((Below.refl _ _).alloc (Nat.le_refl _) _).alloc (by simp) _⟩
    · obtain rfl : a = c := by omega
      by_cases h3 : b < d
      · have n1 : ¬ b = d := by omega
        rw [M.ord_lt2 h3]
        go_enter Try.func33, Try.ntmps33
        go_wp2_with (first
          | (go_at_call 67; refine (side_true _).mono ?_; rintro e w' ⟨rfl, rfl⟩))
        go_ret
        exact ⟨rfl, ((Below.refl _ _).alloc (Nat.le_refl _) _).alloc (by simp) _⟩
      · by_cases h4 : d < b
        · have n1 : ¬ b = d := by omega
          rw [M.ord_gt2 h4]
          go_enter Try.func33, Try.ntmps33
          go_wp2_with (first
            | (go_at_call 67; refine (side_false _).mono ?_; rintro e w' ⟨rfl, rfl⟩))
          go_ret
          exact ⟨rfl, ((Below.refl _ _).alloc (Nat.le_refl _) _).alloc (by simp) _⟩
        · obtain rfl : b = d := by omega
          rw [M.ord_same]
          go_enter Try.func33, Try.ntmps33
          go_wp2
          go_ret
          exact ⟨rfl, ((Below.refl _ _).alloc (Nat.le_refl _) _).alloc (by simp) _⟩

end Go.Proofs.Ytagngbdlpdilnaa
