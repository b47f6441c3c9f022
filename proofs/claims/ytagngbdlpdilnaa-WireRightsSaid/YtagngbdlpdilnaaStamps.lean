/- Contracts of layer 2's functions that commands use, and of the document's; no conditions. -/
import Derived.Test.YtagngbdlpdilnaaWalksI
namespace Go.Proofs.Ytagngbdlpdilnaa
open Go.RowKit

namespace M
/-- Between two numbers, both let in. -/
def within (n lo hi : Int) : Bool := decide (lo ≤ n) && decide (n ≤ hi)
theorem within_true {n lo hi : Int} (h1 : lo ≤ n) (h2 : n ≤ hi) : within n lo hi = true := by simp [within, h1, h2]
theorem within_low {n lo hi : Int} (h : ¬ lo ≤ n) : within n lo hi = false := by simp [within, h]
theorem within_high {n lo hi : Int} (h : ¬ n ≤ hi) : within n lo hi = false := by simp [within, h]
theorem within_iff {n lo hi : Int} : within n lo hi = true ↔ lo ≤ n ∧ n ≤ hi := by simp [within]
theorem within_no {n lo hi : Int} (h : within n lo hi = false) : n < lo ∨ hi < n := by
  by_cases h1 : lo ≤ n
  · by_cases h2 : n ≤ hi
    · rw [within_true h1 h2] at h; cases h
    · omega
  · omega

/-- A pair whose first number is up to a and from lo on, the second from lo' up to b. -/
def pairB (x y lo a lo' b : Int) : Bool := within x lo a && within y lo' b
theorem pair_true {x y lo a lo' b : Int} (h1 : within x lo a = true) (h2 : within y lo' b = true) : pairB x y lo a lo' b = true := by simp [pairB, h1, h2]
theorem pair_one {x y lo a lo' b : Int} (h1 : within x lo a = false) : pairB x y lo a lo' b = false := by simp [pairB, h1]
theorem pair_two {x y lo a lo' b : Int} (h2 : within y lo' b = false) : pairB x y lo a lo' b = false := by simp [pairB, h2]
theorem pair_iff {x y lo a lo' b : Int} : pairB x y lo a lo' b = true ↔ (lo ≤ x ∧ x ≤ a) ∧ (lo' ≤ y ∧ y ≤ b) := by simp [pairB, within_iff]

/-- The order of two pairs. -/
def ord (a b c d : Int) : Int := if a < c then -1 else if c < a then 1 else if b < d then -1 else if d < b then 1 else 0
theorem ord_lt {a b c d : Int} (h : a < c) : ord a b c d = -1 := by simp [ord, h]
theorem ord_gt {a b c d : Int} (h : c < a) : ord a b c d = 1 := by
  have : ¬ a < c := by omega
  simp [ord, h, this]
theorem ord_lt2 {a b d : Int} (h : b < d) : ord a b a d = -1 := by simp [ord, h]
theorem ord_gt2 {a b d : Int} (h : d < b) : ord a b a d = 1 := by
  have : ¬ b < d := by omega
  simp [ord, h, this]
theorem ord_same (a b : Int) : ord a b a b = 0 := by simp [ord]
end M

set_option maxHeartbeats 400000 in
theorem within_any (n lo hi : Int) (w : World) :
    Calls Try.prog 66 #[.int .i64 n, .int .i64 lo, .int .i64 hi] w fun e w' => e = .returned (.bool (M.within n lo hi)) ∧ w = w' := by
  by_cases h1 : lo ≤ n
  · by_cases h2 : n ≤ hi
    · rw [M.within_true h1 h2]
      go_enter Try.func66, Try.ntmps66
      go_wp2
      go_ret
      exact ⟨rfl, rfl⟩
    · rw [M.within_high h2]
      go_enter Try.func66, Try.ntmps66
      go_wp2
      go_ret
      exact ⟨rfl, rfl⟩
  · rw [M.within_low h1]
    go_enter Try.func66, Try.ntmps66
    go_wp2
    go_ret
    exact ⟨rfl, rfl⟩

set_option maxHeartbeats 400000 in
theorem isClient_any (k : Int) (w : World) :
    Calls Try.prog 107 #[.int .i64 k] w fun e w' => e = .returned (.bool (M.within k 0 3)) ∧ w = w' := by
  go_enter Try.func107, Try.ntmps107
  go_wp2_with (go_at_call 66; refine (within_any _ _ _ _).mono ?_; rintro e w' ⟨rfl, rfl⟩)
  go_ret
  exact ⟨rfl, rfl⟩

set_option maxHeartbeats 400000 in
theorem side_true (w : World) :
    Calls Try.prog 67 #[.bool true] w fun e w' => e = .returned (.int .i64 (-1)) ∧ w = w' := by
  go_enter Try.func67, Try.ntmps67
  go_wp2
  go_ret
  exact ⟨rfl, rfl⟩

set_option maxHeartbeats 400000 in
theorem side_false (w : World) :
    Calls Try.prog 67 #[.bool false] w fun e w' => e = .returned (.int .i64 1) ∧ w = w' := by
  go_enter Try.func67, Try.ntmps67
  go_wp2
  go_ret
  exact ⟨rfl, rfl⟩

set_option maxHeartbeats 400000 in
theorem rightStamp_any (x y : Int) (w : World) :
    Calls Try.prog 88 #[.agg #[.int .i64 x, .int .i64 y]] w fun e w' => e = .returned (.bool (M.pairB x y 0 1099511627776 0 3)) ∧ Below w.heap.size w w' := by
  cases h1 : M.within x 0 1099511627776
  · rw [M.pair_one h1]
    go_enter Try.func88, Try.ntmps88
    go_wp2_with (first
      | (go_at_call 66; refine (within_any _ _ _ _).mono ?_; rintro e w' ⟨rfl, rfl⟩)
      | (go_at_call 107; refine (isClient_any _ _).mono ?_; rintro e w' ⟨rfl, rfl⟩))
    go_ret
    exact ⟨rfl, (Below.refl _ _).alloc (Nat.le_refl _) _⟩
  · cases h2 : M.within y 0 3
    · rw [M.pair_two h2]
      go_enter Try.func88, Try.ntmps88
      go_wp2_with (first
        | (go_at_call 66; refine (within_any _ _ _ _).mono ?_; rintro e w' ⟨rfl, rfl⟩)
        | (go_at_call 107; refine (isClient_any _ _).mono ?_; rintro e w' ⟨rfl, rfl⟩))
      go_ret
      exact ⟨rfl, (Below.refl _ _).alloc (Nat.le_refl _) _⟩
    · rw [M.pair_true h1 h2]
      go_enter Try.func88, Try.ntmps88
      go_wp2_with (first
        | (go_at_call 66; refine (within_any _ _ _ _).mono ?_; rintro e w' ⟨rfl, rfl⟩)
        | (go_at_call 107; refine (isClient_any _ _).mono ?_; rintro e w' ⟨rfl, rfl⟩))
      go_ret
      exact ⟨rfl, (Below.refl _ _).alloc (Nat.le_refl _) _⟩

set_option maxHeartbeats 400000 in
theorem rightTxn_any (x y : Int) (w : World) :
    Calls Try.prog 87 #[.agg #[.int .i64 x, .int .i64 y]] w fun e w' => e = .returned (.bool (M.pairB x y 0 3 1 1099511627776)) ∧ Below w.heap.size w w' := by
  cases h1 : M.within x 0 3
  · rw [M.pair_one h1]
    go_enter Try.func87, Try.ntmps87
    go_wp2_with (first
      | (go_at_call 107; refine (isClient_any _ _).mono ?_; rintro e w' ⟨rfl, rfl⟩)
      | (go_at_call 66; refine (within_any _ _ _ _).mono ?_; rintro e w' ⟨rfl, rfl⟩))
    go_ret
    exact ⟨rfl, (Below.refl _ _).alloc (Nat.le_refl _) _⟩
  · cases h2 : M.within y 1 1099511627776
    · rw [M.pair_two h2]
      go_enter Try.func87, Try.ntmps87
      go_wp2_with (first
        | (go_at_call 107; refine (isClient_any _ _).mono ?_; rintro e w' ⟨rfl, rfl⟩)
        | (go_at_call 66; refine (within_any _ _ _ _).mono ?_; rintro e w' ⟨rfl, rfl⟩))
      go_ret
      exact ⟨rfl, (Below.refl _ _).alloc (Nat.le_refl _) _⟩
    · rw [M.pair_true h1 h2]
      go_enter Try.func87, Try.ntmps87
      go_wp2_with (first
        | (go_at_call 107; refine (isClient_any _ _).mono ?_; rintro e w' ⟨rfl, rfl⟩)
        | (go_at_call 66; refine (within_any _ _ _ _).mono ?_; rintro e w' ⟨rfl, rfl⟩))
      go_ret
      exact ⟨rfl, (Below.refl _ _).alloc (Nat.le_refl _) _⟩

set_option maxHeartbeats 400000 in
theorem refStamp_any (x y : Int) (w : World) :
    Calls Try.prog 47 #[.agg #[.int .i64 x, .int .i64 y]] w fun e w' => e = .returned (.bool (M.pairB x y 0 1099511627776 0 3)) ∧ Below w.heap.size w w' := by
  by_cases h1 : 0 ≤ x
  · by_cases h2 : x ≤ 1099511627776
    · by_cases h3 : 0 ≤ y
      · by_cases h4 : y ≤ 3
        · rw [M.pair_true (M.within_true h1 h2) (M.within_true h3 h4)]
          go_enter Try.func47, Try.ntmps47
          go_wp2
          go_ret
          exact ⟨rfl, (Below.refl _ _).alloc (Nat.le_refl _) _⟩
        · rw [M.pair_two (M.within_high h4)]
          go_enter Try.func47, Try.ntmps47
          go_wp2
          go_ret
          exact ⟨rfl, (Below.refl _ _).alloc (Nat.le_refl _) _⟩
      · rw [M.pair_two (M.within_low h3)]
        go_enter Try.func47, Try.ntmps47
        go_wp2
        go_ret
        exact ⟨rfl, (Below.refl _ _).alloc (Nat.le_refl _) _⟩
    · rw [M.pair_one (M.within_high h2)]
      go_enter Try.func47, Try.ntmps47
      go_wp2
      go_ret
      exact ⟨rfl, (Below.refl _ _).alloc (Nat.le_refl _) _⟩
  · rw [M.pair_one (M.within_low h1)]
    go_enter Try.func47, Try.ntmps47
    go_wp2
    go_ret
    exact ⟨rfl, (Below.refl _ _).alloc (Nat.le_refl _) _⟩

set_option maxHeartbeats 400000 in
theorem refTxn_any (x y : Int) (w : World) :
    Calls Try.prog 46 #[.agg #[.int .i64 x, .int .i64 y]] w fun e w' => e = .returned (.bool (M.pairB x y 0 3 1 1099511627776)) ∧ Below w.heap.size w w' := by
  by_cases h1 : 0 ≤ x
  · by_cases h2 : x ≤ 3
    · by_cases h3 : 1 ≤ y
      · by_cases h4 : y ≤ 1099511627776
        · rw [M.pair_true (M.within_true h1 h2) (M.within_true h3 h4)]
          go_enter Try.func46, Try.ntmps46
          go_wp2
          go_ret
          exact ⟨rfl, (Below.refl _ _).alloc (Nat.le_refl _) _⟩
        · rw [M.pair_two (M.within_high h4)]
          go_enter Try.func46, Try.ntmps46
          go_wp2
          go_ret
          exact ⟨rfl, (Below.refl _ _).alloc (Nat.le_refl _) _⟩
      · rw [M.pair_two (M.within_low h3)]
        go_enter Try.func46, Try.ntmps46
        go_wp2
        go_ret
        exact ⟨rfl, (Below.refl _ _).alloc (Nat.le_refl _) _⟩
    · rw [M.pair_one (M.within_high h2)]
      go_enter Try.func46, Try.ntmps46
      go_wp2
      go_ret
      exact ⟨rfl, (Below.refl _ _).alloc (Nat.le_refl _) _⟩
  · rw [M.pair_one (M.within_low h1)]
    go_enter Try.func46, Try.ntmps46
    go_wp2
    go_ret
    exact ⟨rfl, (Below.refl _ _).alloc (Nat.le_refl _) _⟩

set_option maxHeartbeats 400000 in
theorem order_any (a b c d : Int) (w : World) :
    Calls Try.prog 71 #[.int .i64 a, .int .i64 b, .int .i64 c, .int .i64 d] w fun e w' => e = .returned (.int .i64 (M.ord a b c d)) ∧ w = w' := by
  by_cases h1 : a < c
  · rw [M.ord_lt h1]
    go_enter Try.func71, Try.ntmps71
    go_wp2
    go_ret
    exact ⟨rfl, rfl⟩
  · by_cases h2 : c < a
    · rw [M.ord_gt h2]
      go_enter Try.func71, Try.ntmps71
      go_wp2
      go_ret
      exact ⟨rfl, rfl⟩
    · obtain rfl : a = c := by omega
      by_cases h3 : b < d
      · rw [M.ord_lt2 h3]
        go_enter Try.func71, Try.ntmps71
        go_wp2
        go_ret
        exact ⟨rfl, rfl⟩
      · by_cases h4 : d < b
        · rw [M.ord_gt2 h4]
          go_enter Try.func71, Try.ntmps71
          go_wp2
          go_ret
          exact ⟨rfl, rfl⟩
        · obtain rfl : b = d := by omega
          rw [M.ord_same]
          go_enter Try.func71, Try.ntmps71
          go_wp2
          go_ret
          exact ⟨rfl, rfl⟩

set_option maxHeartbeats 400000 in
theorem compareStamps_any (a b c d : Int) (w : World) :
    Calls Try.prog 109 #[.agg #[.int .i64 a, .int .i64 b], .agg #[.int .i64 c, .int .i64 d]] w fun e w' => e = .returned (.int .i64 (M.ord a b c d)) ∧ Below w.heap.size w w' := by
  by_cases h1 : a < c
  · have n1 : ¬ a = c := by omega
    rw [M.ord_lt h1]
    go_enter Try.func109, Try.ntmps109
    go_wp2_with (first
      | (go_at_call 67; refine (side_true _).mono ?_; rintro e w' ⟨rfl, rfl⟩))
    go_ret
    exact ⟨rfl, ((Below.refl _ _).alloc (Nat.le_refl _) _).alloc (by simp) _⟩
  · by_cases h2 : c < a
    · have n1 : ¬ a = c := by omega
      rw [M.ord_gt h2]
      go_enter Try.func109, Try.ntmps109
      go_wp2_with (first
        | (go_at_call 67; refine (side_false _).mono ?_; rintro e w' ⟨rfl, rfl⟩))
      go_ret
      exact ⟨rfl, ((Below.refl _ _).alloc (Nat.le_refl _) _).alloc (by simp) _⟩
    · obtain rfl : a = c := by omega
      by_cases h3 : b < d
      · have n1 : ¬ b = d := by omega
        rw [M.ord_lt2 h3]
        go_enter Try.func109, Try.ntmps109
        go_wp2_with (first
          | (go_at_call 67; refine (side_true _).mono ?_; rintro e w' ⟨rfl, rfl⟩))
        go_ret
        exact ⟨rfl, ((Below.refl _ _).alloc (Nat.le_refl _) _).alloc (by simp) _⟩
      · by_cases h4 : d < b
        · have n1 : ¬ b = d := by omega
          rw [M.ord_gt2 h4]
          go_enter Try.func109, Try.ntmps109
          go_wp2_with (first
            | (go_at_call 67; refine (side_false _).mono ?_; rintro e w' ⟨rfl, rfl⟩))
          go_ret
          exact ⟨rfl, ((Below.refl _ _).alloc (Nat.le_refl _) _).alloc (by simp) _⟩
        · obtain rfl : b = d := by omega
          rw [M.ord_same]
          go_enter Try.func109, Try.ntmps109
          go_wp2
          go_ret
          exact ⟨rfl, ((Below.refl _ _).alloc (Nat.le_refl _) _).alloc (by simp) _⟩

end Go.Proofs.Ytagngbdlpdilnaa
