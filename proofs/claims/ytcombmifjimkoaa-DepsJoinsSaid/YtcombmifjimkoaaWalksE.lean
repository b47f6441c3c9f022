/- Contracts of the document's own Right and Over; no conditions. -/
import Derived.Test.YtcombmifjimkoaaWalksD
import Derived.LoopTactic
import Derived.Deep.LoopGhost
namespace Go.Proofs.Ytcombmifjimkoaa
open Go.RowKit

namespace M
/-- The first k may be; the first k are no less. -/
def may (a : Nat → Int) (k : Nat) : Prop := ∀ j, j < k → 0 ≤ a j ∧ a j ≤ 1048576
def ovr (a b : Nat → Int) (k : Nat) : Prop := ∀ j, j < k → b j ≤ a j
theorem may_zero (a : Nat → Int) : may a 0 := fun j h => by omega
theorem ovr_zero (a b : Nat → Int) : ovr a b 0 := fun j h => by omega
theorem may_succ {a : Nat → Int} {k : Nat} (h : may a k) (h0 : 0 ≤ a k) (h1 : a k ≤ 1048576) : may a (k + 1) := fun j hj => by
  by_cases e : j = k
  · subst e; exact ⟨h0, h1⟩
  · exact h j (by omega)
theorem ovr_succ {a b : Nat → Int} {k : Nat} (h : ovr a b k) (h0 : b k ≤ a k) : ovr a b (k + 1) := fun j hj => by
  by_cases e : j = k
  · subst e; exact h0
  · exact h j (by omega)
theorem right_may {a : Nat → Int} (h : may a 7) : right a = true := right_iff.2 h
theorem over_ovr {a b : Nat → Int} (h : ovr a b 7) : over a b = true := over_iff.2 h
theorem right_not {a : Nat → Int} {k : Nat} (hk : k < 7) (h : ¬ (0 ≤ a k ∧ a k ≤ 1048576)) : right a = false := by
  cases e : right a
  · rfl
  · exact absurd (right_iff.1 e k hk) h
theorem over_not {a b : Nat → Int} {k : Nat} (hk : k < 7) (h : ¬ b k ≤ a k) : over a b = false := by
  cases e : over a b
  · rfl
  · exact absurd (over_iff.1 e k hk) h
end M

set_option maxHeartbeats 1000000 in
theorem refRight_any (a : Nat → Int) (w : World) :
    Calls Try.prog 10 #[.agg #[.int .i64 (a 0), .int .i64 (a 1), .int .i64 (a 2), .int .i64 (a 3), .int .i64 (a 4), .int .i64 (a 5), .int .i64 (a 6)]] w fun e w' => e = .returned (.bool (M.right a)) ∧ Below w.heap.size w w' := by
  have hc := cell7 w a
  have HB := Lib.hid (show Below w.heap.size w (w.alloc (.cells #[.int .i64 (a 0), .int .i64 (a 1), .int .i64 (a 2), .int .i64 (a 3), .int .i64 (a 4), .int .i64 (a 5), .int .i64 (a 6)] 23)) from below_new (Below.refl _ _))
  have HC := Lib.hid hc
  clear hc
  go_enter Try.func10, Try.ntmps10
  go_wp2
  generalize w.alloc (.cells #[.int .i64 (a 0), .int .i64 (a 1), .int .i64 (a 2), .int .i64 (a 3), .int .i64 (a 4), .int .i64 (a 5), .int .i64 (a 6)] 23) = w0 at HC HB ⊢
  go_loop [3] (fun i => ∃ k : Nat, k ≤ 7 ∧ i = .int .i64 k ∧ M.may a k) (fun i => 7 - (intOf i).toNat)
  case atStart => exact ⟨0, by omega, rfl, M.may_zero a⟩
  case round =>
    obtain ⟨k, hk, rfl, hr⟩ := hrel
    have HR := Lib.hid hr
    clear hr
    by_cases hlt : k < 7
    · have hcell := HC.out k hlt
      by_cases h1 : 0 ≤ a k
      · by_cases h2 : a k ≤ 1048576
        · go_wp2
          go_round
          case rel => exact ⟨k + 1, by omega, by go_num, M.may_succ HR.out h1 h2⟩
          case measure => simp [intOf]; omega
        · have h3 : 1048576 < a k := by omega
          go_wp2
          go_ret
          exact ⟨ret_bool (M.right_not hlt (by omega)).symm, HB.out⟩
      · have h3 : a k < 0 := by omega
        go_wp2
        go_ret
        exact ⟨ret_bool (M.right_not hlt (by omega)).symm, HB.out⟩
    · obtain rfl : k = 7 := by omega
      go_wp2
      go_ret
      exact ⟨ret_bool (M.right_may HR.out).symm, HB.out⟩
set_option maxHeartbeats 1000000 in
theorem refOver_any (a b : Nat → Int) (w : World) :
    Calls Try.prog 16 #[.agg #[.int .i64 (a 0), .int .i64 (a 1), .int .i64 (a 2), .int .i64 (a 3), .int .i64 (a 4), .int .i64 (a 5), .int .i64 (a 6)], .agg #[.int .i64 (b 0), .int .i64 (b 1), .int .i64 (b 2), .int .i64 (b 3), .int .i64 (b 4), .int .i64 (b 5), .int .i64 (b 6)]] w fun e w' => e = .returned (.bool (M.over a b)) ∧ Below w.heap.size w w' := by
  have HB := Lib.hid (show Below w.heap.size w ((w.alloc (.cells #[.int .i64 (a 0), .int .i64 (a 1), .int .i64 (a 2), .int .i64 (a 3), .int .i64 (a 4), .int .i64 (a 5), .int .i64 (a 6)] 23)).alloc (.cells #[.int .i64 (b 0), .int .i64 (b 1), .int .i64 (b 2), .int .i64 (b 3), .int .i64 (b 4), .int .i64 (b 5), .int .i64 (b 6)] 23)) from below_new (below_new (Below.refl _ _)))
  have HC := Lib.hid (show ∀ k, k < 7 → ((w.alloc (.cells #[.int .i64 (a 0), .int .i64 (a 1), .int .i64 (a 2), .int .i64 (a 3), .int .i64 (a 4), .int .i64 (a 5), .int .i64 (a 6)] 23)).alloc (.cells #[.int .i64 (b 0), .int .i64 (b 1), .int .i64 (b 2), .int .i64 (b 3), .int .i64 (b 4), .int .i64 (b 5), .int .i64 (b 6)] 23)).cell? ⟨w.heap.size, k, none⟩ = some (.int .i64 (a k)) from fun k hk => (World.cell?_alloc_lt _ _ _ (by simp)).trans (cell7 w a k hk))
  have HD := Lib.hid (show ∀ k, k < 7 → ((w.alloc (.cells #[.int .i64 (a 0), .int .i64 (a 1), .int .i64 (a 2), .int .i64 (a 3), .int .i64 (a 4), .int .i64 (a 5), .int .i64 (a 6)] 23)).alloc (.cells #[.int .i64 (b 0), .int .i64 (b 1), .int .i64 (b 2), .int .i64 (b 3), .int .i64 (b 4), .int .i64 (b 5), .int .i64 (b 6)] 23)).cell? ⟨w.heap.size + 1, k, none⟩ = some (.int .i64 (b k)) from fun k hk => by have := cell7 (w.alloc (.cells #[.int .i64 (a 0), .int .i64 (a 1), .int .i64 (a 2), .int .i64 (a 3), .int .i64 (a 4), .int .i64 (a 5), .int .i64 (a 6)] 23)) b k hk; simpa using this)
  go_enter Try.func16, Try.ntmps16
  go_wp2
  generalize (w.alloc (.cells #[.int .i64 (a 0), .int .i64 (a 1), .int .i64 (a 2), .int .i64 (a 3), .int .i64 (a 4), .int .i64 (a 5), .int .i64 (a 6)] 23)).alloc (.cells #[.int .i64 (b 0), .int .i64 (b 1), .int .i64 (b 2), .int .i64 (b 3), .int .i64 (b 4), .int .i64 (b 5), .int .i64 (b 6)] 23) = w0 at HC HD HB ⊢
  go_loopw [5] (fun i wr => ∃ k n : Nat, k ≤ 7 ∧ i = .int .i64 k ∧ M.ovr a b k ∧ wr = w0.drewN n) (fun i _ => 7 - (intOf i).toNat)
  case atStart => exact ⟨0, 0, by omega, rfl, M.ovr_zero a b, rfl⟩
  case round =>
    obtain ⟨k, n, hk, rfl, hr, rfl⟩ := hrel
    have HR := Lib.hid hr
    clear hr
    by_cases hlt : k < 7
    · have hcell := HC.out k hlt
      have hceld := HD.out k hlt
      by_cases h1 : b k ≤ a k
      · have h2 : ¬ a k < b k := by omega
        go_wp2
        go_region
        go_wp2
        go_roundw
        case rel => exact ⟨k + 1, n + 1, by omega, by go_num, M.ovr_succ HR.out h1, rfl⟩
        case measure => simp [intOf]; omega
      · have h2 : a k < b k := by omega
        go_wp2
        go_region
        go_wp2
        go_ret
        exact ⟨ret_bool (M.over_not hlt (by omega)).symm, below_drewN HB.out _⟩
    · obtain rfl : k = 7 := by omega
      go_wp2
      go_ret
      exact ⟨ret_bool (M.over_ovr HR.out).symm, below_drewN HB.out _⟩
end Go.Proofs.Ytcombmifjimkoaa
