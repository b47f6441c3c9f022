/- Contracts of All, Major and awake, and of the document's own sizes, over the table as the text lays it; no further conditions. -/
import Derived.Test.YtglnpdcmaamcfaaDoorWalks
namespace Go.Proofs.YtglnpdcmaamcfaaDoor
open Go.RowKit

theorem with_low (k : Nat) (h : k < 7) : M.withOf (2 ^ k - 1) (k : Int) = 2 ^ (k + 1) - 1 := by
  rcases M.seven h with rfl | rfl | rfl | rfl | rfl | rfl | rfl <;> rfl
theorem low_bd (k : Nat) (h : k ≤ 7) : (0 : Int) ≤ 2 ^ k - 1 ∧ (2 : Int) ^ k - 1 ≤ 127 := by
  have : k = 7 ∨ k < 7 := by omega
  rcases this with rfl | h
  · decide
  · rcases M.seven h with rfl | rfl | rfl | rfl | rfl | rfl | rfl <;> decide
/-- The set of the first k replicas. -/
def low (k : Nat) : Int := 2 ^ k - 1

set_option maxHeartbeats 400000 in
theorem all_n (f : Int) (N : Nat) (w : World) (hT : Tab w) (hN : N ≤ 7) (hs : M.sizeOf f = (N : Int)) :
    Calls Tryd.prog 17 #[.int .i64 f] w fun e w' => e = .returned (.int .i64 (low N)) ∧ w = w' := by
  have HT := Lib.hid hT
  clear hT
  have hsz : Calls Tryd.prog 10 #[.int .i64 f] w fun e w' => e = .returned (.int .i64 (N : Int)) ∧ w = w' := by
    rw [← hs]; exact size_any f w HT.out
  have HZ := Lib.hid hsz
  clear hsz hs
  go_enter Tryd.func17, Tryd.ntmps17
  go_wp2_with (go_at_call 10; refine HZ.out.mono ?_; rintro e w' ⟨rfl, rfl⟩)
  go_loop [3, 7] (fun n i => ∃ k : Nat, k ≤ N ∧ i = .int .i64 k ∧ n = .int .i64 (low k)) (fun _ i => N - (intOf i).toNat)
  case atStart => exact ⟨0, Nat.zero_le _, rfl, rfl⟩
  case round =>
    obtain ⟨k, hk, rfl, rfl⟩ := hrel
    by_cases hlt : k < N
    · have HS := Lib.hid (with_low k (by omega))
      go_wp2_with (go_at_call 23; refine (with_any _ _ _).mono ?_; rintro e w' ⟨rfl, rfl⟩)
      go_round
      case rel => exact ⟨k + 1, by omega, by go_num, congrArg _ HS.out⟩
      case measure => simp [intOf]; omega
    · go_wp2
      go_ret
      exact ⟨ret_int (by rw [show k = N by omega]), rfl⟩

theorem all_any (f : Int) (w : World) (hT : Tab w) :
    Calls Tryd.prog 17 #[.int .i64 f] w fun e w' => e = .returned (.int .i64 (M.allOf f)) ∧ w = w' := by
  by_cases e1 : f = 1
  · subst e1; exact all_n 1 3 w hT (by decide) rfl
  · by_cases e2 : f = 2
    · subst e2; exact all_n 2 5 w hT (by decide) rfl
    · by_cases e3 : f = 3
      · subst e3; exact all_n 3 7 w hT (by decide) rfl
      · have e : M.allOf f = low 0 := by simp [M.allOf, low, e1, e2, e3]
        rw [e]
        exact all_n f 0 w hT (by decide) (by simp [M.sizeOf, e1, e2, e3])

set_option maxHeartbeats 400000 in
theorem major_any (f s : Int) (w : World) (hT : Tab w) :
    Calls Tryd.prog 28 #[.int .i64 f, .int .i64 s] w fun e w' => e = .returned (.bool (M.majB f s)) ∧ w = w' := by
  have HT := Lib.hid hT
  clear hT
  cases hb : M.shardB f
  · have hh : M.majB f s = false := by simp [M.majB, hb]
    rw [hh]
    clear hh
    go_enter Tryd.func28, Tryd.ntmps28
    go_wp2_with (go_at_call 30; refine (isShard_any _ _).mono ?_; rintro e w' ⟨rfl, rfl⟩)
    go_ret
    exact ⟨rfl, rfl⟩
  · have hh : M.majB f s = decide (M.slowOf f ≤ M.cnt (bits .and .i64 s (M.allOf f))) := by simp [M.majB, hb]
    have H := Lib.hid hh
    clear hh
    go_enter Tryd.func28, Tryd.ntmps28
    go_wp2_with (first
      | (go_at_call 30; refine (isShard_any _ _).mono ?_; rintro e w' ⟨rfl, rfl⟩)
      | (go_at_call 17; refine (all_any _ _ HT.out).mono ?_; rintro e w' ⟨rfl, rfl⟩)
      | (go_at_call 16; refine (count_any _ _).mono ?_; rintro e w' ⟨rfl, rfl⟩)
      | (go_at_call 11; refine (slow_any _ _ HT.out).mono ?_; rintro e w' ⟨rfl, rfl⟩))
    go_ret
    exact ⟨ret_bool (by rw [H.out]), rfl⟩

set_option maxHeartbeats 400000 in
theorem awake_any (w : World) (hT : Tab w) :
    Calls Tryd.prog 18 #[] w fun e w' => e = .returned (.bool true) ∧ w = w' := by
  have HT := Lib.hid hT
  clear hT
  have s2 : M.sizeOf 2 = 5 := rfl
  have l2 : M.slowOf 2 = 3 := rfl
  have f2 : M.fastOf 2 = 4 := rfl
  have b2 : M.hasB 4 2 = true := rfl
  have c7 : M.cnt 7 = 3 := rfl
  go_enter Tryd.func18, Tryd.ntmps18
  go_wp2_with (first
    | (go_at_call 10; refine (size_any _ _ HT.out).mono ?_; rintro e w' ⟨rfl, rfl⟩)
    | (go_at_call 11; refine (slow_any _ _ HT.out).mono ?_; rintro e w' ⟨rfl, rfl⟩)
    | (go_at_call 12; refine (fast_any _ _ HT.out).mono ?_; rintro e w' ⟨rfl, rfl⟩)
    | (go_at_call 21; refine (has_any _ _ _).mono ?_; rintro e w' ⟨rfl, rfl⟩)
    | (go_at_call 16; refine (count_any _ _).mono ?_; rintro e w' ⟨rfl, rfl⟩))
  go_ret
  exact ⟨rfl, rfl⟩

set_option maxHeartbeats 400000 in
theorem refSize_any (f : Int) (w : World) :
    Calls Tryd.prog 13 #[.int .i64 f] w fun e w' => e = .returned (.int .i64 (M.sizeOf f)) ∧ w = w' := by
  by_cases e1 : f = 1
  · subst e1
    go_enter Tryd.func13, Tryd.ntmps13
    go_wp2
    go_ret
    exact ⟨rfl, rfl⟩
  · by_cases e2 : f = 2
    · subst e2
      go_enter Tryd.func13, Tryd.ntmps13
      go_wp2
      go_ret
      exact ⟨rfl, rfl⟩
    · by_cases e3 : f = 3
      · subst e3
        go_enter Tryd.func13, Tryd.ntmps13
        go_wp2
        go_ret
        exact ⟨rfl, rfl⟩
      · have hs : M.sizeOf f = 0 := by simp [M.sizeOf, e1, e2, e3]
        rw [hs]
        have q1 : (f == 1) = false := by simpa using e1
        have q2 : (f == 2) = false := by simpa using e2
        have q3 : (f == 3) = false := by simpa using e3
        clear e1 e2 e3 hs
        go_enter Tryd.func13, Tryd.ntmps13
        go_wp2
        go_ret
        exact ⟨rfl, rfl⟩

theorem four (f : Int) : f = 1 ∨ f = 2 ∨ f = 3 ∨ (M.sizeOf f = 0 ∧ M.slowOf f = 0 ∧ M.fastOf f = 0 ∧ M.allOf f = 0 ∧ M.shardB f = false) := by
  by_cases e1 : f = 1
  · exact Or.inl e1
  · by_cases e2 : f = 2
    · exact Or.inr (Or.inl e2)
    · by_cases e3 : f = 3
      · exact Or.inr (Or.inr (Or.inl e3))
      · refine Or.inr (Or.inr (Or.inr ⟨?_, ?_, ?_, ?_, ?_⟩))
        · simp [M.sizeOf, e1, e2, e3]
        · simp [M.slowOf, e1, e2, e3]
        · simp [M.fastOf, e1, e2, e3]
        · simp [M.allOf, e1, e2, e3]
        · simp [M.shardB]; omega

set_option maxHeartbeats 400000 in
theorem refSlow_any (f : Int) (w : World) :
    Calls Tryd.prog 14 #[.int .i64 f] w fun e w' => e = .returned (.int .i64 (M.slowOf f)) ∧ w = w' := by
  rcases four f with rfl | rfl | rfl | ⟨h1, h2, _, _, _⟩
  · have s : M.sizeOf 1 = 3 := rfl
    go_enter Tryd.func14, Tryd.ntmps14
    go_wp2_with (go_at_call 13; refine (refSize_any _ _).mono ?_; rintro e w' ⟨rfl, rfl⟩)
    go_ret
    exact ⟨rfl, rfl⟩
  · have s : M.sizeOf 2 = 5 := rfl
    go_enter Tryd.func14, Tryd.ntmps14
    go_wp2_with (go_at_call 13; refine (refSize_any _ _).mono ?_; rintro e w' ⟨rfl, rfl⟩)
    go_ret
    exact ⟨rfl, rfl⟩
  · have s : M.sizeOf 3 = 7 := rfl
    go_enter Tryd.func14, Tryd.ntmps14
    go_wp2_with (go_at_call 13; refine (refSize_any _ _).mono ?_; rintro e w' ⟨rfl, rfl⟩)
    go_ret
    exact ⟨rfl, rfl⟩
  · rw [h2]
    clear h2
    go_enter Tryd.func14, Tryd.ntmps14
    go_wp2_with (go_at_call 13; refine (refSize_any _ _).mono ?_; rintro e w' ⟨rfl, rfl⟩)
    go_ret
    exact ⟨rfl, rfl⟩

set_option maxHeartbeats 400000 in
theorem refFast_any (f : Int) (w : World) :
    Calls Tryd.prog 15 #[.int .i64 f] w fun e w' => e = .returned (.int .i64 (M.fastOf f)) ∧ w = w' := by
  rcases four f with rfl | rfl | rfl | ⟨h1, _, h2, _, _⟩
  · have s : M.sizeOf 1 = 3 := rfl
    go_enter Tryd.func15, Tryd.ntmps15
    go_wp2_with (go_at_call 13; refine (refSize_any _ _).mono ?_; rintro e w' ⟨rfl, rfl⟩)
    go_ret
    exact ⟨rfl, rfl⟩
  · have s : M.sizeOf 2 = 5 := rfl
    go_enter Tryd.func15, Tryd.ntmps15
    go_wp2_with (go_at_call 13; refine (refSize_any _ _).mono ?_; rintro e w' ⟨rfl, rfl⟩)
    go_ret
    exact ⟨rfl, rfl⟩
  · have s : M.sizeOf 3 = 7 := rfl
    go_enter Tryd.func15, Tryd.ntmps15
    go_wp2_with (go_at_call 13; refine (refSize_any _ _).mono ?_; rintro e w' ⟨rfl, rfl⟩)
    go_ret
    exact ⟨rfl, rfl⟩
  · rw [h2]
    clear h2
    go_enter Tryd.func15, Tryd.ntmps15
    go_wp2_with (go_at_call 13; refine (refSize_any _ _).mono ?_; rintro e w' ⟨rfl, rfl⟩)
    go_ret
    exact ⟨rfl, rfl⟩
end Go.Proofs.YtglnpdcmaamcfaaDoor
