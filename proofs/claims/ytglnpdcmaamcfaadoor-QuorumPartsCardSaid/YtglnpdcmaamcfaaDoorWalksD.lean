/- The walk of QuorumParts: it returns true and leaves the world as it was, over the table as the text lays it; no further conditions. -/
import Derived.Test.YtglnpdcmaamcfaaDoorWalksC
namespace Go.Proofs.YtglnpdcmaamcfaaDoor
open Go.RowKit

set_option maxHeartbeats 1000000 in
theorem parts_law (f s : Int) (w : World) (hT : Tab w) :
    Calls Tryd.prog 8 #[.int .i64 f, .int .i64 s] w fun e w' => e = .returned (.bool true) ∧ w = w' := by
  have HT := Lib.hid hT
  clear hT
  have e1 := M.parts_cnt s (M.allOf f)
  rw [M.cnt_all] at e1
  have b1 := M.cnt_bd (bits .and .i64 s (M.allOf f))
  have b2 := M.cnt_bd (bits .andNot .i64 (M.allOf f) s)
  have q1 : ((M.cnt (bits .and .i64 s (M.allOf f)) + M.cnt (bits .andNot .i64 (M.allOf f) s)) != M.sizeOf f) = false := by simp [e1]
  have e2 := M.apart_cnt s (M.allOf f)
  clear e1
  by_cases hs : M.sizeOf f = 0
  · have hs' : (M.sizeOf f == 0) = true := by simp [hs]
    have hm : ∀ x, M.majB f x = false := by
      intro x
      have : M.shardB f = false := by
        rcases four f with rfl | rfl | rfl | ⟨_, _, _, _, h5⟩
        · cases hs
        · cases hs
        · cases hs
        · exact h5
      simp [M.majB, this]
    have m1 := hm (bits .and .i64 s (M.allOf f))
    clear hm hs
    go_enter Tryd.func8, Tryd.ntmps8
    go_wp2_with (first
      | (go_at_call 10; refine (size_any _ _ HT.out).mono ?_; rintro e w' ⟨rfl, rfl⟩)
      | (go_at_call 16; refine (count_any _ _).mono ?_; rintro e w' ⟨rfl, rfl⟩)
      | (go_at_call 17; refine (all_any _ _ HT.out).mono ?_; rintro e w' ⟨rfl, rfl⟩)
      | (go_at_call 28; refine (major_any _ _ _ HT.out).mono ?_; rintro e w' ⟨rfl, rfl⟩)
      | (go_at_call 18; refine (awake_any _ HT.out).mono ?_; rintro e w' ⟨rfl, rfl⟩))
    go_ret
    exact ⟨rfl, rfl⟩
  · have hs' : (M.sizeOf f == 0) = false := by simpa using hs
    have hm := M.parts_major f s (M.shards (size_pos f hs))
    clear hs
    cases m1 : M.majB f (bits .and .i64 s (M.allOf f)) <;>
    · rw [m1] at hm
      simp only [Bool.not_true, Bool.not_false] at hm
      go_enter Tryd.func8, Tryd.ntmps8
      go_wp2_with (first
        | (go_at_call 10; refine (size_any _ _ HT.out).mono ?_; rintro e w' ⟨rfl, rfl⟩)
        | (go_at_call 16; refine (count_any _ _).mono ?_; rintro e w' ⟨rfl, rfl⟩)
        | (go_at_call 17; refine (all_any _ _ HT.out).mono ?_; rintro e w' ⟨rfl, rfl⟩)
        | (go_at_call 28; refine (major_any _ _ _ HT.out).mono ?_; rintro e w' ⟨rfl, rfl⟩)
        | (go_at_call 18; refine (awake_any _ HT.out).mono ?_; rintro e w' ⟨rfl, rfl⟩))
      go_ret
      exact ⟨rfl, rfl⟩
end Go.Proofs.YtglnpdcmaamcfaaDoor
