/- The walks of StampBallots and StampLine: they return true, and nothing that was there changes; no conditions. -/
import Derived.Test.YtccokdhobkcnpaaAfter
namespace Go.Proofs.Ytccokdhobkcnpaa
open Go.RowKit

namespace M
theorem ord_back (a b c d : Int) : ord c d a b = - ord a b c d := by
  unfold ord
  repeat' split
  all_goals first | rfl | omega
theorem ord_range (a b c d : Int) : ord a b c d = -1 ∨ ord a b c d = 0 ∨ ord a b c d = 1 := by
  unfold ord
  repeat' split
  all_goals simp
theorem ord_zero {a b c d : Int} (h : ord a b c d = 0) : a = c ∧ b = d := by
  unfold ord at h
  repeat' split at h
  all_goals first | omega | (constructor <;> omega)
theorem ord_neg {a b c d : Int} (h : ord a b c d = -1) : a < c ∨ (a = c ∧ b < d) := by
  unfold ord at h
  repeat' split at h
  all_goals omega
theorem ord_pos {a b c d : Int} (h : ord a b c d = 1) : c < a ∨ (a = c ∧ d < b) := by
  unfold ord at h
  repeat' split at h
  all_goals omega
/-- The five ways in which two pairs stand. -/
theorem ord_ways (a b c d : Int) : (ord a b c d = 0 ∧ a = c ∧ b = d) ∨ (ord a b c d = -1 ∧ a < c) ∨ (ord a b c d = -1 ∧ a = c ∧ b < d) ∨ (ord a b c d = 1 ∧ c < a) ∨ (ord a b c d = 1 ∧ a = c ∧ d < b) := by
  rcases M.ord_range a b c d with h | h | h
  · have := M.ord_neg h; omega
  · have := M.ord_zero h; omega
  · have := M.ord_pos h; omega
end M

set_option maxHeartbeats 4000000 in
theorem ballots_law (a b c d : Int) (w : World) :
    Calls Try.prog 8 #[.agg #[.int .i64 a, .int .i64 b], .agg #[.int .i64 c, .int .i64 d]] w fun e w' => e = .returned (.bool true) ∧ Below w.heap.size w w' := by
  have hback := M.ord_back a b c d
  have F := M.ord_ways a b c d
  generalize hn : M.ord a b c d = n at *
  generalize hm : M.ord c d a b = m at *
  have K1 := Lib.hid (show ∀ w, Calls Try.prog 20 #[.agg #[.int .i64 a, .int .i64 b], .agg #[.int .i64 c, .int .i64 d]] w fun e w' => e = .returned (.int .i64 n) ∧ Below w.heap.size w w' from fun w => by rw [← hn]; exact compareBallots_any a b c d w)
  have K2 := Lib.hid (show ∀ w, Calls Try.prog 20 #[.agg #[.int .i64 c, .int .i64 d], .agg #[.int .i64 a, .int .i64 b]] w fun e w' => e = .returned (.int .i64 m) ∧ Below w.heap.size w w' from fun w => by rw [← hm]; exact compareBallots_any c d a b w)
  clear hn hm
  subst hback
  rcases F with ⟨rfl, rfl, rfl⟩ | ⟨rfl, h1⟩ | ⟨rfl, rfl, h1⟩ | ⟨rfl, h1⟩ | ⟨rfl, rfl, h1⟩
  · skip
    go_enter Try.func8, Try.ntmps8
    go_wp2_with (fail)
    refine (K1.out _).mono ?_
    rintro e w1 ⟨rfl, hb⟩
    have H1 := Lib.hid (below_on (below_new (below_new (Below.refl _ _))) hb)
    have P1 := Lib.hid (((At.new w (.int .i64 a) (.int .i64 b) 23).push (.cells #[.int .i64 a, .int .i64 b] 23)).on hb)
    have S1 := Lib.hid ((At.new1 w (.cells #[.int .i64 a, .int .i64 b] 23) (.int .i64 a) (.int .i64 b) 23).on hb)
    clear hb
    obtain ⟨l1, c1, d1⟩ := P1.out
    obtain ⟨l2, c2, d2⟩ := S1.out
    go_wp2_with (fail)
    refine (K2.out _).mono ?_
    rintro e w2 ⟨rfl, hb⟩
    have H2 := Lib.hid (below_on H1.out hb)
    have P2 := Lib.hid (P1.out.on hb)
    have S2 := Lib.hid (S1.out.on hb)
    clear hb l1 c1 d1 l2 c2 d2
    obtain ⟨l1, c1, d1⟩ := P2.out
    obtain ⟨l2, c2, d2⟩ := S2.out
    go_wp2_with (fail)
    refine (awake_any _).mono ?_
    rintro e w3 ⟨rfl, hb⟩
    have H3 := Lib.hid (below_on H2.out hb)
    clear hb
    go_wp2
    go_ret
    exact ⟨rfl, H3.out⟩
  · have n1 : ¬ a = c := by omega
    go_enter Try.func8, Try.ntmps8
    go_wp2_with (fail)
    refine (K1.out _).mono ?_
    rintro e w1 ⟨rfl, hb⟩
    have H1 := Lib.hid (below_on (below_new (below_new (Below.refl _ _))) hb)
    have P1 := Lib.hid (((At.new w (.int .i64 a) (.int .i64 b) 23).push (.cells #[.int .i64 c, .int .i64 d] 23)).on hb)
    have S1 := Lib.hid ((At.new1 w (.cells #[.int .i64 a, .int .i64 b] 23) (.int .i64 c) (.int .i64 d) 23).on hb)
    clear hb
    obtain ⟨l1, c1, d1⟩ := P1.out
    obtain ⟨l2, c2, d2⟩ := S1.out
    go_wp2_with (fail)
    refine (K2.out _).mono ?_
    rintro e w2 ⟨rfl, hb⟩
    have H2 := Lib.hid (below_on H1.out hb)
    have P2 := Lib.hid (P1.out.on hb)
    have S2 := Lib.hid (S1.out.on hb)
    clear hb l1 c1 d1 l2 c2 d2
    obtain ⟨l1, c1, d1⟩ := P2.out
    obtain ⟨l2, c2, d2⟩ := S2.out
    go_wp2_with (fail)
    refine (awake_any _).mono ?_
    rintro e w3 ⟨rfl, hb⟩
    have H3 := Lib.hid (below_on H2.out hb)
    clear hb
    go_wp2
    go_ret
    exact ⟨rfl, H3.out⟩
  · have n1 : ¬ b = d := by omega
    go_enter Try.func8, Try.ntmps8
    go_wp2_with (fail)
    refine (K1.out _).mono ?_
    rintro e w1 ⟨rfl, hb⟩
    have H1 := Lib.hid (below_on (below_new (below_new (Below.refl _ _))) hb)
    have P1 := Lib.hid (((At.new w (.int .i64 a) (.int .i64 b) 23).push (.cells #[.int .i64 a, .int .i64 d] 23)).on hb)
    have S1 := Lib.hid ((At.new1 w (.cells #[.int .i64 a, .int .i64 b] 23) (.int .i64 a) (.int .i64 d) 23).on hb)
    clear hb
    obtain ⟨l1, c1, d1⟩ := P1.out
    obtain ⟨l2, c2, d2⟩ := S1.out
    go_wp2_with (fail)
    refine (K2.out _).mono ?_
    rintro e w2 ⟨rfl, hb⟩
    have H2 := Lib.hid (below_on H1.out hb)
    have P2 := Lib.hid (P1.out.on hb)
    have S2 := Lib.hid (S1.out.on hb)
    clear hb l1 c1 d1 l2 c2 d2
    obtain ⟨l1, c1, d1⟩ := P2.out
    obtain ⟨l2, c2, d2⟩ := S2.out
    go_wp2_with (fail)
    refine (awake_any _).mono ?_
    rintro e w3 ⟨rfl, hb⟩
    have H3 := Lib.hid (below_on H2.out hb)
    clear hb
    go_wp2
    go_ret
    exact ⟨rfl, H3.out⟩
  · have n1 : ¬ a = c := by omega
    go_enter Try.func8, Try.ntmps8
    go_wp2_with (fail)
    refine (K1.out _).mono ?_
    rintro e w1 ⟨rfl, hb⟩
    have H1 := Lib.hid (below_on (below_new (below_new (Below.refl _ _))) hb)
    have P1 := Lib.hid (((At.new w (.int .i64 a) (.int .i64 b) 23).push (.cells #[.int .i64 c, .int .i64 d] 23)).on hb)
    have S1 := Lib.hid ((At.new1 w (.cells #[.int .i64 a, .int .i64 b] 23) (.int .i64 c) (.int .i64 d) 23).on hb)
    clear hb
    obtain ⟨l1, c1, d1⟩ := P1.out
    obtain ⟨l2, c2, d2⟩ := S1.out
    go_wp2_with (fail)
    refine (K2.out _).mono ?_
    rintro e w2 ⟨rfl, hb⟩
    have H2 := Lib.hid (below_on H1.out hb)
    have P2 := Lib.hid (P1.out.on hb)
    have S2 := Lib.hid (S1.out.on hb)
    clear hb l1 c1 d1 l2 c2 d2
    obtain ⟨l1, c1, d1⟩ := P2.out
    obtain ⟨l2, c2, d2⟩ := S2.out
    go_wp2_with (fail)
    refine (awake_any _).mono ?_
    rintro e w3 ⟨rfl, hb⟩
    have H3 := Lib.hid (below_on H2.out hb)
    clear hb
    go_wp2
    go_ret
    exact ⟨rfl, H3.out⟩
  · have n1 : ¬ b = d := by omega
    go_enter Try.func8, Try.ntmps8
    go_wp2_with (fail)
    refine (K1.out _).mono ?_
    rintro e w1 ⟨rfl, hb⟩
    have H1 := Lib.hid (below_on (below_new (below_new (Below.refl _ _))) hb)
    have P1 := Lib.hid (((At.new w (.int .i64 a) (.int .i64 b) 23).push (.cells #[.int .i64 a, .int .i64 d] 23)).on hb)
    have S1 := Lib.hid ((At.new1 w (.cells #[.int .i64 a, .int .i64 b] 23) (.int .i64 a) (.int .i64 d) 23).on hb)
    clear hb
    obtain ⟨l1, c1, d1⟩ := P1.out
    obtain ⟨l2, c2, d2⟩ := S1.out
    go_wp2_with (fail)
    refine (K2.out _).mono ?_
    rintro e w2 ⟨rfl, hb⟩
    have H2 := Lib.hid (below_on H1.out hb)
    have P2 := Lib.hid (P1.out.on hb)
    have S2 := Lib.hid (S1.out.on hb)
    clear hb l1 c1 d1 l2 c2 d2
    obtain ⟨l1, c1, d1⟩ := P2.out
    obtain ⟨l2, c2, d2⟩ := S2.out
    go_wp2_with (fail)
    refine (awake_any _).mono ?_
    rintro e w3 ⟨rfl, hb⟩
    have H3 := Lib.hid (below_on H2.out hb)
    clear hb
    go_wp2
    go_ret
    exact ⟨rfl, H3.out⟩

namespace M
/-- What goes through: three pairs stand in one line. -/
theorem ord_through (a b c d e f : Int) (x y z : Int) (hx : ord a b c d = x) (hy : ord c d e f = y) (hz : ord a b e f = z) (h : y ≤ 0) : (x = 0 → z ≤ 0) ∧ (x = -1 → z < 0) := by
  have X := ord_ways a b c d
  have Y := ord_ways c d e f
  have Z := ord_ways a b e f
  rw [hx] at X
  rw [hy] at Y
  rw [hz] at Z
  omega
end M

set_option maxHeartbeats 4000000 in
theorem line_law (a b c d p q : Int) (w : World) :
    Calls Try.prog 5 #[.agg #[.int .i64 a, .int .i64 b], .agg #[.int .i64 c, .int .i64 d], .agg #[.int .i64 p, .int .i64 q]] w fun e w' => e = .returned (.bool true) ∧ Below w.heap.size w w' := by
  have hm := M.ord_back a b c d
  have G := fun h => M.ord_through a b c d p q _ _ _ rfl rfl rfl h
  by_cases h2 : M.ord c d p q ≤ 0
  · replace G := G h2
    rcases M.ord_ways a b c d with ⟨hn, rfl, rfl⟩ | ⟨hn, h1⟩ | ⟨hn, rfl, h1⟩ | ⟨hn, h1⟩ | ⟨hn, rfl, h1⟩
    · have t2 : decide (0 < M.ord a b p q) = false := by simpa using h2
      have t3 : decide (M.ord a b p q ≤ 0) = true := by simpa using G.1 hn
      clear G hm h2
      go_enter Try.func5, Try.ntmps5
      go_wp2_with (fail)
      refine wp_region_after (by kernel_rfl) (by kernel_rfl) ?_
      have hx := @After.cell (((w.alloc (.cells #[.int .i64 a, .int .i64 b] 25)).alloc (.cells #[.int .i64 a, .int .i64 b] 25)).alloc (.cells #[.int .i64 p, .int .i64 q] 25))
      repeat (go_big_quiet_step (first
        | (go_at_call 21; exact Calls.after_of (compareStamps_any _ _ _ _ _))))
      refine wpQuiet_nil ?_
      rintro _ ⟨⟨w1, hb⟩, rfl⟩
      clear hx
      have H1 := Lib.hid (below_on (below_new (below_new (below_new (Below.refl _ _)))) hb)
      have P1 := Lib.hid ((((At.new w (.int .i64 a) (.int .i64 b) 25).push (.cells #[.int .i64 a, .int .i64 b] 25)).push (.cells #[.int .i64 p, .int .i64 q] 25)).on hb)
      have S1 := Lib.hid (((At.new1 w (.cells #[.int .i64 a, .int .i64 b] 25) (.int .i64 a) (.int .i64 b) 25).push (.cells #[.int .i64 p, .int .i64 q] 25)).on hb)
      clear hb
      obtain ⟨l1, c1, d1⟩ := P1.out
      obtain ⟨l2, c2, d2⟩ := S1.out
      go_wp2_with (fail)
      refine (compareStamps_any _ _ _ _ _).mono ?_
      rintro e w2 ⟨rfl, hb⟩
      have H2 := Lib.hid (below_on H1.out hb)
      have P2 := Lib.hid (P1.out.on hb)
      have S2 := Lib.hid (S1.out.on hb)
      clear hb l1 c1 d1 l2 c2 d2
      obtain ⟨l1, c1, d1⟩ := P2.out
      obtain ⟨l2, c2, d2⟩ := S2.out
      go_wp2_with (fail)
      refine (awake_any _).mono ?_
      rintro e w3 ⟨rfl, hb⟩
      have H3 := Lib.hid (below_on H2.out hb)
      clear hb
      go_wp2
      go_ret
      exact ⟨rfl, H3.out⟩
    · have n1 : ¬ a = c := by omega
      have h3 := G.2 hn
      have t2 : decide (0 < M.ord c d p q) = false := by simpa using h2
      have t3 : decide (M.ord a b p q ≤ 0) = true := decide_eq_true (by omega)
      have t4 : decide (M.ord a b p q < 0) = true := decide_eq_true h3
      clear G h3 h2
      rw [hn] at hm
      go_enter Try.func5, Try.ntmps5
      go_wp2_with (fail)
      refine wp_region_after (by kernel_rfl) (by kernel_rfl) ?_
      have hx := @After.cell (((w.alloc (.cells #[.int .i64 a, .int .i64 b] 25)).alloc (.cells #[.int .i64 c, .int .i64 d] 25)).alloc (.cells #[.int .i64 p, .int .i64 q] 25))
      repeat (go_big_quiet_step (first
        | (go_at_call 21; exact Calls.after_of (compareStamps_any _ _ _ _ _))))
      refine wpQuiet_nil ?_
      rintro _ ⟨⟨w1, hb⟩, rfl⟩
      clear hx
      have H1 := Lib.hid (below_on (below_new (below_new (below_new (Below.refl _ _)))) hb)
      have P1 := Lib.hid ((((At.new w (.int .i64 a) (.int .i64 b) 25).push (.cells #[.int .i64 c, .int .i64 d] 25)).push (.cells #[.int .i64 p, .int .i64 q] 25)).on hb)
      have S1 := Lib.hid (((At.new1 w (.cells #[.int .i64 a, .int .i64 b] 25) (.int .i64 c) (.int .i64 d) 25).push (.cells #[.int .i64 p, .int .i64 q] 25)).on hb)
      clear hb
      obtain ⟨l1, c1, d1⟩ := P1.out
      obtain ⟨l2, c2, d2⟩ := S1.out
      go_wp2_with (fail)
      refine (compareStamps_any _ _ _ _ _).mono ?_
      rintro e w2 ⟨rfl, hb⟩
      have H2 := Lib.hid (below_on H1.out hb)
      have P2 := Lib.hid (P1.out.on hb)
      have S2 := Lib.hid (S1.out.on hb)
      clear hb l1 c1 d1 l2 c2 d2
      obtain ⟨l1, c1, d1⟩ := P2.out
      obtain ⟨l2, c2, d2⟩ := S2.out
      go_wp2_with (fail)
      refine (awake_any _).mono ?_
      rintro e w3 ⟨rfl, hb⟩
      have H3 := Lib.hid (below_on H2.out hb)
      clear hb
      go_wp2
      go_ret
      exact ⟨rfl, H3.out⟩
    · have n1 : ¬ b = d := by omega
      have h3 := G.2 hn
      have t2 : decide (0 < M.ord a d p q) = false := by simpa using h2
      have t3 : decide (M.ord a b p q ≤ 0) = true := decide_eq_true (by omega)
      have t4 : decide (M.ord a b p q < 0) = true := decide_eq_true h3
      clear G h3 h2
      rw [hn] at hm
      go_enter Try.func5, Try.ntmps5
      go_wp2_with (fail)
      refine wp_region_after (by kernel_rfl) (by kernel_rfl) ?_
      have hx := @After.cell (((w.alloc (.cells #[.int .i64 a, .int .i64 b] 25)).alloc (.cells #[.int .i64 a, .int .i64 d] 25)).alloc (.cells #[.int .i64 p, .int .i64 q] 25))
      repeat (go_big_quiet_step (first
        | (go_at_call 21; exact Calls.after_of (compareStamps_any _ _ _ _ _))))
      refine wpQuiet_nil ?_
      rintro _ ⟨⟨w1, hb⟩, rfl⟩
      clear hx
      have H1 := Lib.hid (below_on (below_new (below_new (below_new (Below.refl _ _)))) hb)
      have P1 := Lib.hid ((((At.new w (.int .i64 a) (.int .i64 b) 25).push (.cells #[.int .i64 a, .int .i64 d] 25)).push (.cells #[.int .i64 p, .int .i64 q] 25)).on hb)
      have S1 := Lib.hid (((At.new1 w (.cells #[.int .i64 a, .int .i64 b] 25) (.int .i64 a) (.int .i64 d) 25).push (.cells #[.int .i64 p, .int .i64 q] 25)).on hb)
      clear hb
      obtain ⟨l1, c1, d1⟩ := P1.out
      obtain ⟨l2, c2, d2⟩ := S1.out
      go_wp2_with (fail)
      refine (compareStamps_any _ _ _ _ _).mono ?_
      rintro e w2 ⟨rfl, hb⟩
      have H2 := Lib.hid (below_on H1.out hb)
      have P2 := Lib.hid (P1.out.on hb)
      have S2 := Lib.hid (S1.out.on hb)
      clear hb l1 c1 d1 l2 c2 d2
      obtain ⟨l1, c1, d1⟩ := P2.out
      obtain ⟨l2, c2, d2⟩ := S2.out
      go_wp2_with (fail)
      refine (awake_any _).mono ?_
      rintro e w3 ⟨rfl, hb⟩
      have H3 := Lib.hid (below_on H2.out hb)
      clear hb
      go_wp2
      go_ret
      exact ⟨rfl, H3.out⟩
    · have n1 : ¬ a = c := by omega
      clear G
      rw [hn] at hm
      go_enter Try.func5, Try.ntmps5
      go_wp2_with (fail)
      refine wp_region_after (by kernel_rfl) (by kernel_rfl) ?_
      have hx := @After.cell (((w.alloc (.cells #[.int .i64 a, .int .i64 b] 25)).alloc (.cells #[.int .i64 c, .int .i64 d] 25)).alloc (.cells #[.int .i64 p, .int .i64 q] 25))
      repeat (go_big_quiet_step (first
        | (go_at_call 21; exact Calls.after_of (compareStamps_any _ _ _ _ _))))
      refine wpQuiet_nil ?_
      rintro _ ⟨⟨w1, hb⟩, rfl⟩
      clear hx
      have H1 := Lib.hid (below_on (below_new (below_new (below_new (Below.refl _ _)))) hb)
      have P1 := Lib.hid ((((At.new w (.int .i64 a) (.int .i64 b) 25).push (.cells #[.int .i64 c, .int .i64 d] 25)).push (.cells #[.int .i64 p, .int .i64 q] 25)).on hb)
      have S1 := Lib.hid (((At.new1 w (.cells #[.int .i64 a, .int .i64 b] 25) (.int .i64 c) (.int .i64 d) 25).push (.cells #[.int .i64 p, .int .i64 q] 25)).on hb)
      clear hb
      obtain ⟨l1, c1, d1⟩ := P1.out
      obtain ⟨l2, c2, d2⟩ := S1.out
      go_wp2_with (fail)
      refine (compareStamps_any _ _ _ _ _).mono ?_
      rintro e w2 ⟨rfl, hb⟩
      have H2 := Lib.hid (below_on H1.out hb)
      have P2 := Lib.hid (P1.out.on hb)
      have S2 := Lib.hid (S1.out.on hb)
      clear hb l1 c1 d1 l2 c2 d2
      obtain ⟨l1, c1, d1⟩ := P2.out
      obtain ⟨l2, c2, d2⟩ := S2.out
      go_wp2_with (fail)
      refine (awake_any _).mono ?_
      rintro e w3 ⟨rfl, hb⟩
      have H3 := Lib.hid (below_on H2.out hb)
      clear hb
      go_wp2
      go_ret
      exact ⟨rfl, H3.out⟩
    · have n1 : ¬ b = d := by omega
      clear G
      rw [hn] at hm
      go_enter Try.func5, Try.ntmps5
      go_wp2_with (fail)
      refine wp_region_after (by kernel_rfl) (by kernel_rfl) ?_
      have hx := @After.cell (((w.alloc (.cells #[.int .i64 a, .int .i64 b] 25)).alloc (.cells #[.int .i64 a, .int .i64 d] 25)).alloc (.cells #[.int .i64 p, .int .i64 q] 25))
      repeat (go_big_quiet_step (first
        | (go_at_call 21; exact Calls.after_of (compareStamps_any _ _ _ _ _))))
      refine wpQuiet_nil ?_
      rintro _ ⟨⟨w1, hb⟩, rfl⟩
      clear hx
      have H1 := Lib.hid (below_on (below_new (below_new (below_new (Below.refl _ _)))) hb)
      have P1 := Lib.hid ((((At.new w (.int .i64 a) (.int .i64 b) 25).push (.cells #[.int .i64 a, .int .i64 d] 25)).push (.cells #[.int .i64 p, .int .i64 q] 25)).on hb)
      have S1 := Lib.hid (((At.new1 w (.cells #[.int .i64 a, .int .i64 b] 25) (.int .i64 a) (.int .i64 d) 25).push (.cells #[.int .i64 p, .int .i64 q] 25)).on hb)
      clear hb
      obtain ⟨l1, c1, d1⟩ := P1.out
      obtain ⟨l2, c2, d2⟩ := S1.out
      go_wp2_with (fail)
      refine (compareStamps_any _ _ _ _ _).mono ?_
      rintro e w2 ⟨rfl, hb⟩
      have H2 := Lib.hid (below_on H1.out hb)
      have P2 := Lib.hid (P1.out.on hb)
      have S2 := Lib.hid (S1.out.on hb)
      clear hb l1 c1 d1 l2 c2 d2
      obtain ⟨l1, c1, d1⟩ := P2.out
      obtain ⟨l2, c2, d2⟩ := S2.out
      go_wp2_with (fail)
      refine (awake_any _).mono ?_
      rintro e w3 ⟨rfl, hb⟩
      have H3 := Lib.hid (below_on H2.out hb)
      clear hb
      go_wp2
      go_ret
      exact ⟨rfl, H3.out⟩
  · clear G
    have t2 : decide (0 < M.ord c d p q) = true := decide_eq_true (by omega)
    clear h2
    rcases M.ord_ways a b c d with ⟨hn, rfl, rfl⟩ | ⟨hn, h1⟩ | ⟨hn, rfl, h1⟩ | ⟨hn, h1⟩ | ⟨hn, rfl, h1⟩
    · clear hm
      go_enter Try.func5, Try.ntmps5
      go_wp2_with (fail)
      refine wp_region_after (by kernel_rfl) (by kernel_rfl) ?_
      have hx := @After.cell (((w.alloc (.cells #[.int .i64 a, .int .i64 b] 25)).alloc (.cells #[.int .i64 a, .int .i64 b] 25)).alloc (.cells #[.int .i64 p, .int .i64 q] 25))
      repeat (go_big_quiet_step (first
        | (go_at_call 21; exact Calls.after_of (compareStamps_any _ _ _ _ _))))
      refine wpQuiet_nil ?_
      rintro _ ⟨⟨w1, hb⟩, rfl⟩
      clear hx
      have H1 := Lib.hid (below_on (below_new (below_new (below_new (Below.refl _ _)))) hb)
      have P1 := Lib.hid ((((At.new w (.int .i64 a) (.int .i64 b) 25).push (.cells #[.int .i64 a, .int .i64 b] 25)).push (.cells #[.int .i64 p, .int .i64 q] 25)).on hb)
      have S1 := Lib.hid (((At.new1 w (.cells #[.int .i64 a, .int .i64 b] 25) (.int .i64 a) (.int .i64 b) 25).push (.cells #[.int .i64 p, .int .i64 q] 25)).on hb)
      clear hb
      obtain ⟨l1, c1, d1⟩ := P1.out
      obtain ⟨l2, c2, d2⟩ := S1.out
      go_wp2_with (fail)
      refine (compareStamps_any _ _ _ _ _).mono ?_
      rintro e w2 ⟨rfl, hb⟩
      have H2 := Lib.hid (below_on H1.out hb)
      have P2 := Lib.hid (P1.out.on hb)
      have S2 := Lib.hid (S1.out.on hb)
      clear hb l1 c1 d1 l2 c2 d2
      obtain ⟨l1, c1, d1⟩ := P2.out
      obtain ⟨l2, c2, d2⟩ := S2.out
      go_wp2_with (fail)
      refine (awake_any _).mono ?_
      rintro e w3 ⟨rfl, hb⟩
      have H3 := Lib.hid (below_on H2.out hb)
      clear hb
      go_wp2
      go_ret
      exact ⟨rfl, H3.out⟩
    · have n1 : ¬ a = c := by omega
      rw [hn] at hm
      go_enter Try.func5, Try.ntmps5
      go_wp2_with (fail)
      refine wp_region_after (by kernel_rfl) (by kernel_rfl) ?_
      have hx := @After.cell (((w.alloc (.cells #[.int .i64 a, .int .i64 b] 25)).alloc (.cells #[.int .i64 c, .int .i64 d] 25)).alloc (.cells #[.int .i64 p, .int .i64 q] 25))
      repeat (go_big_quiet_step (first
        | (go_at_call 21; exact Calls.after_of (compareStamps_any _ _ _ _ _))))
      refine wpQuiet_nil ?_
      rintro _ ⟨⟨w1, hb⟩, rfl⟩
      clear hx
      have H1 := Lib.hid (below_on (below_new (below_new (below_new (Below.refl _ _)))) hb)
      have P1 := Lib.hid ((((At.new w (.int .i64 a) (.int .i64 b) 25).push (.cells #[.int .i64 c, .int .i64 d] 25)).push (.cells #[.int .i64 p, .int .i64 q] 25)).on hb)
      have S1 := Lib.hid (((At.new1 w (.cells #[.int .i64 a, .int .i64 b] 25) (.int .i64 c) (.int .i64 d) 25).push (.cells #[.int .i64 p, .int .i64 q] 25)).on hb)
      clear hb
      obtain ⟨l1, c1, d1⟩ := P1.out
      obtain ⟨l2, c2, d2⟩ := S1.out
      go_wp2_with (fail)
      refine (compareStamps_any _ _ _ _ _).mono ?_
      rintro e w2 ⟨rfl, hb⟩
      have H2 := Lib.hid (below_on H1.out hb)
      have P2 := Lib.hid (P1.out.on hb)
      have S2 := Lib.hid (S1.out.on hb)
      clear hb l1 c1 d1 l2 c2 d2
      obtain ⟨l1, c1, d1⟩ := P2.out
      obtain ⟨l2, c2, d2⟩ := S2.out
      go_wp2_with (fail)
      refine (awake_any _).mono ?_
      rintro e w3 ⟨rfl, hb⟩
      have H3 := Lib.hid (below_on H2.out hb)
      clear hb
      go_wp2
      go_ret
      exact ⟨rfl, H3.out⟩
    · have n1 : ¬ b = d := by omega
      rw [hn] at hm
      go_enter Try.func5, Try.ntmps5
      go_wp2_with (fail)
      refine wp_region_after (by kernel_rfl) (by kernel_rfl) ?_
      have hx := @After.cell (((w.alloc (.cells #[.int .i64 a, .int .i64 b] 25)).alloc (.cells #[.int .i64 a, .int .i64 d] 25)).alloc (.cells #[.int .i64 p, .int .i64 q] 25))
      repeat (go_big_quiet_step (first
        | (go_at_call 21; exact Calls.after_of (compareStamps_any _ _ _ _ _))))
      refine wpQuiet_nil ?_
      rintro _ ⟨⟨w1, hb⟩, rfl⟩
      clear hx
      have H1 := Lib.hid (below_on (below_new (below_new (below_new (Below.refl _ _)))) hb)
      have P1 := Lib.hid ((((At.new w (.int .i64 a) (.int .i64 b) 25).push (.cells #[.int .i64 a, .int .i64 d] 25)).push (.cells #[.int .i64 p, .int .i64 q] 25)).on hb)
      have S1 := Lib.hid (((At.new1 w (.cells #[.int .i64 a, .int .i64 b] 25) (.int .i64 a) (.int .i64 d) 25).push (.cells #[.int .i64 p, .int .i64 q] 25)).on hb)
      clear hb
      obtain ⟨l1, c1, d1⟩ := P1.out
      obtain ⟨l2, c2, d2⟩ := S1.out
      go_wp2_with (fail)
      refine (compareStamps_any _ _ _ _ _).mono ?_
      rintro e w2 ⟨rfl, hb⟩
      have H2 := Lib.hid (below_on H1.out hb)
      have P2 := Lib.hid (P1.out.on hb)
      have S2 := Lib.hid (S1.out.on hb)
      clear hb l1 c1 d1 l2 c2 d2
      obtain ⟨l1, c1, d1⟩ := P2.out
      obtain ⟨l2, c2, d2⟩ := S2.out
      go_wp2_with (fail)
      refine (awake_any _).mono ?_
      rintro e w3 ⟨rfl, hb⟩
      have H3 := Lib.hid (below_on H2.out hb)
      clear hb
      go_wp2
      go_ret
      exact ⟨rfl, H3.out⟩
    · have n1 : ¬ a = c := by omega
      rw [hn] at hm
      go_enter Try.func5, Try.ntmps5
      go_wp2_with (fail)
      refine wp_region_after (by kernel_rfl) (by kernel_rfl) ?_
      have hx := @After.cell (((w.alloc (.cells #[.int .i64 a, .int .i64 b] 25)).alloc (.cells #[.int .i64 c, .int .i64 d] 25)).alloc (.cells #[.int .i64 p, .int .i64 q] 25))
      repeat (go_big_quiet_step (first
        | (go_at_call 21; exact Calls.after_of (compareStamps_any _ _ _ _ _))))
      refine wpQuiet_nil ?_
      rintro _ ⟨⟨w1, hb⟩, rfl⟩
      clear hx
      have H1 := Lib.hid (below_on (below_new (below_new (below_new (Below.refl _ _)))) hb)
      have P1 := Lib.hid ((((At.new w (.int .i64 a) (.int .i64 b) 25).push (.cells #[.int .i64 c, .int .i64 d] 25)).push (.cells #[.int .i64 p, .int .i64 q] 25)).on hb)
      have S1 := Lib.hid (((At.new1 w (.cells #[.int .i64 a, .int .i64 b] 25) (.int .i64 c) (.int .i64 d) 25).push (.cells #[.int .i64 p, .int .i64 q] 25)).on hb)
      clear hb
      obtain ⟨l1, c1, d1⟩ := P1.out
      obtain ⟨l2, c2, d2⟩ := S1.out
      go_wp2_with (fail)
      refine (compareStamps_any _ _ _ _ _).mono ?_
      rintro e w2 ⟨rfl, hb⟩
      have H2 := Lib.hid (below_on H1.out hb)
      have P2 := Lib.hid (P1.out.on hb)
      have S2 := Lib.hid (S1.out.on hb)
      clear hb l1 c1 d1 l2 c2 d2
      obtain ⟨l1, c1, d1⟩ := P2.out
      obtain ⟨l2, c2, d2⟩ := S2.out
      go_wp2_with (fail)
      refine (awake_any _).mono ?_
      rintro e w3 ⟨rfl, hb⟩
      have H3 := Lib.hid (below_on H2.out hb)
      clear hb
      go_wp2
      go_ret
      exact ⟨rfl, H3.out⟩
    · have n1 : ¬ b = d := by omega
      rw [hn] at hm
      go_enter Try.func5, Try.ntmps5
      go_wp2_with (fail)
      refine wp_region_after (by kernel_rfl) (by kernel_rfl) ?_
      have hx := @After.cell (((w.alloc (.cells #[.int .i64 a, .int .i64 b] 25)).alloc (.cells #[.int .i64 a, .int .i64 d] 25)).alloc (.cells #[.int .i64 p, .int .i64 q] 25))
      repeat (go_big_quiet_step (first
        | (go_at_call 21; exact Calls.after_of (compareStamps_any _ _ _ _ _))))
      refine wpQuiet_nil ?_
      rintro _ ⟨⟨w1, hb⟩, rfl⟩
      clear hx
      have H1 := Lib.hid (below_on (below_new (below_new (below_new (Below.refl _ _)))) hb)
      have P1 := Lib.hid ((((At.new w (.int .i64 a) (.int .i64 b) 25).push (.cells #[.int .i64 a, .int .i64 d] 25)).push (.cells #[.int .i64 p, .int .i64 q] 25)).on hb)
      have S1 := Lib.hid (((At.new1 w (.cells #[.int .i64 a, .int .i64 b] 25) (.int .i64 a) (.int .i64 d) 25).push (.cells #[.int .i64 p, .int .i64 q] 25)).on hb)
      clear hb
      obtain ⟨l1, c1, d1⟩ := P1.out
      obtain ⟨l2, c2, d2⟩ := S1.out
      go_wp2_with (fail)
      refine (compareStamps_any _ _ _ _ _).mono ?_
      rintro e w2 ⟨rfl, hb⟩
      have H2 := Lib.hid (below_on H1.out hb)
      have P2 := Lib.hid (P1.out.on hb)
      have S2 := Lib.hid (S1.out.on hb)
      clear hb l1 c1 d1 l2 c2 d2
      obtain ⟨l1, c1, d1⟩ := P2.out
      obtain ⟨l2, c2, d2⟩ := S2.out
      go_wp2_with (fail)
      refine (awake_any _).mono ?_
      rintro e w3 ⟨rfl, hb⟩
      have H3 := Lib.hid (below_on H2.out hb)
      clear hb
      go_wp2
      go_ret
      exact ⟨rfl, H3.out⟩

end Go.Proofs.Ytccokdhobkcnpaa
