/- The walks of DepsGrow, DepsJoins, DepsWords; no conditions but that a slot is an int. -/
import Derived.Test.YtcombmifjimkoaaLaws
namespace Go.Proofs.Ytcombmifjimkoaa
open Go.RowKit
attribute [local go_sem ↓] run_max_mx run_min_mn run_same7

namespace M
theorem wit_over {a b : Nat → Int} (r s : Int) (h : over a b = true) : over (wit a r s) b = true := over_iff.2 fun k hk => by
  have := over_iff.1 h k hk
  unfold wit mx
  repeat' split
  all_goals omega
theorem wit_out (a : Nat → Int) (r s : Int) : over (wit a r s) (wit (out a r s) r s) = true := over_iff.2 fun k hk => by
  unfold wit out mx mn
  repeat' split
  all_goals omega
theorem join_comm (a b : Nat → Int) : M.same7 (join a b 0) (join a b 1) (join a b 2) (join a b 3) (join a b 4) (join a b 5) (join a b 6) (join b a 0) (join b a 1) (join b a 2) (join b a 3) (join b a 4) (join b a 5) (join b a 6) = true := same_of fun k _ => by
  unfold join mx
  repeat' split
  all_goals omega
theorem join_assoc (a b c : Nat → Int) : M.same7 (join (join a b) c 0) (join (join a b) c 1) (join (join a b) c 2) (join (join a b) c 3) (join (join a b) c 4) (join (join a b) c 5) (join (join a b) c 6) (join a (join b c) 0) (join a (join b c) 1) (join a (join b c) 2) (join a (join b c) 3) (join a (join b c) 4) (join a (join b c) 5) (join a (join b c) 6) = true := same_of fun k _ => by
  unfold join mx
  repeat' split
  all_goals omega
theorem join_self (a : Nat → Int) : M.same7 (join a a 0) (join a a 1) (join a a 2) (join a a 3) (join a a 4) (join a a 5) (join a a 6) (a 0) (a 1) (a 2) (a 3) (a 4) (a 5) (a 6) = true := same_of fun k _ => by
  unfold join mx
  repeat' split
  all_goals omega
theorem join_left (a b : Nat → Int) : over (join a b) a = true := over_iff.2 fun k _ => by
  unfold join mx
  repeat' split
  all_goals omega
theorem join_right (a b : Nat → Int) : over (join a b) b = true := over_iff.2 fun k _ => by
  unfold join mx
  repeat' split
  all_goals omega
theorem has_join (a b : Nat → Int) (r s : Int) : has (join a b) r s = (has a r s || has b r s) := by
  rw [Bool.eq_iff_iff, Bool.or_eq_true, has_iff, has_iff, has_iff]
  unfold join mx
  repeat' split
  all_goals omega
end M

set_option maxHeartbeats 4000000 in
theorem grow_law (a b : Nat → Int) (r s : Int) (w : World) (hs : s ≤ 9223372036854775807) :
    Calls Try.prog 8 #[.agg #[.int .i64 (a 0), .int .i64 (a 1), .int .i64 (a 2), .int .i64 (a 3), .int .i64 (a 4), .int .i64 (a 5), .int .i64 (a 6)], .agg #[.int .i64 (b 0), .int .i64 (b 1), .int .i64 (b 2), .int .i64 (b 3), .int .i64 (b 4), .int .i64 (b 5), .int .i64 (b 6)], .agg #[.int .i64 r, .int .i64 s]] w fun e w' => e = .returned (.bool true) ∧ Below w.heap.size w w' := by
  have HS := Lib.hid hs
  clear hs
  have e4 := M.wit_out a r s
  cases e1 : M.over a b
  · skip
    go_enter Try.func8, Try.ntmps8
    go_wp2_with (fail)
    refine wp_region_after (by kernel_rfl) (by kernel_rfl) ?_
    have hx := @After.cell ((((w.alloc (.cells #[.int .i64 (a 0), .int .i64 (a 1), .int .i64 (a 2), .int .i64 (a 3), .int .i64 (a 4), .int .i64 (a 5), .int .i64 (a 6)] 23)).alloc (.cells #[.int .i64 (b 0), .int .i64 (b 1), .int .i64 (b 2), .int .i64 (b 3), .int .i64 (b 4), .int .i64 (b 5), .int .i64 (b 6)] 23)).alloc (.cells #[.int .i64 r, .int .i64 s] 25)))
    repeat (first | (go_big_quiet_step (first | (go_at_call 15; exact Calls.after_of (over_any _ _ _)) | (go_at_call 13; exact Calls.after_of (join_any _ _ _)))) | rw [e1])
    refine wpQuiet_nil ?_
    rintro w1 ⟨⟨_, hb⟩, rfl⟩
    clear hx
    have H1 := Lib.hid (below_on (below_new (below_new (below_new (Below.refl _ _)))) hb)
    have P1 := Lib.hid ((((At7.new w  (a)).push (.cells #[.int .i64 (b 0), .int .i64 (b 1), .int .i64 (b 2), .int .i64 (b 3), .int .i64 (b 4), .int .i64 (b 5), .int .i64 (b 6)] 23)).push (.cells #[.int .i64 r, .int .i64 s] 25)).on hb)
    have Q1 := Lib.hid (((At7.new1 w (.cells #[.int .i64 (a 0), .int .i64 (a 1), .int .i64 (a 2), .int .i64 (a 3), .int .i64 (a 4), .int .i64 (a 5), .int .i64 (a 6)] 23) (b)).push (.cells #[.int .i64 r, .int .i64 s] 25)).on hb)
    have I1 := Lib.hid ((At2.new2 w (.cells #[.int .i64 (a 0), .int .i64 (a 1), .int .i64 (a 2), .int .i64 (a 3), .int .i64 (a 4), .int .i64 (a 5), .int .i64 (a 6)] 23) (.cells #[.int .i64 (b 0), .int .i64 (b 1), .int .i64 (b 2), .int .i64 (b 3), .int .i64 (b 4), .int .i64 (b 5), .int .i64 (b 6)] 23) r s).on hb)
    clear hb
    obtain ⟨l0, c00, c01, c02, c03, c04, c05, c06⟩ := P1.out
    obtain ⟨l1, c10, c11, c12, c13, c14, c15, c16⟩ := Q1.out
    obtain ⟨l2, c20, c21⟩ := I1.out
    go_wp2_with (fail)
    refine wp_region_after (by kernel_rfl) (by kernel_rfl) ?_
    have hx := @After.cell (w1)
    repeat (first | (go_big_quiet_step (first | (go_at_call 15; exact Calls.after_of (over_any _ _ _)) | (go_at_call 17; exact Calls.after_of (with_any _ _ _ _)) | (go_at_call 19; exact Calls.after_of (out_any _ _ _ _ HS.out)) | (go_at_call 21; exact Calls.after_of (awake_any _)))) | rw [e1] | rw [e4])
    refine wpQuiet_nil ?_
    rintro w2 ⟨⟨_, hb⟩, rfl⟩
    clear hx
    have H2 := Lib.hid (below_on (H1.out) hb)
    have P2 := Lib.hid (P1.out.on hb)
    have Q2 := Lib.hid (Q1.out.on hb)
    have I2 := Lib.hid (I1.out.on hb)
    clear P1 Q1 I1 H1 l0 c00 c01 c02 c03 c04 c05 c06 l1 c10 c11 c12 c13 c14 c15 c16 l2 c20 c21
    clear hb
    go_wp2
    go_ret
    exact ⟨rfl, H2.out⟩
  · have e2 : M.same7 (M.join a b 0) (M.join a b 1) (M.join a b 2) (M.join a b 3) (M.join a b 4) (M.join a b 5) (M.join a b 6) (a 0) (a 1) (a 2) (a 3) (a 4) (a 5) (a 6) = true := e1
    have e3 := M.wit_over r s e1
    go_enter Try.func8, Try.ntmps8
    go_wp2_with (fail)
    refine wp_region_after (by kernel_rfl) (by kernel_rfl) ?_
    have hx := @After.cell ((((w.alloc (.cells #[.int .i64 (a 0), .int .i64 (a 1), .int .i64 (a 2), .int .i64 (a 3), .int .i64 (a 4), .int .i64 (a 5), .int .i64 (a 6)] 23)).alloc (.cells #[.int .i64 (b 0), .int .i64 (b 1), .int .i64 (b 2), .int .i64 (b 3), .int .i64 (b 4), .int .i64 (b 5), .int .i64 (b 6)] 23)).alloc (.cells #[.int .i64 r, .int .i64 s] 25)))
    repeat (first | (go_big_quiet_step (first | (go_at_call 15; exact Calls.after_of (over_any _ _ _)) | (go_at_call 13; exact Calls.after_of (join_any _ _ _)))) | rw [e1] | rw [e2])
    refine wpQuiet_nil ?_
    rintro w1 ⟨⟨_, hb⟩, rfl⟩
    clear hx
    have H1 := Lib.hid (below_on (below_new (below_new (below_new (Below.refl _ _)))) hb)
    have P1 := Lib.hid ((((At7.new w  (a)).push (.cells #[.int .i64 (b 0), .int .i64 (b 1), .int .i64 (b 2), .int .i64 (b 3), .int .i64 (b 4), .int .i64 (b 5), .int .i64 (b 6)] 23)).push (.cells #[.int .i64 r, .int .i64 s] 25)).on hb)
    have Q1 := Lib.hid (((At7.new1 w (.cells #[.int .i64 (a 0), .int .i64 (a 1), .int .i64 (a 2), .int .i64 (a 3), .int .i64 (a 4), .int .i64 (a 5), .int .i64 (a 6)] 23) (b)).push (.cells #[.int .i64 r, .int .i64 s] 25)).on hb)
    have I1 := Lib.hid ((At2.new2 w (.cells #[.int .i64 (a 0), .int .i64 (a 1), .int .i64 (a 2), .int .i64 (a 3), .int .i64 (a 4), .int .i64 (a 5), .int .i64 (a 6)] 23) (.cells #[.int .i64 (b 0), .int .i64 (b 1), .int .i64 (b 2), .int .i64 (b 3), .int .i64 (b 4), .int .i64 (b 5), .int .i64 (b 6)] 23) r s).on hb)
    clear hb
    obtain ⟨l0, c00, c01, c02, c03, c04, c05, c06⟩ := P1.out
    obtain ⟨l1, c10, c11, c12, c13, c14, c15, c16⟩ := Q1.out
    obtain ⟨l2, c20, c21⟩ := I1.out
    go_wp2_with (fail)
    refine wp_region_after (by kernel_rfl) (by kernel_rfl) ?_
    have hx := @After.cell (w1)
    repeat (first | (go_big_quiet_step (first | (go_at_call 15; exact Calls.after_of (over_any _ _ _)) | (go_at_call 17; exact Calls.after_of (with_any _ _ _ _)) | (go_at_call 19; exact Calls.after_of (out_any _ _ _ _ HS.out)) | (go_at_call 21; exact Calls.after_of (awake_any _)))) | rw [e1] | rw [e4] | rw [e3])
    refine wpQuiet_nil ?_
    rintro w2 ⟨⟨_, hb⟩, rfl⟩
    clear hx
    have H2 := Lib.hid (below_on (H1.out) hb)
    have P2 := Lib.hid (P1.out.on hb)
    have Q2 := Lib.hid (Q1.out.on hb)
    have I2 := Lib.hid (I1.out.on hb)
    clear P1 Q1 I1 H1 l0 c00 c01 c02 c03 c04 c05 c06 l1 c10 c11 c12 c13 c14 c15 c16 l2 c20 c21
    clear hb
    go_wp2
    go_ret
    exact ⟨rfl, H2.out⟩

set_option maxHeartbeats 4000000 in
theorem joins_law (a b c : Nat → Int) (r s : Int) (w : World) :
    Calls Try.prog 5 #[.agg #[.int .i64 (a 0), .int .i64 (a 1), .int .i64 (a 2), .int .i64 (a 3), .int .i64 (a 4), .int .i64 (a 5), .int .i64 (a 6)], .agg #[.int .i64 (b 0), .int .i64 (b 1), .int .i64 (b 2), .int .i64 (b 3), .int .i64 (b 4), .int .i64 (b 5), .int .i64 (b 6)], .agg #[.int .i64 (c 0), .int .i64 (c 1), .int .i64 (c 2), .int .i64 (c 3), .int .i64 (c 4), .int .i64 (c 5), .int .i64 (c 6)], .agg #[.int .i64 r, .int .i64 s]] w fun e w' => e = .returned (.bool true) ∧ Below w.heap.size w w' := by
  have e0 := M.join_comm a b
  have e1 := M.join_assoc a b c
  have e2 := M.join_self a
  have e3 := M.join_left a b
  have e4 := M.join_right a b
  have e5 := M.has_join a b r s
  cases e6 : M.has a r s
  · cases e7 : M.has b r s
    all_goals
      rw [e6, e7] at e5
      simp only [Bool.or_true, Bool.or_false] at e5
      go_enter Try.func5, Try.ntmps5
      go_wp2_with (fail)
      refine (join_any _ _ _).mono ?_
      rintro e w1 ⟨rfl, hb⟩
      have H1 := Lib.hid (below_on (below_new (below_new (below_new (below_new (Below.refl _ _))))) hb)
      have P1 := Lib.hid (((((At7.new w  (a)).push (.cells #[.int .i64 (b 0), .int .i64 (b 1), .int .i64 (b 2), .int .i64 (b 3), .int .i64 (b 4), .int .i64 (b 5), .int .i64 (b 6)] 23)).push (.cells #[.int .i64 (c 0), .int .i64 (c 1), .int .i64 (c 2), .int .i64 (c 3), .int .i64 (c 4), .int .i64 (c 5), .int .i64 (c 6)] 23)).push (.cells #[.int .i64 r, .int .i64 s] 25)).on hb)
      have Q1 := Lib.hid ((((At7.new1 w (.cells #[.int .i64 (a 0), .int .i64 (a 1), .int .i64 (a 2), .int .i64 (a 3), .int .i64 (a 4), .int .i64 (a 5), .int .i64 (a 6)] 23) (b)).push (.cells #[.int .i64 (c 0), .int .i64 (c 1), .int .i64 (c 2), .int .i64 (c 3), .int .i64 (c 4), .int .i64 (c 5), .int .i64 (c 6)] 23)).push (.cells #[.int .i64 r, .int .i64 s] 25)).on hb)
      have R1 := Lib.hid (((At7.new2 w (.cells #[.int .i64 (a 0), .int .i64 (a 1), .int .i64 (a 2), .int .i64 (a 3), .int .i64 (a 4), .int .i64 (a 5), .int .i64 (a 6)] 23) (.cells #[.int .i64 (b 0), .int .i64 (b 1), .int .i64 (b 2), .int .i64 (b 3), .int .i64 (b 4), .int .i64 (b 5), .int .i64 (b 6)] 23) (c)).push (.cells #[.int .i64 r, .int .i64 s] 25)).on hb)
      have I1 := Lib.hid ((At2.new3 w (.cells #[.int .i64 (a 0), .int .i64 (a 1), .int .i64 (a 2), .int .i64 (a 3), .int .i64 (a 4), .int .i64 (a 5), .int .i64 (a 6)] 23) (.cells #[.int .i64 (b 0), .int .i64 (b 1), .int .i64 (b 2), .int .i64 (b 3), .int .i64 (b 4), .int .i64 (b 5), .int .i64 (b 6)] 23) (.cells #[.int .i64 (c 0), .int .i64 (c 1), .int .i64 (c 2), .int .i64 (c 3), .int .i64 (c 4), .int .i64 (c 5), .int .i64 (c 6)] 23) r s).on hb)
      clear hb
      obtain ⟨l0, c00, c01, c02, c03, c04, c05, c06⟩ := P1.out
      obtain ⟨l1, c10, c11, c12, c13, c14, c15, c16⟩ := Q1.out
      obtain ⟨l2, c20, c21, c22, c23, c24, c25, c26⟩ := R1.out
      obtain ⟨l3, c30, c31⟩ := I1.out
      go_wp2_with (fail)
      refine wp_region_after (by kernel_rfl) (by kernel_rfl) ?_
      have hx := @After.cell (w1.alloc (.cells #[.int .i64 (M.join a b 0), .int .i64 (M.join a b 1), .int .i64 (M.join a b 2), .int .i64 (M.join a b 3), .int .i64 (M.join a b 4), .int .i64 (M.join a b 5), .int .i64 (M.join a b 6)] 23))
      repeat (first | (go_big_quiet_step (first | (go_at_call 13; exact Calls.after_of (join_any _ _ _)) | (go_at_call 15; exact Calls.after_of (over_any _ _ _)))) | rw [e0] | rw [e1] | rw [e2] | rw [e3] | rw [e4])
      refine wpQuiet_nil ?_
      rintro w2 ⟨⟨_, hb⟩, rfl⟩
      clear hx
      have H2 := Lib.hid (below_on (below_new (H1.out)) hb)
      have P2 := Lib.hid ((P1.out.push _).on hb)
      have Q2 := Lib.hid ((Q1.out.push _).on hb)
      have R2 := Lib.hid ((R1.out.push _).on hb)
      have I2 := Lib.hid ((I1.out.push _).on hb)
      have J2 := Lib.hid ((At7.new _ _).on hb)
      clear P1 Q1 R1 I1 H1 l0 c00 c01 c02 c03 c04 c05 c06 l1 c10 c11 c12 c13 c14 c15 c16 l2 c20 c21 c22 c23 c24 c25 c26 l3 c30 c31
      clear hb
      obtain ⟨l0, c00, c01, c02, c03, c04, c05, c06⟩ := P2.out
      obtain ⟨l1, c10, c11, c12, c13, c14, c15, c16⟩ := Q2.out
      obtain ⟨l2, c20, c21, c22, c23, c24, c25, c26⟩ := R2.out
      obtain ⟨l3, c30, c31⟩ := I2.out
      obtain ⟨l4, c40, c41, c42, c43, c44, c45, c46⟩ := J2.out
      go_wp2_with (fail)
      refine wp_region_after (by kernel_rfl) (by kernel_rfl) ?_
      have hx := @After.cell (w2)
      repeat (first | (go_big_quiet_step (first | (go_at_call 11; exact Calls.after_of (has_any _ _ _ _)) | (go_at_call 21; exact Calls.after_of (awake_any _)))) | rw [e5] | rw [e6] | rw [e7])
      refine wpQuiet_nil ?_
      rintro w3 ⟨⟨_, hb⟩, rfl⟩
      clear hx
      have H3 := Lib.hid (below_on (H2.out) hb)
      have P3 := Lib.hid (P2.out.on hb)
      have Q3 := Lib.hid (Q2.out.on hb)
      have R3 := Lib.hid (R2.out.on hb)
      have I3 := Lib.hid (I2.out.on hb)
      have J3 := Lib.hid (J2.out.on hb)
      clear P2 Q2 R2 I2 J2 H2 l0 c00 c01 c02 c03 c04 c05 c06 l1 c10 c11 c12 c13 c14 c15 c16 l2 c20 c21 c22 c23 c24 c25 c26 l3 c30 c31 l4 c40 c41 c42 c43 c44 c45 c46
      clear hb
      go_wp2
      go_ret
      exact ⟨rfl, H3.out⟩
  · rw [e6] at e5
    simp only [Bool.true_or] at e5
    go_enter Try.func5, Try.ntmps5
    go_wp2_with (fail)
    refine (join_any _ _ _).mono ?_
    rintro e w1 ⟨rfl, hb⟩
    have H1 := Lib.hid (below_on (below_new (below_new (below_new (below_new (Below.refl _ _))))) hb)
    have P1 := Lib.hid (((((At7.new w  (a)).push (.cells #[.int .i64 (b 0), .int .i64 (b 1), .int .i64 (b 2), .int .i64 (b 3), .int .i64 (b 4), .int .i64 (b 5), .int .i64 (b 6)] 23)).push (.cells #[.int .i64 (c 0), .int .i64 (c 1), .int .i64 (c 2), .int .i64 (c 3), .int .i64 (c 4), .int .i64 (c 5), .int .i64 (c 6)] 23)).push (.cells #[.int .i64 r, .int .i64 s] 25)).on hb)
    have Q1 := Lib.hid ((((At7.new1 w (.cells #[.int .i64 (a 0), .int .i64 (a 1), .int .i64 (a 2), .int .i64 (a 3), .int .i64 (a 4), .int .i64 (a 5), .int .i64 (a 6)] 23) (b)).push (.cells #[.int .i64 (c 0), .int .i64 (c 1), .int .i64 (c 2), .int .i64 (c 3), .int .i64 (c 4), .int .i64 (c 5), .int .i64 (c 6)] 23)).push (.cells #[.int .i64 r, .int .i64 s] 25)).on hb)
    have R1 := Lib.hid (((At7.new2 w (.cells #[.int .i64 (a 0), .int .i64 (a 1), .int .i64 (a 2), .int .i64 (a 3), .int .i64 (a 4), .int .i64 (a 5), .int .i64 (a 6)] 23) (.cells #[.int .i64 (b 0), .int .i64 (b 1), .int .i64 (b 2), .int .i64 (b 3), .int .i64 (b 4), .int .i64 (b 5), .int .i64 (b 6)] 23) (c)).push (.cells #[.int .i64 r, .int .i64 s] 25)).on hb)
    have I1 := Lib.hid ((At2.new3 w (.cells #[.int .i64 (a 0), .int .i64 (a 1), .int .i64 (a 2), .int .i64 (a 3), .int .i64 (a 4), .int .i64 (a 5), .int .i64 (a 6)] 23) (.cells #[.int .i64 (b 0), .int .i64 (b 1), .int .i64 (b 2), .int .i64 (b 3), .int .i64 (b 4), .int .i64 (b 5), .int .i64 (b 6)] 23) (.cells #[.int .i64 (c 0), .int .i64 (c 1), .int .i64 (c 2), .int .i64 (c 3), .int .i64 (c 4), .int .i64 (c 5), .int .i64 (c 6)] 23) r s).on hb)
    clear hb
    obtain ⟨l0, c00, c01, c02, c03, c04, c05, c06⟩ := P1.out
    obtain ⟨l1, c10, c11, c12, c13, c14, c15, c16⟩ := Q1.out
    obtain ⟨l2, c20, c21, c22, c23, c24, c25, c26⟩ := R1.out
    obtain ⟨l3, c30, c31⟩ := I1.out
    go_wp2_with (fail)
    refine wp_region_after (by kernel_rfl) (by kernel_rfl) ?_
    have hx := @After.cell (w1.alloc (.cells #[.int .i64 (M.join a b 0), .int .i64 (M.join a b 1), .int .i64 (M.join a b 2), .int .i64 (M.join a b 3), .int .i64 (M.join a b 4), .int .i64 (M.join a b 5), .int .i64 (M.join a b 6)] 23))
    repeat (first | (go_big_quiet_step (first | (go_at_call 13; exact Calls.after_of (join_any _ _ _)) | (go_at_call 15; exact Calls.after_of (over_any _ _ _)))) | rw [e0] | rw [e1] | rw [e2] | rw [e3] | rw [e4])
    refine wpQuiet_nil ?_
    rintro w2 ⟨⟨_, hb⟩, rfl⟩
    clear hx
    have H2 := Lib.hid (below_on (below_new (H1.out)) hb)
    have P2 := Lib.hid ((P1.out.push _).on hb)
    have Q2 := Lib.hid ((Q1.out.push _).on hb)
    have R2 := Lib.hid ((R1.out.push _).on hb)
    have I2 := Lib.hid ((I1.out.push _).on hb)
    have J2 := Lib.hid ((At7.new _ _).on hb)
    clear P1 Q1 R1 I1 H1 l0 c00 c01 c02 c03 c04 c05 c06 l1 c10 c11 c12 c13 c14 c15 c16 l2 c20 c21 c22 c23 c24 c25 c26 l3 c30 c31
    clear hb
    obtain ⟨l0, c00, c01, c02, c03, c04, c05, c06⟩ := P2.out
    obtain ⟨l1, c10, c11, c12, c13, c14, c15, c16⟩ := Q2.out
    obtain ⟨l2, c20, c21, c22, c23, c24, c25, c26⟩ := R2.out
    obtain ⟨l3, c30, c31⟩ := I2.out
    obtain ⟨l4, c40, c41, c42, c43, c44, c45, c46⟩ := J2.out
    go_wp2_with (fail)
    refine wp_region_after (by kernel_rfl) (by kernel_rfl) ?_
    have hx := @After.cell (w2)
    repeat (first | (go_big_quiet_step (first | (go_at_call 11; exact Calls.after_of (has_any _ _ _ _)) | (go_at_call 21; exact Calls.after_of (awake_any _)))) | rw [e5] | rw [e6])
    refine wpQuiet_nil ?_
    rintro w3 ⟨⟨_, hb⟩, rfl⟩
    clear hx
    have H3 := Lib.hid (below_on (H2.out) hb)
    have P3 := Lib.hid (P2.out.on hb)
    have Q3 := Lib.hid (Q2.out.on hb)
    have R3 := Lib.hid (R2.out.on hb)
    have I3 := Lib.hid (I2.out.on hb)
    have J3 := Lib.hid (J2.out.on hb)
    clear P2 Q2 R2 I2 J2 H2 l0 c00 c01 c02 c03 c04 c05 c06 l1 c10 c11 c12 c13 c14 c15 c16 l2 c20 c21 c22 c23 c24 c25 c26 l3 c30 c31 l4 c40 c41 c42 c43 c44 c45 c46
    clear hb
    go_wp2
    go_ret
    exact ⟨rfl, H3.out⟩

set_option maxHeartbeats 4000000 in
theorem words_law (a b : Nat → Int) (r s : Int) (w : World) (hs : s ≤ 9223372036854775807) :
    Calls Try.prog 3 #[.agg #[.int .i64 (a 0), .int .i64 (a 1), .int .i64 (a 2), .int .i64 (a 3), .int .i64 (a 4), .int .i64 (a 5), .int .i64 (a 6)], .agg #[.int .i64 (b 0), .int .i64 (b 1), .int .i64 (b 2), .int .i64 (b 3), .int .i64 (b 4), .int .i64 (b 5), .int .i64 (b 6)], .agg #[.int .i64 r, .int .i64 s]] w fun e w' => e = .returned (.bool true) ∧ Below w.heap.size w w' := by
  have HS := Lib.hid hs
  clear hs
  have e0 : M.same7 (M.join a b 0) (M.join a b 1) (M.join a b 2) (M.join a b 3) (M.join a b 4) (M.join a b 5) (M.join a b 6) (M.join a b 0) (M.join a b 1) (M.join a b 2) (M.join a b 3) (M.join a b 4) (M.join a b 5) (M.join a b 6) = true := M.same_of fun _ _ => rfl
  have e1 : M.same7 (M.wit a r s 0) (M.wit a r s 1) (M.wit a r s 2) (M.wit a r s 3) (M.wit a r s 4) (M.wit a r s 5) (M.wit a r s 6) (M.wit a r s 0) (M.wit a r s 1) (M.wit a r s 2) (M.wit a r s 3) (M.wit a r s 4) (M.wit a r s 5) (M.wit a r s 6) = true := M.same_of fun _ _ => rfl
  have e2 : M.same7 (M.out a r s 0) (M.out a r s 1) (M.out a r s 2) (M.out a r s 3) (M.out a r s 4) (M.out a r s 5) (M.out a r s 6) (M.out a r s 0) (M.out a r s 1) (M.out a r s 2) (M.out a r s 3) (M.out a r s 4) (M.out a r s 5) (M.out a r s 6) = true := M.same_of fun _ _ => rfl
  go_enter Try.func3, Try.ntmps3
  go_wp2_with (fail)
  refine wp_region_after (by kernel_rfl) (by kernel_rfl) ?_
  have hx := @After.cell ((((w.alloc (.cells #[.int .i64 (a 0), .int .i64 (a 1), .int .i64 (a 2), .int .i64 (a 3), .int .i64 (a 4), .int .i64 (a 5), .int .i64 (a 6)] 23)).alloc (.cells #[.int .i64 (b 0), .int .i64 (b 1), .int .i64 (b 2), .int .i64 (b 3), .int .i64 (b 4), .int .i64 (b 5), .int .i64 (b 6)] 23)).alloc (.cells #[.int .i64 r, .int .i64 s] 25)))
  repeat (go_big_quiet_step (first | (go_at_call 9; exact Calls.after_of (right_any _ _)) | (go_at_call 10; exact Calls.after_of (refRight_any _ _)) | (go_at_call 11; exact Calls.after_of (has_any _ _ _ _)) | (go_at_call 12; exact Calls.after_of (refHas_any _ _ _ _)) | (go_at_call 13; exact Calls.after_of (join_any _ _ _)) | (go_at_call 14; exact Calls.after_of (refJoin_any _ _ _)) | (go_at_call 15; exact Calls.after_of (over_any _ _ _)) | (go_at_call 16; exact Calls.after_of (refOver_any _ _ _)) | (go_at_call 17; exact Calls.after_of (with_any _ _ _ _)) | (go_at_call 18; exact Calls.after_of (refWith_any _ _ _ _)) | (go_at_call 19; exact Calls.after_of (out_any _ _ _ _ HS.out)) | (go_at_call 20; exact Calls.after_of (refWithout_any _ _ _ _ HS.out)) | (go_at_call 21; exact Calls.after_of (awake_any _))))
  refine wpQuiet_nil ?_
  rintro w1 ⟨⟨_, hb⟩, rfl⟩
  clear hx
  have H1 := Lib.hid (below_on (below_new (below_new (below_new (Below.refl _ _)))) hb)
  have P1 := Lib.hid ((((At7.new w  (a)).push (.cells #[.int .i64 (b 0), .int .i64 (b 1), .int .i64 (b 2), .int .i64 (b 3), .int .i64 (b 4), .int .i64 (b 5), .int .i64 (b 6)] 23)).push (.cells #[.int .i64 r, .int .i64 s] 25)).on hb)
  have Q1 := Lib.hid (((At7.new1 w (.cells #[.int .i64 (a 0), .int .i64 (a 1), .int .i64 (a 2), .int .i64 (a 3), .int .i64 (a 4), .int .i64 (a 5), .int .i64 (a 6)] 23) (b)).push (.cells #[.int .i64 r, .int .i64 s] 25)).on hb)
  have I1 := Lib.hid ((At2.new2 w (.cells #[.int .i64 (a 0), .int .i64 (a 1), .int .i64 (a 2), .int .i64 (a 3), .int .i64 (a 4), .int .i64 (a 5), .int .i64 (a 6)] 23) (.cells #[.int .i64 (b 0), .int .i64 (b 1), .int .i64 (b 2), .int .i64 (b 3), .int .i64 (b 4), .int .i64 (b 5), .int .i64 (b 6)] 23) r s).on hb)
  clear hb
  go_wp2
  go_ret
  exact ⟨rfl, H1.out⟩

end Go.Proofs.Ytcombmifjimkoaa
