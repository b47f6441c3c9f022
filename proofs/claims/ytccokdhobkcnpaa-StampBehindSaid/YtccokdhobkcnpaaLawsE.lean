/- The walk of StampBehind: it returns true, and nothing that was there changes; no conditions. -/
import Derived.Test.YtccokdhobkcnpaaLawsD
namespace Go.Proofs.Ytccokdhobkcnpaa
open Go.RowKit

theorem M.ne_zero {x y k b : Int} (h : M.ne x y k b = 0) : M.okB x y k b = true ∧ M.topB x = false := by
  cases ho : M.okB x y k b
  · rw [(M.n_arg ho).2.2] at h; cases h
  · cases ht : M.topB x
    · exact ⟨rfl, rfl⟩
    · rw [(M.n_top ho ht).2.2] at h; cases h
/-- What follows where the next one is: it may be, it lies behind. -/
theorem M.next_right {x y k b : Int} (h : M.ne x y k b = 0) : M.pairB (x + 1) k 0 1099511627776 0 b = true := by
  obtain ⟨ho, ht⟩ := M.ne_zero h
  have := M.ok_iff.1 ho
  have := M.top_no ht
  exact M.pair_iff.2 (by omega)
theorem M.next_room {x y k b : Int} (h : M.ne x y k b = 0) : 0 ≤ x ∧ x ≤ 1099511627775 := by
  obtain ⟨ho, ht⟩ := M.ne_zero h
  have := M.ok_iff.1 ho
  have := M.top_no ht
  omega

set_option maxHeartbeats 4000000 in
theorem behind_1s (n r t c k j : Int) (w : World) (hE : ¬ M.ne n r k 6 = 0) :
    Calls Try.prog 7 #[.agg #[.int .i64 n, .int .i64 r], .agg #[.int .i64 t, .int .i64 c], .int .i64 k, .int .i64 j] w fun e w' => e = .returned (.bool true) ∧ Below w.heap.size w w' := by
  by_cases hG : M.ne t c k 3 = 0
  · by_cases hH : M.ne t c j 3 = 0
    · by_cases hk : k = j
      · subst hk
        have K1 := Lib.hid (show ∀ w, Calls Try.prog 24 #[.agg #[.int .i64 n, .int .i64 r], .int .i64 k] w fun e w' => e = .returned (.tuple #[.agg #[.int .i64 (M.nx n r k 6), .int .i64 (M.ny n r k 6)], .int .i64 (M.ne n r k 6)]) ∧ Below w.heap.size w w' from fun w => nextBallot_any n r k w)
        have K2 := Lib.hid (show ∀ w, Calls Try.prog 24 #[.agg #[.int .i64 n, .int .i64 r], .int .i64 k] w fun e w' => e = .returned (.tuple #[.agg #[.int .i64 (M.nx n r k 6), .int .i64 (M.ny n r k 6)], .int .i64 (M.ne n r k 6)]) ∧ Below w.heap.size w w' from fun w => nextBallot_any n r k w)
        have K3 := Lib.hid (nextStamp_ok (M.ne_zero hG).1 (M.ne_zero hG).2)
        have R2 := Lib.hid (rightStamp_yes (M.next_right hG))
        have C2 := Lib.hid (compareStamps_lt (a := t) (b := c) (c := t + 1) (d := k) (by omega))
        have K4 := K3
        clear hG hH
        go_enter Try.func7, Try.ntmps7
        go_wp2_with (fail)
        refine (K1.out _).mono ?_
        rintro e w1 ⟨rfl, hb⟩
        have H1 := Lib.hid (below_on (below_new (below_new (Below.refl _ _))) hb)
        have P1 := Lib.hid (((At.new w (.int .i64 n) (.int .i64 r) 23).push (.cells #[.int .i64 t, .int .i64 c] 25)).on hb)
        have S1 := Lib.hid ((At.new1 w (.cells #[.int .i64 n, .int .i64 r] 23) (.int .i64 t) (.int .i64 c) 25).on hb)
        clear hb
        obtain ⟨l0, c0, d0⟩ := P1.out
        go_wp2_with (fail)
        refine (K2.out _).mono ?_
        rintro e w2 ⟨rfl, hb⟩
        have H2 := Lib.hid (below_on (below_new H1.out) hb)
        have P2 := Lib.hid ((P1.out.push _).on hb)
        have S2 := Lib.hid ((S1.out.push _).on hb)
        have X2 := Lib.hid ((At.new _ _ _ _).on hb)
        clear P1 S1 H1 l0 c0 d0
        clear hb
        obtain ⟨l0, c0, d0⟩ := S2.out
        go_wp2_with (fail)
        refine (K3.out _).mono ?_
        rintro e w3 ⟨rfl, hb⟩
        have H3 := Lib.hid (below_on (below_new H2.out) hb)
        have P3 := Lib.hid ((P2.out.push _).on hb)
        have S3 := Lib.hid ((S2.out.push _).on hb)
        have X3 := Lib.hid ((X2.out.push _).on hb)
        have Y3 := Lib.hid ((At.new _ _ _ _).on hb)
        clear P2 S2 X2 H2 l0 c0 d0
        clear hb
        obtain ⟨l0, c0, d0⟩ := S3.out
        go_wp2_with (fail)
        refine (K4.out _).mono ?_
        rintro e w4 ⟨rfl, hb⟩
        have H4 := Lib.hid (below_on (below_new H3.out) hb)
        have P4 := Lib.hid ((P3.out.push _).on hb)
        have S4 := Lib.hid ((S3.out.push _).on hb)
        have X4 := Lib.hid ((X3.out.push _).on hb)
        have Y4 := Lib.hid ((Y3.out.push _).on hb)
        have U4 := Lib.hid ((At.new _ _ _ _).on hb)
        clear P3 S3 X3 Y3 H3 l0 c0 d0
        clear hb
        obtain ⟨l0, c0, d0⟩ := U4.out
        go_wp2_with (fail)
        refine (R2.out _).mono ?_
        rintro e w5 ⟨rfl, hb⟩
        have H5 := Lib.hid (below_on (below_new H4.out) hb)
        have P5 := Lib.hid ((P4.out.push _).on hb)
        have S5 := Lib.hid ((S4.out.push _).on hb)
        have X5 := Lib.hid ((X4.out.push _).on hb)
        have Y5 := Lib.hid ((Y4.out.push _).on hb)
        have U5 := Lib.hid ((U4.out.push _).on hb)
        have V5 := Lib.hid ((At.new _ _ _ _).on hb)
        clear P4 S4 X4 Y4 U4 H4 l0 c0 d0
        clear hb
        obtain ⟨l0, c0, d0⟩ := S5.out
        obtain ⟨l1, c1, d1⟩ := U5.out
        go_wp2_with (fail)
        refine (C2.out _).mono ?_
        rintro e w6 ⟨rfl, hb⟩
        have H6 := Lib.hid (below_on (H5.out) hb)
        have P6 := Lib.hid (P5.out.on hb)
        have S6 := Lib.hid (S5.out.on hb)
        have X6 := Lib.hid (X5.out.on hb)
        have Y6 := Lib.hid (Y5.out.on hb)
        have U6 := Lib.hid (U5.out.on hb)
        have V6 := Lib.hid (V5.out.on hb)
        clear P5 S5 X5 Y5 U5 V5 H5 l0 c0 d0 l1 c1 d1
        clear hb
        go_wp2_with (fail)
        refine (awake_any _).mono ?_
        rintro e w7 ⟨rfl, hb⟩
        have H7 := Lib.hid (below_on (H6.out) hb)
        have P7 := Lib.hid (P6.out.on hb)
        have S7 := Lib.hid (S6.out.on hb)
        have X7 := Lib.hid (X6.out.on hb)
        have Y7 := Lib.hid (Y6.out.on hb)
        have U7 := Lib.hid (U6.out.on hb)
        have V7 := Lib.hid (V6.out.on hb)
        clear P6 S6 X6 Y6 U6 V6 H6
        clear hb
        go_wp2
        go_ret
        exact ⟨rfl, H7.out⟩
      · skip
        have K1 := Lib.hid (show ∀ w, Calls Try.prog 24 #[.agg #[.int .i64 n, .int .i64 r], .int .i64 k] w fun e w' => e = .returned (.tuple #[.agg #[.int .i64 (M.nx n r k 6), .int .i64 (M.ny n r k 6)], .int .i64 (M.ne n r k 6)]) ∧ Below w.heap.size w w' from fun w => nextBallot_any n r k w)
        have K2 := Lib.hid (show ∀ w, Calls Try.prog 24 #[.agg #[.int .i64 n, .int .i64 r], .int .i64 j] w fun e w' => e = .returned (.tuple #[.agg #[.int .i64 (M.nx n r j 6), .int .i64 (M.ny n r j 6)], .int .i64 (M.ne n r j 6)]) ∧ Below w.heap.size w w' from fun w => nextBallot_any n r j w)
        have K3 := Lib.hid (nextStamp_ok (M.ne_zero hG).1 (M.ne_zero hG).2)
        have R2 := Lib.hid (rightStamp_yes (M.next_right hG))
        have C2 := Lib.hid (compareStamps_lt (a := t) (b := c) (c := t + 1) (d := k) (by omega))
        have K4 := Lib.hid (nextStamp_ok (M.ne_zero hH).1 (M.ne_zero hH).2)
        clear hG hH
        go_enter Try.func7, Try.ntmps7
        go_wp2_with (fail)
        refine (K1.out _).mono ?_
        rintro e w1 ⟨rfl, hb⟩
        have H1 := Lib.hid (below_on (below_new (below_new (Below.refl _ _))) hb)
        have P1 := Lib.hid (((At.new w (.int .i64 n) (.int .i64 r) 23).push (.cells #[.int .i64 t, .int .i64 c] 25)).on hb)
        have S1 := Lib.hid ((At.new1 w (.cells #[.int .i64 n, .int .i64 r] 23) (.int .i64 t) (.int .i64 c) 25).on hb)
        clear hb
        obtain ⟨l0, c0, d0⟩ := P1.out
        go_wp2_with (fail)
        refine (K2.out _).mono ?_
        rintro e w2 ⟨rfl, hb⟩
        have H2 := Lib.hid (below_on (below_new H1.out) hb)
        have P2 := Lib.hid ((P1.out.push _).on hb)
        have S2 := Lib.hid ((S1.out.push _).on hb)
        have X2 := Lib.hid ((At.new _ _ _ _).on hb)
        clear P1 S1 H1 l0 c0 d0
        clear hb
        obtain ⟨l0, c0, d0⟩ := S2.out
        go_wp2_with (fail)
        refine (K3.out _).mono ?_
        rintro e w3 ⟨rfl, hb⟩
        have H3 := Lib.hid (below_on (below_new H2.out) hb)
        have P3 := Lib.hid ((P2.out.push _).on hb)
        have S3 := Lib.hid ((S2.out.push _).on hb)
        have X3 := Lib.hid ((X2.out.push _).on hb)
        have Y3 := Lib.hid ((At.new _ _ _ _).on hb)
        clear P2 S2 X2 H2 l0 c0 d0
        clear hb
        obtain ⟨l0, c0, d0⟩ := S3.out
        go_wp2_with (fail)
        refine (K4.out _).mono ?_
        rintro e w4 ⟨rfl, hb⟩
        have H4 := Lib.hid (below_on (below_new H3.out) hb)
        have P4 := Lib.hid ((P3.out.push _).on hb)
        have S4 := Lib.hid ((S3.out.push _).on hb)
        have X4 := Lib.hid ((X3.out.push _).on hb)
        have Y4 := Lib.hid ((Y3.out.push _).on hb)
        have U4 := Lib.hid ((At.new _ _ _ _).on hb)
        clear P3 S3 X3 Y3 H3 l0 c0 d0
        clear hb
        obtain ⟨l0, c0, d0⟩ := U4.out
        go_wp2_with (fail)
        refine (R2.out _).mono ?_
        rintro e w5 ⟨rfl, hb⟩
        have H5 := Lib.hid (below_on (below_new H4.out) hb)
        have P5 := Lib.hid ((P4.out.push _).on hb)
        have S5 := Lib.hid ((S4.out.push _).on hb)
        have X5 := Lib.hid ((X4.out.push _).on hb)
        have Y5 := Lib.hid ((Y4.out.push _).on hb)
        have U5 := Lib.hid ((U4.out.push _).on hb)
        have V5 := Lib.hid ((At.new _ _ _ _).on hb)
        clear P4 S4 X4 Y4 U4 H4 l0 c0 d0
        clear hb
        obtain ⟨l0, c0, d0⟩ := S5.out
        obtain ⟨l1, c1, d1⟩ := U5.out
        go_wp2_with (fail)
        refine (C2.out _).mono ?_
        rintro e w6 ⟨rfl, hb⟩
        have H6 := Lib.hid (below_on (H5.out) hb)
        have P6 := Lib.hid (P5.out.on hb)
        have S6 := Lib.hid (S5.out.on hb)
        have X6 := Lib.hid (X5.out.on hb)
        have Y6 := Lib.hid (Y5.out.on hb)
        have U6 := Lib.hid (U5.out.on hb)
        have V6 := Lib.hid (V5.out.on hb)
        clear P5 S5 X5 Y5 U5 V5 H5 l0 c0 d0 l1 c1 d1
        clear hb
        obtain ⟨l0, c0, d0⟩ := U6.out
        obtain ⟨l1, c1, d1⟩ := V6.out
        go_wp2_with (fail)
        refine (awake_any _).mono ?_
        rintro e w7 ⟨rfl, hb⟩
        have H7 := Lib.hid (below_on (H6.out) hb)
        have P7 := Lib.hid (P6.out.on hb)
        have S7 := Lib.hid (S6.out.on hb)
        have X7 := Lib.hid (X6.out.on hb)
        have Y7 := Lib.hid (Y6.out.on hb)
        have U7 := Lib.hid (U6.out.on hb)
        have V7 := Lib.hid (V6.out.on hb)
        clear P6 S6 X6 Y6 U6 V6 H6 l0 c0 d0 l1 c1 d1
        clear hb
        go_wp2
        go_ret
        exact ⟨rfl, H7.out⟩
    · skip
      have K1 := Lib.hid (show ∀ w, Calls Try.prog 24 #[.agg #[.int .i64 n, .int .i64 r], .int .i64 k] w fun e w' => e = .returned (.tuple #[.agg #[.int .i64 (M.nx n r k 6), .int .i64 (M.ny n r k 6)], .int .i64 (M.ne n r k 6)]) ∧ Below w.heap.size w w' from fun w => nextBallot_any n r k w)
      have K2 := Lib.hid (show ∀ w, Calls Try.prog 24 #[.agg #[.int .i64 n, .int .i64 r], .int .i64 j] w fun e w' => e = .returned (.tuple #[.agg #[.int .i64 (M.nx n r j 6), .int .i64 (M.ny n r j 6)], .int .i64 (M.ne n r j 6)]) ∧ Below w.heap.size w w' from fun w => nextBallot_any n r j w)
      have K3 := Lib.hid (nextStamp_ok (M.ne_zero hG).1 (M.ne_zero hG).2)
      have R2 := Lib.hid (rightStamp_yes (M.next_right hG))
      have C2 := Lib.hid (compareStamps_lt (a := t) (b := c) (c := t + 1) (d := k) (by omega))
      have K4 := Lib.hid (show ∀ w, Calls Try.prog 26 #[.agg #[.int .i64 t, .int .i64 c], .int .i64 j] w fun e w' => e = .returned (.tuple #[.agg #[.int .i64 (M.nx t c j 3), .int .i64 (M.ny t c j 3)], .int .i64 (M.ne t c j 3)]) ∧ Below w.heap.size w w' from fun w => nextStamp_any t c j w)
      clear hG
      go_enter Try.func7, Try.ntmps7
      go_wp2_with (fail)
      refine (K1.out _).mono ?_
      rintro e w1 ⟨rfl, hb⟩
      have H1 := Lib.hid (below_on (below_new (below_new (Below.refl _ _))) hb)
      have P1 := Lib.hid (((At.new w (.int .i64 n) (.int .i64 r) 23).push (.cells #[.int .i64 t, .int .i64 c] 25)).on hb)
      have S1 := Lib.hid ((At.new1 w (.cells #[.int .i64 n, .int .i64 r] 23) (.int .i64 t) (.int .i64 c) 25).on hb)
      clear hb
      obtain ⟨l0, c0, d0⟩ := P1.out
      go_wp2_with (fail)
      refine (K2.out _).mono ?_
      rintro e w2 ⟨rfl, hb⟩
      have H2 := Lib.hid (below_on (below_new H1.out) hb)
      have P2 := Lib.hid ((P1.out.push _).on hb)
      have S2 := Lib.hid ((S1.out.push _).on hb)
      have X2 := Lib.hid ((At.new _ _ _ _).on hb)
      clear P1 S1 H1 l0 c0 d0
      clear hb
      obtain ⟨l0, c0, d0⟩ := S2.out
      go_wp2_with (fail)
      refine (K3.out _).mono ?_
      rintro e w3 ⟨rfl, hb⟩
      have H3 := Lib.hid (below_on (below_new H2.out) hb)
      have P3 := Lib.hid ((P2.out.push _).on hb)
      have S3 := Lib.hid ((S2.out.push _).on hb)
      have X3 := Lib.hid ((X2.out.push _).on hb)
      have Y3 := Lib.hid ((At.new _ _ _ _).on hb)
      clear P2 S2 X2 H2 l0 c0 d0
      clear hb
      obtain ⟨l0, c0, d0⟩ := S3.out
      go_wp2_with (fail)
      refine (K4.out _).mono ?_
      rintro e w4 ⟨rfl, hb⟩
      have H4 := Lib.hid (below_on (below_new H3.out) hb)
      have P4 := Lib.hid ((P3.out.push _).on hb)
      have S4 := Lib.hid ((S3.out.push _).on hb)
      have X4 := Lib.hid ((X3.out.push _).on hb)
      have Y4 := Lib.hid ((Y3.out.push _).on hb)
      have U4 := Lib.hid ((At.new _ _ _ _).on hb)
      clear P3 S3 X3 Y3 H3 l0 c0 d0
      clear hb
      obtain ⟨l0, c0, d0⟩ := U4.out
      go_wp2_with (fail)
      refine (R2.out _).mono ?_
      rintro e w5 ⟨rfl, hb⟩
      have H5 := Lib.hid (below_on (below_new H4.out) hb)
      have P5 := Lib.hid ((P4.out.push _).on hb)
      have S5 := Lib.hid ((S4.out.push _).on hb)
      have X5 := Lib.hid ((X4.out.push _).on hb)
      have Y5 := Lib.hid ((Y4.out.push _).on hb)
      have U5 := Lib.hid ((U4.out.push _).on hb)
      have V5 := Lib.hid ((At.new _ _ _ _).on hb)
      clear P4 S4 X4 Y4 U4 H4 l0 c0 d0
      clear hb
      obtain ⟨l0, c0, d0⟩ := S5.out
      obtain ⟨l1, c1, d1⟩ := U5.out
      go_wp2_with (fail)
      refine (C2.out _).mono ?_
      rintro e w6 ⟨rfl, hb⟩
      have H6 := Lib.hid (below_on (H5.out) hb)
      have P6 := Lib.hid (P5.out.on hb)
      have S6 := Lib.hid (S5.out.on hb)
      have X6 := Lib.hid (X5.out.on hb)
      have Y6 := Lib.hid (Y5.out.on hb)
      have U6 := Lib.hid (U5.out.on hb)
      have V6 := Lib.hid (V5.out.on hb)
      clear P5 S5 X5 Y5 U5 V5 H5 l0 c0 d0 l1 c1 d1
      clear hb
      go_wp2_with (fail)
      refine (awake_any _).mono ?_
      rintro e w7 ⟨rfl, hb⟩
      have H7 := Lib.hid (below_on (H6.out) hb)
      have P7 := Lib.hid (P6.out.on hb)
      have S7 := Lib.hid (S6.out.on hb)
      have X7 := Lib.hid (X6.out.on hb)
      have Y7 := Lib.hid (Y6.out.on hb)
      have U7 := Lib.hid (U6.out.on hb)
      have V7 := Lib.hid (V6.out.on hb)
      clear P6 S6 X6 Y6 U6 V6 H6
      clear hb
      go_wp2
      go_ret
      exact ⟨rfl, H7.out⟩
  · skip
    have K1 := Lib.hid (show ∀ w, Calls Try.prog 24 #[.agg #[.int .i64 n, .int .i64 r], .int .i64 k] w fun e w' => e = .returned (.tuple #[.agg #[.int .i64 (M.nx n r k 6), .int .i64 (M.ny n r k 6)], .int .i64 (M.ne n r k 6)]) ∧ Below w.heap.size w w' from fun w => nextBallot_any n r k w)
    have K2 := Lib.hid (show ∀ w, Calls Try.prog 24 #[.agg #[.int .i64 n, .int .i64 r], .int .i64 j] w fun e w' => e = .returned (.tuple #[.agg #[.int .i64 (M.nx n r j 6), .int .i64 (M.ny n r j 6)], .int .i64 (M.ne n r j 6)]) ∧ Below w.heap.size w w' from fun w => nextBallot_any n r j w)
    have K3 := Lib.hid (show ∀ w, Calls Try.prog 26 #[.agg #[.int .i64 t, .int .i64 c], .int .i64 k] w fun e w' => e = .returned (.tuple #[.agg #[.int .i64 (M.nx t c k 3), .int .i64 (M.ny t c k 3)], .int .i64 (M.ne t c k 3)]) ∧ Below w.heap.size w w' from fun w => nextStamp_any t c k w)
    have K4 := Lib.hid (show ∀ w, Calls Try.prog 26 #[.agg #[.int .i64 t, .int .i64 c], .int .i64 j] w fun e w' => e = .returned (.tuple #[.agg #[.int .i64 (M.nx t c j 3), .int .i64 (M.ny t c j 3)], .int .i64 (M.ne t c j 3)]) ∧ Below w.heap.size w w' from fun w => nextStamp_any t c j w)
    go_enter Try.func7, Try.ntmps7
    go_wp2_with (fail)
    refine (K1.out _).mono ?_
    rintro e w1 ⟨rfl, hb⟩
    have H1 := Lib.hid (below_on (below_new (below_new (Below.refl _ _))) hb)
    have P1 := Lib.hid (((At.new w (.int .i64 n) (.int .i64 r) 23).push (.cells #[.int .i64 t, .int .i64 c] 25)).on hb)
    have S1 := Lib.hid ((At.new1 w (.cells #[.int .i64 n, .int .i64 r] 23) (.int .i64 t) (.int .i64 c) 25).on hb)
    clear hb
    obtain ⟨l0, c0, d0⟩ := P1.out
    go_wp2_with (fail)
    refine (K2.out _).mono ?_
    rintro e w2 ⟨rfl, hb⟩
    have H2 := Lib.hid (below_on (below_new H1.out) hb)
    have P2 := Lib.hid ((P1.out.push _).on hb)
    have S2 := Lib.hid ((S1.out.push _).on hb)
    have X2 := Lib.hid ((At.new _ _ _ _).on hb)
    clear P1 S1 H1 l0 c0 d0
    clear hb
    obtain ⟨l0, c0, d0⟩ := S2.out
    go_wp2_with (fail)
    refine (K3.out _).mono ?_
    rintro e w3 ⟨rfl, hb⟩
    have H3 := Lib.hid (below_on (below_new H2.out) hb)
    have P3 := Lib.hid ((P2.out.push _).on hb)
    have S3 := Lib.hid ((S2.out.push _).on hb)
    have X3 := Lib.hid ((X2.out.push _).on hb)
    have Y3 := Lib.hid ((At.new _ _ _ _).on hb)
    clear P2 S2 X2 H2 l0 c0 d0
    clear hb
    obtain ⟨l0, c0, d0⟩ := S3.out
    go_wp2_with (fail)
    refine (K4.out _).mono ?_
    rintro e w4 ⟨rfl, hb⟩
    have H4 := Lib.hid (below_on (below_new H3.out) hb)
    have P4 := Lib.hid ((P3.out.push _).on hb)
    have S4 := Lib.hid ((S3.out.push _).on hb)
    have X4 := Lib.hid ((X3.out.push _).on hb)
    have Y4 := Lib.hid ((Y3.out.push _).on hb)
    have U4 := Lib.hid ((At.new _ _ _ _).on hb)
    clear P3 S3 X3 Y3 H3 l0 c0 d0
    clear hb
    go_wp2_with (fail)
    refine (awake_any _).mono ?_
    rintro e w5 ⟨rfl, hb⟩
    have H5 := Lib.hid (below_on (below_new H4.out) hb)
    have P5 := Lib.hid ((P4.out.push _).on hb)
    have S5 := Lib.hid ((S4.out.push _).on hb)
    have X5 := Lib.hid ((X4.out.push _).on hb)
    have Y5 := Lib.hid ((Y4.out.push _).on hb)
    have U5 := Lib.hid ((U4.out.push _).on hb)
    have V5 := Lib.hid ((At.new _ _ _ _).on hb)
    clear P4 S4 X4 Y4 U4 H4
    clear hb
    go_wp2
    go_ret
    exact ⟨rfl, H5.out⟩

set_option maxHeartbeats 4000000 in
theorem behind_2s (n r t c k j : Int) (w : World) (hE : M.ne n r k 6 = 0) (hF : ¬ M.ne n r j 6 = 0) (hk : ¬ k = j) :
    Calls Try.prog 7 #[.agg #[.int .i64 n, .int .i64 r], .agg #[.int .i64 t, .int .i64 c], .int .i64 k, .int .i64 j] w fun e w' => e = .returned (.bool true) ∧ Below w.heap.size w w' := by
  by_cases hG : M.ne t c k 3 = 0
  · by_cases hH : M.ne t c j 3 = 0
    · skip
      have K1 := Lib.hid (nextBallot_ok (M.ne_zero hE).1 (M.ne_zero hE).2)
      have R1 := Lib.hid (rightBallot_yes (M.next_right hE))
      have C1 := Lib.hid (compareBallots_lt (a := n) (b := r) (c := n + 1) (d := k) (by omega))
      have K2 := Lib.hid (show ∀ w, Calls Try.prog 24 #[.agg #[.int .i64 n, .int .i64 r], .int .i64 j] w fun e w' => e = .returned (.tuple #[.agg #[.int .i64 (M.nx n r j 6), .int .i64 (M.ny n r j 6)], .int .i64 (M.ne n r j 6)]) ∧ Below w.heap.size w w' from fun w => nextBallot_any n r j w)
      have K3 := Lib.hid (nextStamp_ok (M.ne_zero hG).1 (M.ne_zero hG).2)
      have R2 := Lib.hid (rightStamp_yes (M.next_right hG))
      have C2 := Lib.hid (compareStamps_lt (a := t) (b := c) (c := t + 1) (d := k) (by omega))
      have K4 := Lib.hid (nextStamp_ok (M.ne_zero hH).1 (M.ne_zero hH).2)
      clear hE hG hH
      go_enter Try.func7, Try.ntmps7
      go_wp2_with (fail)
      refine (K1.out _).mono ?_
      rintro e w1 ⟨rfl, hb⟩
      have H1 := Lib.hid (below_on (below_new (below_new (Below.refl _ _))) hb)
      have P1 := Lib.hid (((At.new w (.int .i64 n) (.int .i64 r) 23).push (.cells #[.int .i64 t, .int .i64 c] 25)).on hb)
      have S1 := Lib.hid ((At.new1 w (.cells #[.int .i64 n, .int .i64 r] 23) (.int .i64 t) (.int .i64 c) 25).on hb)
      clear hb
      obtain ⟨l0, c0, d0⟩ := P1.out
      go_wp2_with (fail)
      refine (K2.out _).mono ?_
      rintro e w2 ⟨rfl, hb⟩
      have H2 := Lib.hid (below_on (below_new H1.out) hb)
      have P2 := Lib.hid ((P1.out.push _).on hb)
      have S2 := Lib.hid ((S1.out.push _).on hb)
      have X2 := Lib.hid ((At.new _ _ _ _).on hb)
      clear P1 S1 H1 l0 c0 d0
      clear hb
      obtain ⟨l0, c0, d0⟩ := X2.out
      go_wp2_with (fail)
      refine (R1.out _).mono ?_
      rintro e w3 ⟨rfl, hb⟩
      have H3 := Lib.hid (below_on (below_new H2.out) hb)
      have P3 := Lib.hid ((P2.out.push _).on hb)
      have S3 := Lib.hid ((S2.out.push _).on hb)
      have X3 := Lib.hid ((X2.out.push _).on hb)
      have Y3 := Lib.hid ((At.new _ _ _ _).on hb)
      clear P2 S2 X2 H2 l0 c0 d0
      clear hb
      obtain ⟨l0, c0, d0⟩ := P3.out
      obtain ⟨l1, c1, d1⟩ := X3.out
      go_wp2_with (fail)
      refine (C1.out _).mono ?_
      rintro e w4 ⟨rfl, hb⟩
      have H4 := Lib.hid (below_on (H3.out) hb)
      have P4 := Lib.hid (P3.out.on hb)
      have S4 := Lib.hid (S3.out.on hb)
      have X4 := Lib.hid (X3.out.on hb)
      have Y4 := Lib.hid (Y3.out.on hb)
      clear P3 S3 X3 Y3 H3 l0 c0 d0 l1 c1 d1
      clear hb
      obtain ⟨l0, c0, d0⟩ := S4.out
      go_wp2_with (fail)
      refine (K3.out _).mono ?_
      rintro e w5 ⟨rfl, hb⟩
      have H5 := Lib.hid (below_on (H4.out) hb)
      have P5 := Lib.hid (P4.out.on hb)
      have S5 := Lib.hid (S4.out.on hb)
      have X5 := Lib.hid (X4.out.on hb)
      have Y5 := Lib.hid (Y4.out.on hb)
      clear P4 S4 X4 Y4 H4 l0 c0 d0
      clear hb
      obtain ⟨l0, c0, d0⟩ := S5.out
      go_wp2_with (fail)
      refine (K4.out _).mono ?_
      rintro e w6 ⟨rfl, hb⟩
      have H6 := Lib.hid (below_on (below_new H5.out) hb)
      have P6 := Lib.hid ((P5.out.push _).on hb)
      have S6 := Lib.hid ((S5.out.push _).on hb)
      have X6 := Lib.hid ((X5.out.push _).on hb)
      have Y6 := Lib.hid ((Y5.out.push _).on hb)
      have U6 := Lib.hid ((At.new _ _ _ _).on hb)
      clear P5 S5 X5 Y5 H5 l0 c0 d0
      clear hb
      obtain ⟨l0, c0, d0⟩ := U6.out
      go_wp2_with (fail)
      refine (R2.out _).mono ?_
      rintro e w7 ⟨rfl, hb⟩
      have H7 := Lib.hid (below_on (below_new H6.out) hb)
      have P7 := Lib.hid ((P6.out.push _).on hb)
      have S7 := Lib.hid ((S6.out.push _).on hb)
      have X7 := Lib.hid ((X6.out.push _).on hb)
      have Y7 := Lib.hid ((Y6.out.push _).on hb)
      have U7 := Lib.hid ((U6.out.push _).on hb)
      have V7 := Lib.hid ((At.new _ _ _ _).on hb)
      clear P6 S6 X6 Y6 U6 H6 l0 c0 d0
      clear hb
      obtain ⟨l0, c0, d0⟩ := S7.out
      obtain ⟨l1, c1, d1⟩ := U7.out
      go_wp2_with (fail)
      refine (C2.out _).mono ?_
      rintro e w8 ⟨rfl, hb⟩
      have H8 := Lib.hid (below_on (H7.out) hb)
      have P8 := Lib.hid (P7.out.on hb)
      have S8 := Lib.hid (S7.out.on hb)
      have X8 := Lib.hid (X7.out.on hb)
      have Y8 := Lib.hid (Y7.out.on hb)
      have U8 := Lib.hid (U7.out.on hb)
      have V8 := Lib.hid (V7.out.on hb)
      clear P7 S7 X7 Y7 U7 V7 H7 l0 c0 d0 l1 c1 d1
      clear hb
      obtain ⟨l0, c0, d0⟩ := U8.out
      obtain ⟨l1, c1, d1⟩ := V8.out
      go_wp2_with (fail)
      refine (awake_any _).mono ?_
      rintro e w9 ⟨rfl, hb⟩
      have H9 := Lib.hid (below_on (H8.out) hb)
      have P9 := Lib.hid (P8.out.on hb)
      have S9 := Lib.hid (S8.out.on hb)
      have X9 := Lib.hid (X8.out.on hb)
      have Y9 := Lib.hid (Y8.out.on hb)
      have U9 := Lib.hid (U8.out.on hb)
      have V9 := Lib.hid (V8.out.on hb)
      clear P8 S8 X8 Y8 U8 V8 H8 l0 c0 d0 l1 c1 d1
      clear hb
      go_wp2
      go_ret
      exact ⟨rfl, H9.out⟩
    · skip
      have K1 := Lib.hid (nextBallot_ok (M.ne_zero hE).1 (M.ne_zero hE).2)
      have R1 := Lib.hid (rightBallot_yes (M.next_right hE))
      have C1 := Lib.hid (compareBallots_lt (a := n) (b := r) (c := n + 1) (d := k) (by omega))
      have K2 := Lib.hid (show ∀ w, Calls Try.prog 24 #[.agg #[.int .i64 n, .int .i64 r], .int .i64 j] w fun e w' => e = .returned (.tuple #[.agg #[.int .i64 (M.nx n r j 6), .int .i64 (M.ny n r j 6)], .int .i64 (M.ne n r j 6)]) ∧ Below w.heap.size w w' from fun w => nextBallot_any n r j w)
      have K3 := Lib.hid (nextStamp_ok (M.ne_zero hG).1 (M.ne_zero hG).2)
      have R2 := Lib.hid (rightStamp_yes (M.next_right hG))
      have C2 := Lib.hid (compareStamps_lt (a := t) (b := c) (c := t + 1) (d := k) (by omega))
      have K4 := Lib.hid (show ∀ w, Calls Try.prog 26 #[.agg #[.int .i64 t, .int .i64 c], .int .i64 j] w fun e w' => e = .returned (.tuple #[.agg #[.int .i64 (M.nx t c j 3), .int .i64 (M.ny t c j 3)], .int .i64 (M.ne t c j 3)]) ∧ Below w.heap.size w w' from fun w => nextStamp_any t c j w)
      clear hE hG
      go_enter Try.func7, Try.ntmps7
      go_wp2_with (fail)
      refine (K1.out _).mono ?_
      rintro e w1 ⟨rfl, hb⟩
      have H1 := Lib.hid (below_on (below_new (below_new (Below.refl _ _))) hb)
      have P1 := Lib.hid (((At.new w (.int .i64 n) (.int .i64 r) 23).push (.cells #[.int .i64 t, .int .i64 c] 25)).on hb)
      have S1 := Lib.hid ((At.new1 w (.cells #[.int .i64 n, .int .i64 r] 23) (.int .i64 t) (.int .i64 c) 25).on hb)
      clear hb
      obtain ⟨l0, c0, d0⟩ := P1.out
      go_wp2_with (fail)
      refine (K2.out _).mono ?_
      rintro e w2 ⟨rfl, hb⟩
      have H2 := Lib.hid (below_on (below_new H1.out) hb)
      have P2 := Lib.hid ((P1.out.push _).on hb)
      have S2 := Lib.hid ((S1.out.push _).on hb)
      have X2 := Lib.hid ((At.new _ _ _ _).on hb)
      clear P1 S1 H1 l0 c0 d0
      clear hb
      obtain ⟨l0, c0, d0⟩ := X2.out
      go_wp2_with (fail)
      refine (R1.out _).mono ?_
      rintro e w3 ⟨rfl, hb⟩
      have H3 := Lib.hid (below_on (below_new H2.out) hb)
      have P3 := Lib.hid ((P2.out.push _).on hb)
      have S3 := Lib.hid ((S2.out.push _).on hb)
      have X3 := Lib.hid ((X2.out.push _).on hb)
      have Y3 := Lib.hid ((At.new _ _ _ _).on hb)
      clear P2 S2 X2 H2 l0 c0 d0
      clear hb
      obtain ⟨l0, c0, d0⟩ := P3.out
      obtain ⟨l1, c1, d1⟩ := X3.out
      go_wp2_with (fail)
      refine (C1.out _).mono ?_
      rintro e w4 ⟨rfl, hb⟩
      have H4 := Lib.hid (below_on (H3.out) hb)
      have P4 := Lib.hid (P3.out.on hb)
      have S4 := Lib.hid (S3.out.on hb)
      have X4 := Lib.hid (X3.out.on hb)
      have Y4 := Lib.hid (Y3.out.on hb)
      clear P3 S3 X3 Y3 H3 l0 c0 d0 l1 c1 d1
      clear hb
      obtain ⟨l0, c0, d0⟩ := S4.out
      go_wp2_with (fail)
      refine (K3.out _).mono ?_
      rintro e w5 ⟨rfl, hb⟩
      have H5 := Lib.hid (below_on (H4.out) hb)
      have P5 := Lib.hid (P4.out.on hb)
      have S5 := Lib.hid (S4.out.on hb)
      have X5 := Lib.hid (X4.out.on hb)
      have Y5 := Lib.hid (Y4.out.on hb)
      clear P4 S4 X4 Y4 H4 l0 c0 d0
      clear hb
      obtain ⟨l0, c0, d0⟩ := S5.out
      go_wp2_with (fail)
      refine (K4.out _).mono ?_
      rintro e w6 ⟨rfl, hb⟩
      have H6 := Lib.hid (below_on (below_new H5.out) hb)
      have P6 := Lib.hid ((P5.out.push _).on hb)
      have S6 := Lib.hid ((S5.out.push _).on hb)
      have X6 := Lib.hid ((X5.out.push _).on hb)
      have Y6 := Lib.hid ((Y5.out.push _).on hb)
      have U6 := Lib.hid ((At.new _ _ _ _).on hb)
      clear P5 S5 X5 Y5 H5 l0 c0 d0
      clear hb
      obtain ⟨l0, c0, d0⟩ := U6.out
      go_wp2_with (fail)
      refine (R2.out _).mono ?_
      rintro e w7 ⟨rfl, hb⟩
      have H7 := Lib.hid (below_on (below_new H6.out) hb)
      have P7 := Lib.hid ((P6.out.push _).on hb)
      have S7 := Lib.hid ((S6.out.push _).on hb)
      have X7 := Lib.hid ((X6.out.push _).on hb)
      have Y7 := Lib.hid ((Y6.out.push _).on hb)
      have U7 := Lib.hid ((U6.out.push _).on hb)
      have V7 := Lib.hid ((At.new _ _ _ _).on hb)
      clear P6 S6 X6 Y6 U6 H6 l0 c0 d0
      clear hb
      obtain ⟨l0, c0, d0⟩ := S7.out
      obtain ⟨l1, c1, d1⟩ := U7.out
      go_wp2_with (fail)
      refine (C2.out _).mono ?_
      rintro e w8 ⟨rfl, hb⟩
      have H8 := Lib.hid (below_on (H7.out) hb)
      have P8 := Lib.hid (P7.out.on hb)
      have S8 := Lib.hid (S7.out.on hb)
      have X8 := Lib.hid (X7.out.on hb)
      have Y8 := Lib.hid (Y7.out.on hb)
      have U8 := Lib.hid (U7.out.on hb)
      have V8 := Lib.hid (V7.out.on hb)
      clear P7 S7 X7 Y7 U7 V7 H7 l0 c0 d0 l1 c1 d1
      clear hb
      go_wp2_with (fail)
      refine (awake_any _).mono ?_
      rintro e w9 ⟨rfl, hb⟩
      have H9 := Lib.hid (below_on (H8.out) hb)
      have P9 := Lib.hid (P8.out.on hb)
      have S9 := Lib.hid (S8.out.on hb)
      have X9 := Lib.hid (X8.out.on hb)
      have Y9 := Lib.hid (Y8.out.on hb)
      have U9 := Lib.hid (U8.out.on hb)
      have V9 := Lib.hid (V8.out.on hb)
      clear P8 S8 X8 Y8 U8 V8 H8
      clear hb
      go_wp2
      go_ret
      exact ⟨rfl, H9.out⟩
  · skip
    have K1 := Lib.hid (nextBallot_ok (M.ne_zero hE).1 (M.ne_zero hE).2)
    have R1 := Lib.hid (rightBallot_yes (M.next_right hE))
    have C1 := Lib.hid (compareBallots_lt (a := n) (b := r) (c := n + 1) (d := k) (by omega))
    have K2 := Lib.hid (show ∀ w, Calls Try.prog 24 #[.agg #[.int .i64 n, .int .i64 r], .int .i64 j] w fun e w' => e = .returned (.tuple #[.agg #[.int .i64 (M.nx n r j 6), .int .i64 (M.ny n r j 6)], .int .i64 (M.ne n r j 6)]) ∧ Below w.heap.size w w' from fun w => nextBallot_any n r j w)
    have K3 := Lib.hid (show ∀ w, Calls Try.prog 26 #[.agg #[.int .i64 t, .int .i64 c], .int .i64 k] w fun e w' => e = .returned (.tuple #[.agg #[.int .i64 (M.nx t c k 3), .int .i64 (M.ny t c k 3)], .int .i64 (M.ne t c k 3)]) ∧ Below w.heap.size w w' from fun w => nextStamp_any t c k w)
    have K4 := Lib.hid (show ∀ w, Calls Try.prog 26 #[.agg #[.int .i64 t, .int .i64 c], .int .i64 j] w fun e w' => e = .returned (.tuple #[.agg #[.int .i64 (M.nx t c j 3), .int .i64 (M.ny t c j 3)], .int .i64 (M.ne t c j 3)]) ∧ Below w.heap.size w w' from fun w => nextStamp_any t c j w)
    clear hE
    go_enter Try.func7, Try.ntmps7
    go_wp2_with (fail)
    refine (K1.out _).mono ?_
    rintro e w1 ⟨rfl, hb⟩
    have H1 := Lib.hid (below_on (below_new (below_new (Below.refl _ _))) hb)
    have P1 := Lib.hid (((At.new w (.int .i64 n) (.int .i64 r) 23).push (.cells #[.int .i64 t, .int .i64 c] 25)).on hb)
    have S1 := Lib.hid ((At.new1 w (.cells #[.int .i64 n, .int .i64 r] 23) (.int .i64 t) (.int .i64 c) 25).on hb)
    clear hb
    obtain ⟨l0, c0, d0⟩ := P1.out
    go_wp2_with (fail)
    refine (K2.out _).mono ?_
    rintro e w2 ⟨rfl, hb⟩
    have H2 := Lib.hid (below_on (below_new H1.out) hb)
    have P2 := Lib.hid ((P1.out.push _).on hb)
    have S2 := Lib.hid ((S1.out.push _).on hb)
    have X2 := Lib.hid ((At.new _ _ _ _).on hb)
    clear P1 S1 H1 l0 c0 d0
    clear hb
    obtain ⟨l0, c0, d0⟩ := X2.out
    go_wp2_with (fail)
    refine (R1.out _).mono ?_
    rintro e w3 ⟨rfl, hb⟩
    have H3 := Lib.hid (below_on (below_new H2.out) hb)
    have P3 := Lib.hid ((P2.out.push _).on hb)
    have S3 := Lib.hid ((S2.out.push _).on hb)
    have X3 := Lib.hid ((X2.out.push _).on hb)
    have Y3 := Lib.hid ((At.new _ _ _ _).on hb)
    clear P2 S2 X2 H2 l0 c0 d0
    clear hb
    obtain ⟨l0, c0, d0⟩ := P3.out
    obtain ⟨l1, c1, d1⟩ := X3.out
    go_wp2_with (fail)
    refine (C1.out _).mono ?_
    rintro e w4 ⟨rfl, hb⟩
    have H4 := Lib.hid (below_on (H3.out) hb)
    have P4 := Lib.hid (P3.out.on hb)
    have S4 := Lib.hid (S3.out.on hb)
    have X4 := Lib.hid (X3.out.on hb)
    have Y4 := Lib.hid (Y3.out.on hb)
    clear P3 S3 X3 Y3 H3 l0 c0 d0 l1 c1 d1
    clear hb
    obtain ⟨l0, c0, d0⟩ := S4.out
    go_wp2_with (fail)
    refine (K3.out _).mono ?_
    rintro e w5 ⟨rfl, hb⟩
    have H5 := Lib.hid (below_on (H4.out) hb)
    have P5 := Lib.hid (P4.out.on hb)
    have S5 := Lib.hid (S4.out.on hb)
    have X5 := Lib.hid (X4.out.on hb)
    have Y5 := Lib.hid (Y4.out.on hb)
    clear P4 S4 X4 Y4 H4 l0 c0 d0
    clear hb
    obtain ⟨l0, c0, d0⟩ := S5.out
    go_wp2_with (fail)
    refine (K4.out _).mono ?_
    rintro e w6 ⟨rfl, hb⟩
    have H6 := Lib.hid (below_on (below_new H5.out) hb)
    have P6 := Lib.hid ((P5.out.push _).on hb)
    have S6 := Lib.hid ((S5.out.push _).on hb)
    have X6 := Lib.hid ((X5.out.push _).on hb)
    have Y6 := Lib.hid ((Y5.out.push _).on hb)
    have U6 := Lib.hid ((At.new _ _ _ _).on hb)
    clear P5 S5 X5 Y5 H5 l0 c0 d0
    clear hb
    go_wp2_with (fail)
    refine (awake_any _).mono ?_
    rintro e w7 ⟨rfl, hb⟩
    have H7 := Lib.hid (below_on (below_new H6.out) hb)
    have P7 := Lib.hid ((P6.out.push _).on hb)
    have S7 := Lib.hid ((S6.out.push _).on hb)
    have X7 := Lib.hid ((X6.out.push _).on hb)
    have Y7 := Lib.hid ((Y6.out.push _).on hb)
    have U7 := Lib.hid ((U6.out.push _).on hb)
    have V7 := Lib.hid ((At.new _ _ _ _).on hb)
    clear P6 S6 X6 Y6 U6 H6
    clear hb
    go_wp2
    go_ret
    exact ⟨rfl, H7.out⟩

set_option maxHeartbeats 4000000 in
theorem behind_3s (n r t c k : Int) (w : World) (hE : M.ne n r k 6 = 0) :
    Calls Try.prog 7 #[.agg #[.int .i64 n, .int .i64 r], .agg #[.int .i64 t, .int .i64 c], .int .i64 k, .int .i64 k] w fun e w' => e = .returned (.bool true) ∧ Below w.heap.size w w' := by
  by_cases hG : M.ne t c k 3 = 0
  · skip
    have K1 := Lib.hid (nextBallot_ok (M.ne_zero hE).1 (M.ne_zero hE).2)
    have R1 := Lib.hid (rightBallot_yes (M.next_right hE))
    have C1 := Lib.hid (compareBallots_lt (a := n) (b := r) (c := n + 1) (d := k) (by omega))
    have K2 := K1
    have K3 := Lib.hid (nextStamp_ok (M.ne_zero hG).1 (M.ne_zero hG).2)
    have R2 := Lib.hid (rightStamp_yes (M.next_right hG))
    have C2 := Lib.hid (compareStamps_lt (a := t) (b := c) (c := t + 1) (d := k) (by omega))
    have K4 := K3
    clear hE hG
    go_enter Try.func7, Try.ntmps7
    go_wp2_with (fail)
    refine (K1.out _).mono ?_
    rintro e w1 ⟨rfl, hb⟩
    have H1 := Lib.hid (below_on (below_new (below_new (Below.refl _ _))) hb)
    have P1 := Lib.hid (((At.new w (.int .i64 n) (.int .i64 r) 23).push (.cells #[.int .i64 t, .int .i64 c] 25)).on hb)
    have S1 := Lib.hid ((At.new1 w (.cells #[.int .i64 n, .int .i64 r] 23) (.int .i64 t) (.int .i64 c) 25).on hb)
    clear hb
    obtain ⟨l0, c0, d0⟩ := P1.out
    go_wp2_with (fail)
    refine (K2.out _).mono ?_
    rintro e w2 ⟨rfl, hb⟩
    have H2 := Lib.hid (below_on (below_new H1.out) hb)
    have P2 := Lib.hid ((P1.out.push _).on hb)
    have S2 := Lib.hid ((S1.out.push _).on hb)
    have X2 := Lib.hid ((At.new _ _ _ _).on hb)
    clear P1 S1 H1 l0 c0 d0
    clear hb
    obtain ⟨l0, c0, d0⟩ := X2.out
    go_wp2_with (fail)
    refine (R1.out _).mono ?_
    rintro e w3 ⟨rfl, hb⟩
    have H3 := Lib.hid (below_on (below_new H2.out) hb)
    have P3 := Lib.hid ((P2.out.push _).on hb)
    have S3 := Lib.hid ((S2.out.push _).on hb)
    have X3 := Lib.hid ((X2.out.push _).on hb)
    have Y3 := Lib.hid ((At.new _ _ _ _).on hb)
    clear P2 S2 X2 H2 l0 c0 d0
    clear hb
    obtain ⟨l0, c0, d0⟩ := P3.out
    obtain ⟨l1, c1, d1⟩ := X3.out
    go_wp2_with (fail)
    refine (C1.out _).mono ?_
    rintro e w4 ⟨rfl, hb⟩
    have H4 := Lib.hid (below_on (H3.out) hb)
    have P4 := Lib.hid (P3.out.on hb)
    have S4 := Lib.hid (S3.out.on hb)
    have X4 := Lib.hid (X3.out.on hb)
    have Y4 := Lib.hid (Y3.out.on hb)
    clear P3 S3 X3 Y3 H3 l0 c0 d0 l1 c1 d1
    clear hb
    obtain ⟨l0, c0, d0⟩ := S4.out
    go_wp2_with (fail)
    refine (K3.out _).mono ?_
    rintro e w5 ⟨rfl, hb⟩
    have H5 := Lib.hid (below_on (H4.out) hb)
    have P5 := Lib.hid (P4.out.on hb)
    have S5 := Lib.hid (S4.out.on hb)
    have X5 := Lib.hid (X4.out.on hb)
    have Y5 := Lib.hid (Y4.out.on hb)
    clear P4 S4 X4 Y4 H4 l0 c0 d0
    clear hb
    obtain ⟨l0, c0, d0⟩ := S5.out
    go_wp2_with (fail)
    refine (K4.out _).mono ?_
    rintro e w6 ⟨rfl, hb⟩
    have H6 := Lib.hid (below_on (below_new H5.out) hb)
    have P6 := Lib.hid ((P5.out.push _).on hb)
    have S6 := Lib.hid ((S5.out.push _).on hb)
    have X6 := Lib.hid ((X5.out.push _).on hb)
    have Y6 := Lib.hid ((Y5.out.push _).on hb)
    have U6 := Lib.hid ((At.new _ _ _ _).on hb)
    clear P5 S5 X5 Y5 H5 l0 c0 d0
    clear hb
    obtain ⟨l0, c0, d0⟩ := U6.out
    go_wp2_with (fail)
    refine (R2.out _).mono ?_
    rintro e w7 ⟨rfl, hb⟩
    have H7 := Lib.hid (below_on (below_new H6.out) hb)
    have P7 := Lib.hid ((P6.out.push _).on hb)
    have S7 := Lib.hid ((S6.out.push _).on hb)
    have X7 := Lib.hid ((X6.out.push _).on hb)
    have Y7 := Lib.hid ((Y6.out.push _).on hb)
    have U7 := Lib.hid ((U6.out.push _).on hb)
    have V7 := Lib.hid ((At.new _ _ _ _).on hb)
    clear P6 S6 X6 Y6 U6 H6 l0 c0 d0
    clear hb
    obtain ⟨l0, c0, d0⟩ := S7.out
    obtain ⟨l1, c1, d1⟩ := U7.out
    go_wp2_with (fail)
    refine (C2.out _).mono ?_
    rintro e w8 ⟨rfl, hb⟩
    have H8 := Lib.hid (below_on (H7.out) hb)
    have P8 := Lib.hid (P7.out.on hb)
    have S8 := Lib.hid (S7.out.on hb)
    have X8 := Lib.hid (X7.out.on hb)
    have Y8 := Lib.hid (Y7.out.on hb)
    have U8 := Lib.hid (U7.out.on hb)
    have V8 := Lib.hid (V7.out.on hb)
    clear P7 S7 X7 Y7 U7 V7 H7 l0 c0 d0 l1 c1 d1
    clear hb
    go_wp2_with (fail)
    refine (awake_any _).mono ?_
    rintro e w9 ⟨rfl, hb⟩
    have H9 := Lib.hid (below_on (H8.out) hb)
    have P9 := Lib.hid (P8.out.on hb)
    have S9 := Lib.hid (S8.out.on hb)
    have X9 := Lib.hid (X8.out.on hb)
    have Y9 := Lib.hid (Y8.out.on hb)
    have U9 := Lib.hid (U8.out.on hb)
    have V9 := Lib.hid (V8.out.on hb)
    clear P8 S8 X8 Y8 U8 V8 H8
    clear hb
    go_wp2
    go_ret
    exact ⟨rfl, H9.out⟩
  · skip
    have K1 := Lib.hid (nextBallot_ok (M.ne_zero hE).1 (M.ne_zero hE).2)
    have R1 := Lib.hid (rightBallot_yes (M.next_right hE))
    have C1 := Lib.hid (compareBallots_lt (a := n) (b := r) (c := n + 1) (d := k) (by omega))
    have K2 := K1
    have K3 := Lib.hid (show ∀ w, Calls Try.prog 26 #[.agg #[.int .i64 t, .int .i64 c], .int .i64 k] w fun e w' => e = .returned (.tuple #[.agg #[.int .i64 (M.nx t c k 3), .int .i64 (M.ny t c k 3)], .int .i64 (M.ne t c k 3)]) ∧ Below w.heap.size w w' from fun w => nextStamp_any t c k w)
    have K4 := Lib.hid (show ∀ w, Calls Try.prog 26 #[.agg #[.int .i64 t, .int .i64 c], .int .i64 k] w fun e w' => e = .returned (.tuple #[.agg #[.int .i64 (M.nx t c k 3), .int .i64 (M.ny t c k 3)], .int .i64 (M.ne t c k 3)]) ∧ Below w.heap.size w w' from fun w => nextStamp_any t c k w)
    clear hE
    go_enter Try.func7, Try.ntmps7
    go_wp2_with (fail)
    refine (K1.out _).mono ?_
    rintro e w1 ⟨rfl, hb⟩
    have H1 := Lib.hid (below_on (below_new (below_new (Below.refl _ _))) hb)
    have P1 := Lib.hid (((At.new w (.int .i64 n) (.int .i64 r) 23).push (.cells #[.int .i64 t, .int .i64 c] 25)).on hb)
    have S1 := Lib.hid ((At.new1 w (.cells #[.int .i64 n, .int .i64 r] 23) (.int .i64 t) (.int .i64 c) 25).on hb)
    clear hb
    obtain ⟨l0, c0, d0⟩ := P1.out
    go_wp2_with (fail)
    refine (K2.out _).mono ?_
    rintro e w2 ⟨rfl, hb⟩
    have H2 := Lib.hid (below_on (below_new H1.out) hb)
    have P2 := Lib.hid ((P1.out.push _).on hb)
    have S2 := Lib.hid ((S1.out.push _).on hb)
    have X2 := Lib.hid ((At.new _ _ _ _).on hb)
    clear P1 S1 H1 l0 c0 d0
    clear hb
    obtain ⟨l0, c0, d0⟩ := X2.out
    go_wp2_with (fail)
    refine (R1.out _).mono ?_
    rintro e w3 ⟨rfl, hb⟩
    have H3 := Lib.hid (below_on (below_new H2.out) hb)
    have P3 := Lib.hid ((P2.out.push _).on hb)
    have S3 := Lib.hid ((S2.out.push _).on hb)
    have X3 := Lib.hid ((X2.out.push _).on hb)
    have Y3 := Lib.hid ((At.new _ _ _ _).on hb)
    clear P2 S2 X2 H2 l0 c0 d0
    clear hb
    obtain ⟨l0, c0, d0⟩ := P3.out
    obtain ⟨l1, c1, d1⟩ := X3.out
    go_wp2_with (fail)
    refine (C1.out _).mono ?_
    rintro e w4 ⟨rfl, hb⟩
    have H4 := Lib.hid (below_on (H3.out) hb)
    have P4 := Lib.hid (P3.out.on hb)
    have S4 := Lib.hid (S3.out.on hb)
    have X4 := Lib.hid (X3.out.on hb)
    have Y4 := Lib.hid (Y3.out.on hb)
    clear P3 S3 X3 Y3 H3 l0 c0 d0 l1 c1 d1
    clear hb
    obtain ⟨l0, c0, d0⟩ := S4.out
    go_wp2_with (fail)
    refine (K3.out _).mono ?_
    rintro e w5 ⟨rfl, hb⟩
    have H5 := Lib.hid (below_on (H4.out) hb)
    have P5 := Lib.hid (P4.out.on hb)
    have S5 := Lib.hid (S4.out.on hb)
    have X5 := Lib.hid (X4.out.on hb)
    have Y5 := Lib.hid (Y4.out.on hb)
    clear P4 S4 X4 Y4 H4 l0 c0 d0
    clear hb
    obtain ⟨l0, c0, d0⟩ := S5.out
    go_wp2_with (fail)
    refine (K4.out _).mono ?_
    rintro e w6 ⟨rfl, hb⟩
    have H6 := Lib.hid (below_on (below_new H5.out) hb)
    have P6 := Lib.hid ((P5.out.push _).on hb)
    have S6 := Lib.hid ((S5.out.push _).on hb)
    have X6 := Lib.hid ((X5.out.push _).on hb)
    have Y6 := Lib.hid ((Y5.out.push _).on hb)
    have U6 := Lib.hid ((At.new _ _ _ _).on hb)
    clear P5 S5 X5 Y5 H5 l0 c0 d0
    clear hb
    go_wp2_with (fail)
    refine (awake_any _).mono ?_
    rintro e w7 ⟨rfl, hb⟩
    have H7 := Lib.hid (below_on (below_new H6.out) hb)
    have P7 := Lib.hid ((P6.out.push _).on hb)
    have S7 := Lib.hid ((S6.out.push _).on hb)
    have X7 := Lib.hid ((X6.out.push _).on hb)
    have Y7 := Lib.hid ((Y6.out.push _).on hb)
    have U7 := Lib.hid ((U6.out.push _).on hb)
    have V7 := Lib.hid ((At.new _ _ _ _).on hb)
    clear P6 S6 X6 Y6 U6 H6
    clear hb
    go_wp2
    go_ret
    exact ⟨rfl, H7.out⟩

set_option maxHeartbeats 4000000 in
theorem behind_4s (n r t c k j : Int) (w : World) (hE : M.ne n r k 6 = 0) (hF : M.ne n r j 6 = 0) (hk : ¬ k = j) :
    Calls Try.prog 7 #[.agg #[.int .i64 n, .int .i64 r], .agg #[.int .i64 t, .int .i64 c], .int .i64 k, .int .i64 j] w fun e w' => e = .returned (.bool true) ∧ Below w.heap.size w w' := by
  by_cases hG : M.ne t c k 3 = 0
  · by_cases hH : M.ne t c j 3 = 0
    · skip
      have K1 := Lib.hid (nextBallot_ok (M.ne_zero hE).1 (M.ne_zero hE).2)
      have R1 := Lib.hid (rightBallot_yes (M.next_right hE))
      have C1 := Lib.hid (compareBallots_lt (a := n) (b := r) (c := n + 1) (d := k) (by omega))
      have K2 := Lib.hid (nextBallot_ok (M.ne_zero hF).1 (M.ne_zero hF).2)
      have K3 := Lib.hid (nextStamp_ok (M.ne_zero hG).1 (M.ne_zero hG).2)
      have R2 := Lib.hid (rightStamp_yes (M.next_right hG))
      have C2 := Lib.hid (compareStamps_lt (a := t) (b := c) (c := t + 1) (d := k) (by omega))
      have K4 := Lib.hid (nextStamp_ok (M.ne_zero hH).1 (M.ne_zero hH).2)
      clear hE hF hG hH
      go_enter Try.func7, Try.ntmps7
      go_wp2_with (fail)
      refine (K1.out _).mono ?_
      rintro e w1 ⟨rfl, hb⟩
      have H1 := Lib.hid (below_on (below_new (below_new (Below.refl _ _))) hb)
      have P1 := Lib.hid (((At.new w (.int .i64 n) (.int .i64 r) 23).push (.cells #[.int .i64 t, .int .i64 c] 25)).on hb)
      have S1 := Lib.hid ((At.new1 w (.cells #[.int .i64 n, .int .i64 r] 23) (.int .i64 t) (.int .i64 c) 25).on hb)
      clear hb
      obtain ⟨l0, c0, d0⟩ := P1.out
      go_wp2_with (fail)
      refine (K2.out _).mono ?_
      rintro e w2 ⟨rfl, hb⟩
      have H2 := Lib.hid (below_on (below_new H1.out) hb)
      have P2 := Lib.hid ((P1.out.push _).on hb)
      have S2 := Lib.hid ((S1.out.push _).on hb)
      have X2 := Lib.hid ((At.new _ _ _ _).on hb)
      clear P1 S1 H1 l0 c0 d0
      clear hb
      obtain ⟨l0, c0, d0⟩ := X2.out
      go_wp2_with (fail)
      refine (R1.out _).mono ?_
      rintro e w3 ⟨rfl, hb⟩
      have H3 := Lib.hid (below_on (below_new H2.out) hb)
      have P3 := Lib.hid ((P2.out.push _).on hb)
      have S3 := Lib.hid ((S2.out.push _).on hb)
      have X3 := Lib.hid ((X2.out.push _).on hb)
      have Y3 := Lib.hid ((At.new _ _ _ _).on hb)
      clear P2 S2 X2 H2 l0 c0 d0
      clear hb
      obtain ⟨l0, c0, d0⟩ := P3.out
      obtain ⟨l1, c1, d1⟩ := X3.out
      go_wp2_with (fail)
      refine (C1.out _).mono ?_
      rintro e w4 ⟨rfl, hb⟩
      have H4 := Lib.hid (below_on (H3.out) hb)
      have P4 := Lib.hid (P3.out.on hb)
      have S4 := Lib.hid (S3.out.on hb)
      have X4 := Lib.hid (X3.out.on hb)
      have Y4 := Lib.hid (Y3.out.on hb)
      clear P3 S3 X3 Y3 H3 l0 c0 d0 l1 c1 d1
      clear hb
      obtain ⟨l0, c0, d0⟩ := S4.out
      obtain ⟨l1, c1, d1⟩ := X4.out
      obtain ⟨l2, c2, d2⟩ := Y4.out
      go_wp2_with (fail)
      refine (K3.out _).mono ?_
      rintro e w5 ⟨rfl, hb⟩
      have H5 := Lib.hid (below_on (H4.out) hb)
      have P5 := Lib.hid (P4.out.on hb)
      have S5 := Lib.hid (S4.out.on hb)
      have X5 := Lib.hid (X4.out.on hb)
      have Y5 := Lib.hid (Y4.out.on hb)
      clear P4 S4 X4 Y4 H4 l0 c0 d0 l1 c1 d1 l2 c2 d2
      clear hb
      obtain ⟨l0, c0, d0⟩ := S5.out
      go_wp2_with (fail)
      refine (K4.out _).mono ?_
      rintro e w6 ⟨rfl, hb⟩
      have H6 := Lib.hid (below_on (below_new H5.out) hb)
      have P6 := Lib.hid ((P5.out.push _).on hb)
      have S6 := Lib.hid ((S5.out.push _).on hb)
      have X6 := Lib.hid ((X5.out.push _).on hb)
      have Y6 := Lib.hid ((Y5.out.push _).on hb)
      have U6 := Lib.hid ((At.new _ _ _ _).on hb)
      clear P5 S5 X5 Y5 H5 l0 c0 d0
      clear hb
      obtain ⟨l0, c0, d0⟩ := U6.out
      go_wp2_with (fail)
      refine (R2.out _).mono ?_
      rintro e w7 ⟨rfl, hb⟩
      have H7 := Lib.hid (below_on (below_new H6.out) hb)
      have P7 := Lib.hid ((P6.out.push _).on hb)
      have S7 := Lib.hid ((S6.out.push _).on hb)
      have X7 := Lib.hid ((X6.out.push _).on hb)
      have Y7 := Lib.hid ((Y6.out.push _).on hb)
      have U7 := Lib.hid ((U6.out.push _).on hb)
      have V7 := Lib.hid ((At.new _ _ _ _).on hb)
      clear P6 S6 X6 Y6 U6 H6 l0 c0 d0
      clear hb
      obtain ⟨l0, c0, d0⟩ := S7.out
      obtain ⟨l1, c1, d1⟩ := U7.out
      go_wp2_with (fail)
      refine (C2.out _).mono ?_
      rintro e w8 ⟨rfl, hb⟩
      have H8 := Lib.hid (below_on (H7.out) hb)
      have P8 := Lib.hid (P7.out.on hb)
      have S8 := Lib.hid (S7.out.on hb)
      have X8 := Lib.hid (X7.out.on hb)
      have Y8 := Lib.hid (Y7.out.on hb)
      have U8 := Lib.hid (U7.out.on hb)
      have V8 := Lib.hid (V7.out.on hb)
      clear P7 S7 X7 Y7 U7 V7 H7 l0 c0 d0 l1 c1 d1
      clear hb
      obtain ⟨l0, c0, d0⟩ := U8.out
      obtain ⟨l1, c1, d1⟩ := V8.out
      go_wp2_with (fail)
      refine (awake_any _).mono ?_
      rintro e w9 ⟨rfl, hb⟩
      have H9 := Lib.hid (below_on (H8.out) hb)
      have P9 := Lib.hid (P8.out.on hb)
      have S9 := Lib.hid (S8.out.on hb)
      have X9 := Lib.hid (X8.out.on hb)
      have Y9 := Lib.hid (Y8.out.on hb)
      have U9 := Lib.hid (U8.out.on hb)
      have V9 := Lib.hid (V8.out.on hb)
      clear P8 S8 X8 Y8 U8 V8 H8 l0 c0 d0 l1 c1 d1
      clear hb
      go_wp2
      go_ret
      exact ⟨rfl, H9.out⟩
    · skip
      have K1 := Lib.hid (nextBallot_ok (M.ne_zero hE).1 (M.ne_zero hE).2)
      have R1 := Lib.hid (rightBallot_yes (M.next_right hE))
      have C1 := Lib.hid (compareBallots_lt (a := n) (b := r) (c := n + 1) (d := k) (by omega))
      have K2 := Lib.hid (nextBallot_ok (M.ne_zero hF).1 (M.ne_zero hF).2)
      have K3 := Lib.hid (nextStamp_ok (M.ne_zero hG).1 (M.ne_zero hG).2)
      have R2 := Lib.hid (rightStamp_yes (M.next_right hG))
      have C2 := Lib.hid (compareStamps_lt (a := t) (b := c) (c := t + 1) (d := k) (by omega))
      have K4 := Lib.hid (show ∀ w, Calls Try.prog 26 #[.agg #[.int .i64 t, .int .i64 c], .int .i64 j] w fun e w' => e = .returned (.tuple #[.agg #[.int .i64 (M.nx t c j 3), .int .i64 (M.ny t c j 3)], .int .i64 (M.ne t c j 3)]) ∧ Below w.heap.size w w' from fun w => nextStamp_any t c j w)
      clear hE hF hG
      go_enter Try.func7, Try.ntmps7
      go_wp2_with (fail)
      refine (K1.out _).mono ?_
      rintro e w1 ⟨rfl, hb⟩
      have H1 := Lib.hid (below_on (below_new (below_new (Below.refl _ _))) hb)
      have P1 := Lib.hid (((At.new w (.int .i64 n) (.int .i64 r) 23).push (.cells #[.int .i64 t, .int .i64 c] 25)).on hb)
      have S1 := Lib.hid ((At.new1 w (.cells #[.int .i64 n, .int .i64 r] 23) (.int .i64 t) (.int .i64 c) 25).on hb)
      clear hb
      obtain ⟨l0, c0, d0⟩ := P1.out
      go_wp2_with (fail)
      refine (K2.out _).mono ?_
      rintro e w2 ⟨rfl, hb⟩
      have H2 := Lib.hid (below_on (below_new H1.out) hb)
      have P2 := Lib.hid ((P1.out.push _).on hb)
      have S2 := Lib.hid ((S1.out.push _).on hb)
      have X2 := Lib.hid ((At.new _ _ _ _).on hb)
      clear P1 S1 H1 l0 c0 d0
      clear hb
      obtain ⟨l0, c0, d0⟩ := X2.out
      go_wp2_with (fail)
      refine (R1.out _).mono ?_
      rintro e w3 ⟨rfl, hb⟩
      have H3 := Lib.hid (below_on (below_new H2.out) hb)
      have P3 := Lib.hid ((P2.out.push _).on hb)
      have S3 := Lib.hid ((S2.out.push _).on hb)
      have X3 := Lib.hid ((X2.out.push _).on hb)
      have Y3 := Lib.hid ((At.new _ _ _ _).on hb)
      clear P2 S2 X2 H2 l0 c0 d0
      clear hb
      obtain ⟨l0, c0, d0⟩ := P3.out
      obtain ⟨l1, c1, d1⟩ := X3.out
      go_wp2_with (fail)
      refine (C1.out _).mono ?_
      rintro e w4 ⟨rfl, hb⟩
      have H4 := Lib.hid (below_on (H3.out) hb)
      have P4 := Lib.hid (P3.out.on hb)
      have S4 := Lib.hid (S3.out.on hb)
      have X4 := Lib.hid (X3.out.on hb)
      have Y4 := Lib.hid (Y3.out.on hb)
      clear P3 S3 X3 Y3 H3 l0 c0 d0 l1 c1 d1
      clear hb
      obtain ⟨l0, c0, d0⟩ := S4.out
      obtain ⟨l1, c1, d1⟩ := X4.out
      obtain ⟨l2, c2, d2⟩ := Y4.out
      go_wp2_with (fail)
      refine (K3.out _).mono ?_
      rintro e w5 ⟨rfl, hb⟩
      have H5 := Lib.hid (below_on (H4.out) hb)
      have P5 := Lib.hid (P4.out.on hb)
      have S5 := Lib.hid (S4.out.on hb)
      have X5 := Lib.hid (X4.out.on hb)
      have Y5 := Lib.hid (Y4.out.on hb)
      clear P4 S4 X4 Y4 H4 l0 c0 d0 l1 c1 d1 l2 c2 d2
      clear hb
      obtain ⟨l0, c0, d0⟩ := S5.out
      go_wp2_with (fail)
      refine (K4.out _).mono ?_
      rintro e w6 ⟨rfl, hb⟩
      have H6 := Lib.hid (below_on (below_new H5.out) hb)
      have P6 := Lib.hid ((P5.out.push _).on hb)
      have S6 := Lib.hid ((S5.out.push _).on hb)
      have X6 := Lib.hid ((X5.out.push _).on hb)
      have Y6 := Lib.hid ((Y5.out.push _).on hb)
      have U6 := Lib.hid ((At.new _ _ _ _).on hb)
      clear P5 S5 X5 Y5 H5 l0 c0 d0
      clear hb
      obtain ⟨l0, c0, d0⟩ := U6.out
      go_wp2_with (fail)
      refine (R2.out _).mono ?_
      rintro e w7 ⟨rfl, hb⟩
      have H7 := Lib.hid (below_on (below_new H6.out) hb)
      have P7 := Lib.hid ((P6.out.push _).on hb)
      have S7 := Lib.hid ((S6.out.push _).on hb)
      have X7 := Lib.hid ((X6.out.push _).on hb)
      have Y7 := Lib.hid ((Y6.out.push _).on hb)
      have U7 := Lib.hid ((U6.out.push _).on hb)
      have V7 := Lib.hid ((At.new _ _ _ _).on hb)
      clear P6 S6 X6 Y6 U6 H6 l0 c0 d0
      clear hb
      obtain ⟨l0, c0, d0⟩ := S7.out
      obtain ⟨l1, c1, d1⟩ := U7.out
      go_wp2_with (fail)
      refine (C2.out _).mono ?_
      rintro e w8 ⟨rfl, hb⟩
      have H8 := Lib.hid (below_on (H7.out) hb)
      have P8 := Lib.hid (P7.out.on hb)
      have S8 := Lib.hid (S7.out.on hb)
      have X8 := Lib.hid (X7.out.on hb)
      have Y8 := Lib.hid (Y7.out.on hb)
      have U8 := Lib.hid (U7.out.on hb)
      have V8 := Lib.hid (V7.out.on hb)
      clear P7 S7 X7 Y7 U7 V7 H7 l0 c0 d0 l1 c1 d1
      clear hb
      go_wp2_with (fail)
      refine (awake_any _).mono ?_
      rintro e w9 ⟨rfl, hb⟩
      have H9 := Lib.hid (below_on (H8.out) hb)
      have P9 := Lib.hid (P8.out.on hb)
      have S9 := Lib.hid (S8.out.on hb)
      have X9 := Lib.hid (X8.out.on hb)
      have Y9 := Lib.hid (Y8.out.on hb)
      have U9 := Lib.hid (U8.out.on hb)
      have V9 := Lib.hid (V8.out.on hb)
      clear P8 S8 X8 Y8 U8 V8 H8
      clear hb
      go_wp2
      go_ret
      exact ⟨rfl, H9.out⟩
  · skip
    have K1 := Lib.hid (nextBallot_ok (M.ne_zero hE).1 (M.ne_zero hE).2)
    have R1 := Lib.hid (rightBallot_yes (M.next_right hE))
    have C1 := Lib.hid (compareBallots_lt (a := n) (b := r) (c := n + 1) (d := k) (by omega))
    have K2 := Lib.hid (nextBallot_ok (M.ne_zero hF).1 (M.ne_zero hF).2)
    have K3 := Lib.hid (show ∀ w, Calls Try.prog 26 #[.agg #[.int .i64 t, .int .i64 c], .int .i64 k] w fun e w' => e = .returned (.tuple #[.agg #[.int .i64 (M.nx t c k 3), .int .i64 (M.ny t c k 3)], .int .i64 (M.ne t c k 3)]) ∧ Below w.heap.size w w' from fun w => nextStamp_any t c k w)
    have K4 := Lib.hid (show ∀ w, Calls Try.prog 26 #[.agg #[.int .i64 t, .int .i64 c], .int .i64 j] w fun e w' => e = .returned (.tuple #[.agg #[.int .i64 (M.nx t c j 3), .int .i64 (M.ny t c j 3)], .int .i64 (M.ne t c j 3)]) ∧ Below w.heap.size w w' from fun w => nextStamp_any t c j w)
    clear hE hF
    go_enter Try.func7, Try.ntmps7
    go_wp2_with (fail)
    refine (K1.out _).mono ?_
    rintro e w1 ⟨rfl, hb⟩
    have H1 := Lib.hid (below_on (below_new (below_new (Below.refl _ _))) hb)
    have P1 := Lib.hid (((At.new w (.int .i64 n) (.int .i64 r) 23).push (.cells #[.int .i64 t, .int .i64 c] 25)).on hb)
    have S1 := Lib.hid ((At.new1 w (.cells #[.int .i64 n, .int .i64 r] 23) (.int .i64 t) (.int .i64 c) 25).on hb)
    clear hb
    obtain ⟨l0, c0, d0⟩ := P1.out
    go_wp2_with (fail)
    refine (K2.out _).mono ?_
    rintro e w2 ⟨rfl, hb⟩
    have H2 := Lib.hid (below_on (below_new H1.out) hb)
    have P2 := Lib.hid ((P1.out.push _).on hb)
    have S2 := Lib.hid ((S1.out.push _).on hb)
    have X2 := Lib.hid ((At.new _ _ _ _).on hb)
    clear P1 S1 H1 l0 c0 d0
    clear hb
    obtain ⟨l0, c0, d0⟩ := X2.out
    go_wp2_with (fail)
    refine (R1.out _).mono ?_
    rintro e w3 ⟨rfl, hb⟩
    have H3 := Lib.hid (below_on (below_new H2.out) hb)
    have P3 := Lib.hid ((P2.out.push _).on hb)
    have S3 := Lib.hid ((S2.out.push _).on hb)
    have X3 := Lib.hid ((X2.out.push _).on hb)
    have Y3 := Lib.hid ((At.new _ _ _ _).on hb)
    clear P2 S2 X2 H2 l0 c0 d0
    clear hb
    obtain ⟨l0, c0, d0⟩ := P3.out
    obtain ⟨l1, c1, d1⟩ := X3.out
    go_wp2_with (fail)
    refine (C1.out _).mono ?_
    rintro e w4 ⟨rfl, hb⟩
    have H4 := Lib.hid (below_on (H3.out) hb)
    have P4 := Lib.hid (P3.out.on hb)
    have S4 := Lib.hid (S3.out.on hb)
    have X4 := Lib.hid (X3.out.on hb)
    have Y4 := Lib.hid (Y3.out.on hb)
    clear P3 S3 X3 Y3 H3 l0 c0 d0 l1 c1 d1
    clear hb
    obtain ⟨l0, c0, d0⟩ := S4.out
    obtain ⟨l1, c1, d1⟩ := X4.out
    obtain ⟨l2, c2, d2⟩ := Y4.out
    go_wp2_with (fail)
    refine (K3.out _).mono ?_
    rintro e w5 ⟨rfl, hb⟩
    have H5 := Lib.hid (below_on (H4.out) hb)
    have P5 := Lib.hid (P4.out.on hb)
    have S5 := Lib.hid (S4.out.on hb)
    have X5 := Lib.hid (X4.out.on hb)
    have Y5 := Lib.hid (Y4.out.on hb)
    clear P4 S4 X4 Y4 H4 l0 c0 d0 l1 c1 d1 l2 c2 d2
    clear hb
    obtain ⟨l0, c0, d0⟩ := S5.out
    go_wp2_with (fail)
    refine (K4.out _).mono ?_
    rintro e w6 ⟨rfl, hb⟩
    have H6 := Lib.hid (below_on (below_new H5.out) hb)
    have P6 := Lib.hid ((P5.out.push _).on hb)
    have S6 := Lib.hid ((S5.out.push _).on hb)
    have X6 := Lib.hid ((X5.out.push _).on hb)
    have Y6 := Lib.hid ((Y5.out.push _).on hb)
    have U6 := Lib.hid ((At.new _ _ _ _).on hb)
    clear P5 S5 X5 Y5 H5 l0 c0 d0
    clear hb
    go_wp2_with (fail)
    refine (awake_any _).mono ?_
    rintro e w7 ⟨rfl, hb⟩
    have H7 := Lib.hid (below_on (below_new H6.out) hb)
    have P7 := Lib.hid ((P6.out.push _).on hb)
    have S7 := Lib.hid ((S6.out.push _).on hb)
    have X7 := Lib.hid ((X6.out.push _).on hb)
    have Y7 := Lib.hid ((Y6.out.push _).on hb)
    have U7 := Lib.hid ((U6.out.push _).on hb)
    have V7 := Lib.hid ((At.new _ _ _ _).on hb)
    clear P6 S6 X6 Y6 U6 H6
    clear hb
    go_wp2
    go_ret
    exact ⟨rfl, H7.out⟩

theorem behind_law (n r t c k j : Int) (w : World) :
    Calls Try.prog 7 #[.agg #[.int .i64 n, .int .i64 r], .agg #[.int .i64 t, .int .i64 c], .int .i64 k, .int .i64 j] w fun e w' => e = .returned (.bool true) ∧ Below w.heap.size w w' := by
  by_cases hE : M.ne n r k 6 = 0
  · by_cases hk : k = j
    · subst hk
      exact behind_3s n r t c k w hE
    · by_cases hF : M.ne n r j 6 = 0
      · exact behind_4s n r t c k j w hE hF hk
      · exact behind_2s n r t c k j w hE hF hk
  · exact behind_1s n r t c k j w hE
end Go.Proofs.Ytccokdhobkcnpaa
