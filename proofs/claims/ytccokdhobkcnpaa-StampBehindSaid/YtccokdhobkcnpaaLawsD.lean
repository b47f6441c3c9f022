/- The walk of StampSteps: it returns true, and nothing that was there changes; no conditions. Before it: Next.. case by case. -/
import Derived.Test.YtccokdhobkcnpaaLawsC
namespace Go.Proofs.Ytccokdhobkcnpaa
open Go.RowKit

theorem nextBallot_ok {x y k : Int} (h : M.okB x y k 6 = true) (t : M.topB x = false) : ∀ w, Calls Try.prog 24 #[.agg #[.int .i64 x, .int .i64 y], .int .i64 k] w fun e w' => e = .returned (.tuple #[.agg #[.int .i64 (x + 1), .int .i64 k], .int .i64 0]) ∧ Below w.heap.size w w' := by
  intro w
  have := nextBallot_any x y k w
  obtain ⟨e1, e2, e3⟩ := M.n_ok h t
  rw [e1, e2, e3] at this
  exact this
theorem nextBallot_top {x y k : Int} (h : M.okB x y k 6 = true) (t : M.topB x = true) : ∀ w, Calls Try.prog 24 #[.agg #[.int .i64 x, .int .i64 y], .int .i64 k] w fun e w' => e = .returned (.tuple #[.agg #[.int .i64 0, .int .i64 0], .int .i64 2]) ∧ Below w.heap.size w w' := by
  intro w
  have := nextBallot_any x y k w
  obtain ⟨e1, e2, e3⟩ := M.n_top h t
  rw [e1, e2, e3] at this
  exact this
theorem nextBallot_arg {x y k : Int} (h : M.okB x y k 6 = false) : ∀ w, Calls Try.prog 24 #[.agg #[.int .i64 x, .int .i64 y], .int .i64 k] w fun e w' => e = .returned (.tuple #[.agg #[.int .i64 0, .int .i64 0], .int .i64 1]) ∧ Below w.heap.size w w' := by
  intro w
  have := nextBallot_any x y k w
  obtain ⟨e1, e2, e3⟩ := M.n_arg h
  rw [e1, e2, e3] at this
  exact this

theorem nextStamp_ok {x y k : Int} (h : M.okB x y k 3 = true) (t : M.topB x = false) : ∀ w, Calls Try.prog 26 #[.agg #[.int .i64 x, .int .i64 y], .int .i64 k] w fun e w' => e = .returned (.tuple #[.agg #[.int .i64 (x + 1), .int .i64 k], .int .i64 0]) ∧ Below w.heap.size w w' := by
  intro w
  have := nextStamp_any x y k w
  obtain ⟨e1, e2, e3⟩ := M.n_ok h t
  rw [e1, e2, e3] at this
  exact this
theorem nextStamp_top {x y k : Int} (h : M.okB x y k 3 = true) (t : M.topB x = true) : ∀ w, Calls Try.prog 26 #[.agg #[.int .i64 x, .int .i64 y], .int .i64 k] w fun e w' => e = .returned (.tuple #[.agg #[.int .i64 0, .int .i64 0], .int .i64 2]) ∧ Below w.heap.size w w' := by
  intro w
  have := nextStamp_any x y k w
  obtain ⟨e1, e2, e3⟩ := M.n_top h t
  rw [e1, e2, e3] at this
  exact this
theorem nextStamp_arg {x y k : Int} (h : M.okB x y k 3 = false) : ∀ w, Calls Try.prog 26 #[.agg #[.int .i64 x, .int .i64 y], .int .i64 k] w fun e w' => e = .returned (.tuple #[.agg #[.int .i64 0, .int .i64 0], .int .i64 1]) ∧ Below w.heap.size w w' := by
  intro w
  have := nextStamp_any x y k w
  obtain ⟨e1, e2, e3⟩ := M.n_arg h
  rw [e1, e2, e3] at this
  exact this

theorem compareStamps_lt {a b c d : Int} (h : a < c) : ∀ w, Calls Try.prog 21 #[.agg #[.int .i64 a, .int .i64 b], .agg #[.int .i64 c, .int .i64 d]] w fun e w' => e = .returned (.int .i64 (-1)) ∧ Below w.heap.size w w' := by
  intro w
  have := compareStamps_any a b c d w
  rw [M.ord_lt h] at this
  exact this
theorem compareBallots_lt {a b c d : Int} (h : a < c) : ∀ w, Calls Try.prog 20 #[.agg #[.int .i64 a, .int .i64 b], .agg #[.int .i64 c, .int .i64 d]] w fun e w' => e = .returned (.int .i64 (-1)) ∧ Below w.heap.size w w' := by
  intro w
  have := compareBallots_any a b c d w
  rw [M.ord_lt h] at this
  exact this
theorem rightBallot_yes {x y : Int} (h : M.pairB x y 0 1099511627776 0 6 = true) : ∀ w, Calls Try.prog 10 #[.agg #[.int .i64 x, .int .i64 y]] w fun e w' => e = .returned (.bool true) ∧ Below w.heap.size w w' := by
  intro w
  have := rightBallot_any x y w
  rw [h] at this
  exact this
theorem rightStamp_yes {x y : Int} (h : M.pairB x y 0 1099511627776 0 3 = true) : ∀ w, Calls Try.prog 12 #[.agg #[.int .i64 x, .int .i64 y]] w fun e w' => e = .returned (.bool true) ∧ Below w.heap.size w w' := by
  intro w
  have := rightStamp_any x y w
  rw [h] at this
  exact this
theorem M.top_no {x : Int} (h : M.topB x = false) : ¬ x = 1099511627776 := by simpa [M.topB] using h
theorem M.top_yes {x : Int} (h : M.topB x = true) : x = 1099511627776 := by simpa [M.topB] using h
theorem M.not_ok {x y k b : Int} (h : M.okB x y k b = false) : ¬ (((0 ≤ x ∧ x ≤ 1099511627776) ∧ (0 ≤ y ∧ y ≤ b)) ∧ (0 ≤ k ∧ k ≤ b)) := fun g => by
  rw [M.ok_iff.2 g] at h
  cases h

set_option maxHeartbeats 4000000 in
theorem steps_law (t c k j : Int) (w : World) :
    Calls Try.prog 9 #[.agg #[.int .i64 t, .int .i64 c], .int .i64 k, .int .i64 j] w fun e w' => e = .returned (.bool true) ∧ Below w.heap.size w w' := by
  cases ho : M.okB t c k 3
  · have K1 := Lib.hid (nextStamp_arg ho)
    have K2 := Lib.hid (show ∀ w, Calls Try.prog 26 #[.agg #[.int .i64 0, .int .i64 0], .int .i64 j] w fun e w' => e = .returned (.tuple #[.agg #[.int .i64 (M.nx 0 0 j 3), .int .i64 (M.ny 0 0 j 3)], .int .i64 (M.ne 0 0 j 3)]) ∧ Below w.heap.size w w' from fun w => nextStamp_any 0 0 j w)
    clear ho
    go_enter Try.func9, Try.ntmps9
    go_wp2_with (fail)
    refine (K1.out _).mono ?_
    rintro e w1 ⟨rfl, hb⟩
    have H1 := Lib.hid (below_on (below_new (Below.refl _ _)) hb)
    have S1 := Lib.hid ((At.new w (.int .i64 t) (.int .i64 c) 25).on hb)
    clear hb
    go_wp2_with (fail)
    refine (K2.out _).mono ?_
    rintro e w2 ⟨rfl, hb⟩
    have H2 := Lib.hid (below_on (below_new H1.out) hb)
    have S2 := Lib.hid ((S1.out.push _).on hb)
    have X2 := Lib.hid ((At.new _ _ _ _).on hb)
    clear S1 H1
    clear hb
    obtain ⟨l0, c0, d0⟩ := X2.out
    go_wp2_with (fail)
    refine (awake_any _).mono ?_
    rintro e w3 ⟨rfl, hb⟩
    have H3 := Lib.hid (below_on (below_new H2.out) hb)
    have S3 := Lib.hid ((S2.out.push _).on hb)
    have X3 := Lib.hid ((X2.out.push _).on hb)
    have Y3 := Lib.hid ((At.new _ _ _ _).on hb)
    clear S2 X2 H2 l0 c0 d0
    clear hb
    go_wp2
    go_ret
    exact ⟨rfl, H3.out⟩
  · cases ht : M.topB t
    · have K1 := Lib.hid (nextStamp_ok ho ht)
      have hn := M.top_no ht
      have hr := M.ok_iff.1 ho
      have hlo : 0 ≤ t := hr.1.1.1
      have hhi : t ≤ 1099511627775 := by omega
      cases ho2 : M.okB (t + 1) k j 3
      · have K2 := Lib.hid (nextStamp_arg ho2)
        have hj := M.not_ok ho2
        by_cases j1 : j < 0
        · clear ho ho2 ht hr hn hj
          go_enter Try.func9, Try.ntmps9
          go_wp2_with (fail)
          refine (K1.out _).mono ?_
          rintro e w1 ⟨rfl, hb⟩
          have H1 := Lib.hid (below_on (below_new (Below.refl _ _)) hb)
          have S1 := Lib.hid ((At.new w (.int .i64 t) (.int .i64 c) 25).on hb)
          clear hb
          go_wp2_with (fail)
          refine (K2.out _).mono ?_
          rintro e w2 ⟨rfl, hb⟩
          have H2 := Lib.hid (below_on (below_new H1.out) hb)
          have S2 := Lib.hid ((S1.out.push _).on hb)
          have X2 := Lib.hid ((At.new _ _ _ _).on hb)
          clear S1 H1
          clear hb
          obtain ⟨l0, c0, d0⟩ := X2.out
          go_wp2_with (fail)
          refine (awake_any _).mono ?_
          rintro e w3 ⟨rfl, hb⟩
          have H3 := Lib.hid (below_on (below_new H2.out) hb)
          have S3 := Lib.hid ((S2.out.push _).on hb)
          have X3 := Lib.hid ((X2.out.push _).on hb)
          have Y3 := Lib.hid ((At.new _ _ _ _).on hb)
          clear S2 X2 H2 l0 c0 d0
          clear hb
          go_wp2
          go_ret
          exact ⟨rfl, H3.out⟩
        · have j2 : 3 < j := by omega
          clear ho ho2 ht hr hn hj
          go_enter Try.func9, Try.ntmps9
          go_wp2_with (fail)
          refine (K1.out _).mono ?_
          rintro e w1 ⟨rfl, hb⟩
          have H1 := Lib.hid (below_on (below_new (Below.refl _ _)) hb)
          have S1 := Lib.hid ((At.new w (.int .i64 t) (.int .i64 c) 25).on hb)
          clear hb
          go_wp2_with (fail)
          refine (K2.out _).mono ?_
          rintro e w2 ⟨rfl, hb⟩
          have H2 := Lib.hid (below_on (below_new H1.out) hb)
          have S2 := Lib.hid ((S1.out.push _).on hb)
          have X2 := Lib.hid ((At.new _ _ _ _).on hb)
          clear S1 H1
          clear hb
          obtain ⟨l0, c0, d0⟩ := X2.out
          go_wp2_with (fail)
          refine (awake_any _).mono ?_
          rintro e w3 ⟨rfl, hb⟩
          have H3 := Lib.hid (below_on (below_new H2.out) hb)
          have S3 := Lib.hid ((S2.out.push _).on hb)
          have X3 := Lib.hid ((X2.out.push _).on hb)
          have Y3 := Lib.hid ((At.new _ _ _ _).on hb)
          clear S2 X2 H2 l0 c0 d0
          clear hb
          go_wp2
          go_ret
          exact ⟨rfl, H3.out⟩
      · cases ht2 : M.topB (t + 1)
        · have K2 := Lib.hid (nextStamp_ok ho2 ht2)
          have K3 := Lib.hid (compareStamps_lt (a := t) (b := c) (c := t + 1 + 1) (d := j) (by omega))
          have K4 := Lib.hid (compareStamps_lt (a := t + 1) (b := k) (c := t + 1 + 1) (d := j) (by omega))
          have hn2 := M.top_no ht2
          have hhi2 : t ≤ 1099511627774 := by omega
          clear ho ho2 ht ht2 hr hn hn2 hhi
          go_enter Try.func9, Try.ntmps9
          go_wp2_with (fail)
          refine (K1.out _).mono ?_
          rintro e w1 ⟨rfl, hb⟩
          have H1 := Lib.hid (below_on (below_new (Below.refl _ _)) hb)
          have S1 := Lib.hid ((At.new w (.int .i64 t) (.int .i64 c) 25).on hb)
          clear hb
          go_wp2_with (fail)
          refine (K2.out _).mono ?_
          rintro e w2 ⟨rfl, hb⟩
          have H2 := Lib.hid (below_on (below_new H1.out) hb)
          have S2 := Lib.hid ((S1.out.push _).on hb)
          have X2 := Lib.hid ((At.new _ _ _ _).on hb)
          clear S1 H1
          clear hb
          obtain ⟨l0, c0, d0⟩ := X2.out
          obtain ⟨l1, c1, d1⟩ := S2.out
          go_wp2_with (fail)
          refine (K3.out _).mono ?_
          rintro e w3 ⟨rfl, hb⟩
          have H3 := Lib.hid (below_on (below_new H2.out) hb)
          have S3 := Lib.hid ((S2.out.push _).on hb)
          have X3 := Lib.hid ((X2.out.push _).on hb)
          have Y3 := Lib.hid ((At.new _ _ _ _).on hb)
          clear S2 X2 H2 l0 c0 d0 l1 c1 d1
          clear hb
          obtain ⟨l0, c0, d0⟩ := X3.out
          obtain ⟨l1, c1, d1⟩ := Y3.out
          go_wp2_with (fail)
          refine (K4.out _).mono ?_
          rintro e w4 ⟨rfl, hb⟩
          have H4 := Lib.hid (below_on (H3.out) hb)
          have S4 := Lib.hid (S3.out.on hb)
          have X4 := Lib.hid (X3.out.on hb)
          have Y4 := Lib.hid (Y3.out.on hb)
          clear S3 X3 Y3 H3 l0 c0 d0 l1 c1 d1
          clear hb
          obtain ⟨l0, c0, d0⟩ := X4.out
          obtain ⟨l1, c1, d1⟩ := Y4.out
          go_wp2_with (fail)
          refine (awake_any _).mono ?_
          rintro e w5 ⟨rfl, hb⟩
          have H5 := Lib.hid (below_on (H4.out) hb)
          have S5 := Lib.hid (S4.out.on hb)
          have X5 := Lib.hid (X4.out.on hb)
          have Y5 := Lib.hid (Y4.out.on hb)
          clear S4 X4 Y4 H4 l0 c0 d0 l1 c1 d1
          clear hb
          go_wp2
          go_ret
          exact ⟨rfl, H5.out⟩
        · have K2 := Lib.hid (nextStamp_top ho2 ht2)
          have hn2 := M.top_yes ht2
          obtain rfl : t = 1099511627775 := by omega
          clear ho ho2 ht ht2 hr hn hn2 hhi hlo
          go_enter Try.func9, Try.ntmps9
          go_wp2_with (fail)
          refine (K1.out _).mono ?_
          rintro e w1 ⟨rfl, hb⟩
          have H1 := Lib.hid (below_on (below_new (Below.refl _ _)) hb)
          have S1 := Lib.hid ((At.new w (.int .i64 1099511627775) (.int .i64 c) 25).on hb)
          clear hb
          go_wp2_with (fail)
          refine (K2.out _).mono ?_
          rintro e w2 ⟨rfl, hb⟩
          have H2 := Lib.hid (below_on (below_new H1.out) hb)
          have S2 := Lib.hid ((S1.out.push _).on hb)
          have X2 := Lib.hid ((At.new _ _ _ _).on hb)
          clear S1 H1
          clear hb
          obtain ⟨l0, c0, d0⟩ := X2.out
          go_wp2_with (fail)
          refine (awake_any _).mono ?_
          rintro e w3 ⟨rfl, hb⟩
          have H3 := Lib.hid (below_on (below_new H2.out) hb)
          have S3 := Lib.hid ((S2.out.push _).on hb)
          have X3 := Lib.hid ((X2.out.push _).on hb)
          have Y3 := Lib.hid ((At.new _ _ _ _).on hb)
          clear S2 X2 H2 l0 c0 d0
          clear hb
          go_wp2
          go_ret
          exact ⟨rfl, H3.out⟩
    · have K1 := Lib.hid (nextStamp_top ho ht)
      have K2 := Lib.hid (show ∀ w, Calls Try.prog 26 #[.agg #[.int .i64 0, .int .i64 0], .int .i64 j] w fun e w' => e = .returned (.tuple #[.agg #[.int .i64 (M.nx 0 0 j 3), .int .i64 (M.ny 0 0 j 3)], .int .i64 (M.ne 0 0 j 3)]) ∧ Below w.heap.size w w' from fun w => nextStamp_any 0 0 j w)
      clear ho ht
      go_enter Try.func9, Try.ntmps9
      go_wp2_with (fail)
      refine (K1.out _).mono ?_
      rintro e w1 ⟨rfl, hb⟩
      have H1 := Lib.hid (below_on (below_new (Below.refl _ _)) hb)
      have S1 := Lib.hid ((At.new w (.int .i64 t) (.int .i64 c) 25).on hb)
      clear hb
      go_wp2_with (fail)
      refine (K2.out _).mono ?_
      rintro e w2 ⟨rfl, hb⟩
      have H2 := Lib.hid (below_on (below_new H1.out) hb)
      have S2 := Lib.hid ((S1.out.push _).on hb)
      have X2 := Lib.hid ((At.new _ _ _ _).on hb)
      clear S1 H1
      clear hb
      obtain ⟨l0, c0, d0⟩ := X2.out
      go_wp2_with (fail)
      refine (awake_any _).mono ?_
      rintro e w3 ⟨rfl, hb⟩
      have H3 := Lib.hid (below_on (below_new H2.out) hb)
      have S3 := Lib.hid ((S2.out.push _).on hb)
      have X3 := Lib.hid ((X2.out.push _).on hb)
      have Y3 := Lib.hid ((At.new _ _ _ _).on hb)
      clear S2 X2 H2 l0 c0 d0
      clear hb
      go_wp2
      go_ret
      exact ⟨rfl, H3.out⟩
end Go.Proofs.Ytccokdhobkcnpaa
