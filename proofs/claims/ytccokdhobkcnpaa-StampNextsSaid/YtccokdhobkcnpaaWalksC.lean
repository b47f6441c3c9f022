/- Contracts of NextBallot, NextStamp, of the document's, and of awake; no conditions. -/
import Derived.Test.YtccokdhobkcnpaaWalksB
namespace Go.Proofs.Ytccokdhobkcnpaa
open Go.RowKit

theorem bcell {W w1 : World} (hb : Below W.heap.size W w1) : (∀ b o, b < W.heap.size → w1.cell? ⟨b, o, none⟩ = W.cell? ⟨b, o, none⟩) ∧ (∀ b o, b < W.heap.size → w1.frozen? ⟨b, o, none⟩ = W.frozen? ⟨b, o, none⟩) :=
  ⟨fun b o h => hb.cell (p := ⟨b, o, none⟩) h, fun b o h => hb.frozen (p := ⟨b, o, none⟩) h⟩
/-- Two new blocks, a call that makes more, and two cells of the second block written. -/
theorem below_two {w w1 : World} {o o' : Obj} {j j' : Nat} {u u' : Value} (hb : Below ((w.alloc o).alloc o').heap.size ((w.alloc o).alloc o') w1) :
    Below w.heap.size w ((w1.setCell ⟨w.heap.size + 1, j, none⟩ u).setCell ⟨w.heap.size + 1, j', none⟩ u') :=
  ((((((Below.refl _ _).alloc (Nat.le_refl _) _).alloc (by simp) _).trans (hb.mono (by simp; omega))).setCell (by simp) _).setCell (by simp) _)

set_option maxHeartbeats 1000000 in
theorem nextBallot_any (n r k : Int) (w : World) :
    Calls Try.prog 24 #[.agg #[.int .i64 n, .int .i64 r], .int .i64 k] w fun e w' => e = .returned (.tuple #[.agg #[.int .i64 (M.nx n r k 6), .int .i64 (M.ny n r k 6)], .int .i64 (M.ne n r k 6)]) ∧ Below w.heap.size w w' := by
  cases h1 : M.pairB n r 0 1099511627776 0 6
  · obtain ⟨e1, e2, e3⟩ := M.n_arg (M.ok_pair (k := k) h1)
    rw [e1, e2, e3]
    clear e1 e2 e3
    go_enter Try.func24, Try.ntmps24
    go_wp2_with (fail)
    refine (rightBallot_any _ _ _).mono ?_
    rintro e w1 ⟨rfl, hb⟩
    obtain ⟨hc, hf⟩ := bcell hb
    have hz : w.heap.size + 1 < w1.heap.size := by have := hb.size; simp at this; omega
    go_wp2
    exact bodyPost_ret (v := .tuple #[.agg #[.int .i64 0, .int .i64 0], .int .i64 1]) (by simp [results, Try.results24, go_sem, hc]) rfl ⟨rfl, below_two hb⟩
  · cases h2 : M.within k 0 6
    · obtain ⟨e1, e2, e3⟩ := M.n_arg (M.ok_who (x := n) (y := r) h2)
      rw [e1, e2, e3]
      clear e1 e2 e3
      go_enter Try.func24, Try.ntmps24
      go_wp2_with (fail)
      refine (rightBallot_any _ _ _).mono ?_
      rintro e w1 ⟨rfl, hb⟩
      obtain ⟨hc, hf⟩ := bcell hb
      have hz : w.heap.size + 1 < w1.heap.size := by have := hb.size; simp at this; omega
      go_wp2_with (go_at_call 29; refine (isReplica_any _ _).mono ?_; rintro e w' ⟨rfl, rfl⟩)
      exact bodyPost_ret (v := .tuple #[.agg #[.int .i64 0, .int .i64 0], .int .i64 1]) (by simp [results, Try.results24, go_sem, hc]) rfl ⟨rfl, below_two hb⟩
    · have h12 := M.ok_both h1 h2
      cases h3 : M.topB n
      · obtain ⟨e1, e2, e3⟩ := M.n_ok h12 h3
        rw [e1, e2, e3]
        have n3 : ¬ n = 1099511627776 := by simpa [M.topB] using h3
        have hlo : 0 ≤ n := (M.pair_iff.1 h1).1.1
        have hhi : n ≤ 1099511627776 := (M.pair_iff.1 h1).1.2
        clear e1 e2 e3 h3 h12
        go_enter Try.func24, Try.ntmps24
        go_wp2_with (fail)
        refine (rightBallot_any _ _ _).mono ?_
        rintro e w1 ⟨rfl, hb⟩
        obtain ⟨hc, hf⟩ := bcell hb
        have hz : w.heap.size + 1 < w1.heap.size := by have := hb.size; simp at this; omega
        go_wp2_with (go_at_call 29; refine (isReplica_any _ _).mono ?_; rintro e w' ⟨rfl, rfl⟩)
        exact bodyPost_ret (v := .tuple #[.agg #[.int .i64 (n + 1), .int .i64 k], .int .i64 0]) (by simp [results, Try.results24, go_sem, hc]) rfl ⟨rfl, below_two hb⟩
      · obtain ⟨e1, e2, e3⟩ := M.n_top h12 h3
        rw [e1, e2, e3]
        have n3 : n = 1099511627776 := by simpa [M.topB] using h3
        clear e1 e2 e3 h3 h12
        subst n3
        go_enter Try.func24, Try.ntmps24
        go_wp2_with (fail)
        refine (rightBallot_any _ _ _).mono ?_
        rintro e w1 ⟨rfl, hb⟩
        obtain ⟨hc, hf⟩ := bcell hb
        have hz : w.heap.size + 1 < w1.heap.size := by have := hb.size; simp at this; omega
        go_wp2_with (go_at_call 29; refine (isReplica_any _ _).mono ?_; rintro e w' ⟨rfl, rfl⟩)
        exact bodyPost_ret (v := .tuple #[.agg #[.int .i64 0, .int .i64 0], .int .i64 2]) (by simp [results, Try.results24, go_sem, hc]) rfl ⟨rfl, below_two hb⟩

set_option maxHeartbeats 1000000 in
theorem refNextBallot_any (n r k : Int) (w : World) :
    Calls Try.prog 25 #[.agg #[.int .i64 n, .int .i64 r], .int .i64 k] w fun e w' => e = .returned (.tuple #[.agg #[.int .i64 (M.nx n r k 6), .int .i64 (M.ny n r k 6)], .int .i64 (M.ne n r k 6)]) ∧ Below w.heap.size w w' := by
  cases h1 : M.pairB n r 0 1099511627776 0 6
  · obtain ⟨e1, e2, e3⟩ := M.n_arg (M.ok_pair (k := k) h1)
    rw [e1, e2, e3]
    clear e1 e2 e3
    go_enter Try.func25, Try.ntmps25
    go_wp2_with (fail)
    refine (refBallot_any _ _ _).mono ?_
    rintro e w1 ⟨rfl, hb⟩
    obtain ⟨hc, hf⟩ := bcell hb
    have hz : w.heap.size + 1 < w1.heap.size := by have := hb.size; simp at this; omega
    go_wp2
    exact bodyPost_ret (v := .tuple #[.agg #[.int .i64 0, .int .i64 0], .int .i64 1]) (by simp [results, Try.results25, go_sem, hc]) rfl ⟨rfl, below_two hb⟩
  · by_cases k1 : k < 0
    · obtain ⟨e1, e2, e3⟩ := M.n_arg (M.ok_who (x := n) (y := r) (M.within_low (hi := 6) (show ¬ 0 ≤ k by omega)))
      rw [e1, e2, e3]
      clear e1 e2 e3
      go_enter Try.func25, Try.ntmps25
      go_wp2_with (fail)
      refine (refBallot_any _ _ _).mono ?_
      rintro e w1 ⟨rfl, hb⟩
      obtain ⟨hc, hf⟩ := bcell hb
      have hz : w.heap.size + 1 < w1.heap.size := by have := hb.size; simp at this; omega
      go_wp2
      exact bodyPost_ret (v := .tuple #[.agg #[.int .i64 0, .int .i64 0], .int .i64 1]) (by simp [results, Try.results25, go_sem, hc]) rfl ⟨rfl, below_two hb⟩
    · by_cases k2 : 6 < k
      · obtain ⟨e1, e2, e3⟩ := M.n_arg (M.ok_who (x := n) (y := r) (M.within_high (lo := 0) (show ¬ k ≤ 6 by omega)))
        rw [e1, e2, e3]
        clear e1 e2 e3
        go_enter Try.func25, Try.ntmps25
        go_wp2_with (fail)
        refine (refBallot_any _ _ _).mono ?_
        rintro e w1 ⟨rfl, hb⟩
        obtain ⟨hc, hf⟩ := bcell hb
        have hz : w.heap.size + 1 < w1.heap.size := by have := hb.size; simp at this; omega
        go_wp2
        exact bodyPost_ret (v := .tuple #[.agg #[.int .i64 0, .int .i64 0], .int .i64 1]) (by simp [results, Try.results25, go_sem, hc]) rfl ⟨rfl, below_two hb⟩
      · have h12 := M.ok_both h1 (M.within_true (show 0 ≤ k by omega) (show k ≤ 6 by omega))
        cases h3 : M.topB n
        · obtain ⟨e1, e2, e3⟩ := M.n_ok h12 h3
          rw [e1, e2, e3]
          have n3 : ¬ n = 1099511627776 := by simpa [M.topB] using h3
          have hlo : 0 ≤ n := (M.pair_iff.1 h1).1.1
          have hhi : n ≤ 1099511627776 := (M.pair_iff.1 h1).1.2
          clear e1 e2 e3 h3 h12
          go_enter Try.func25, Try.ntmps25
          go_wp2_with (fail)
          refine (refBallot_any _ _ _).mono ?_
          rintro e w1 ⟨rfl, hb⟩
          obtain ⟨hc, hf⟩ := bcell hb
          have hz : w.heap.size + 1 < w1.heap.size := by have := hb.size; simp at this; omega
          go_wp2
          exact bodyPost_ret (v := .tuple #[.agg #[.int .i64 (n + 1), .int .i64 k], .int .i64 0]) (by simp [results, Try.results25, go_sem, hc]) rfl ⟨rfl, below_two hb⟩
        · obtain ⟨e1, e2, e3⟩ := M.n_top h12 h3
          rw [e1, e2, e3]
          have n3 : n = 1099511627776 := by simpa [M.topB] using h3
          clear e1 e2 e3 h3 h12
          subst n3
          go_enter Try.func25, Try.ntmps25
          go_wp2_with (fail)
          refine (refBallot_any _ _ _).mono ?_
          rintro e w1 ⟨rfl, hb⟩
          obtain ⟨hc, hf⟩ := bcell hb
          have hz : w.heap.size + 1 < w1.heap.size := by have := hb.size; simp at this; omega
          go_wp2
          exact bodyPost_ret (v := .tuple #[.agg #[.int .i64 0, .int .i64 0], .int .i64 2]) (by simp [results, Try.results25, go_sem, hc]) rfl ⟨rfl, below_two hb⟩

set_option maxHeartbeats 1000000 in
theorem nextStamp_any (n r k : Int) (w : World) :
    Calls Try.prog 26 #[.agg #[.int .i64 n, .int .i64 r], .int .i64 k] w fun e w' => e = .returned (.tuple #[.agg #[.int .i64 (M.nx n r k 3), .int .i64 (M.ny n r k 3)], .int .i64 (M.ne n r k 3)]) ∧ Below w.heap.size w w' := by
  cases h1 : M.pairB n r 0 1099511627776 0 3
  · obtain ⟨e1, e2, e3⟩ := M.n_arg (M.ok_pair (k := k) h1)
    rw [e1, e2, e3]
    clear e1 e2 e3
    go_enter Try.func26, Try.ntmps26
    go_wp2_with (fail)
    refine (rightStamp_any _ _ _).mono ?_
    rintro e w1 ⟨rfl, hb⟩
    obtain ⟨hc, hf⟩ := bcell hb
    have hz : w.heap.size + 1 < w1.heap.size := by have := hb.size; simp at this; omega
    go_wp2
    exact bodyPost_ret (v := .tuple #[.agg #[.int .i64 0, .int .i64 0], .int .i64 1]) (by simp [results, Try.results26, go_sem, hc]) rfl ⟨rfl, below_two hb⟩
  · cases h2 : M.within k 0 3
    · obtain ⟨e1, e2, e3⟩ := M.n_arg (M.ok_who (x := n) (y := r) h2)
      rw [e1, e2, e3]
      clear e1 e2 e3
      go_enter Try.func26, Try.ntmps26
      go_wp2_with (fail)
      refine (rightStamp_any _ _ _).mono ?_
      rintro e w1 ⟨rfl, hb⟩
      obtain ⟨hc, hf⟩ := bcell hb
      have hz : w.heap.size + 1 < w1.heap.size := by have := hb.size; simp at this; omega
      go_wp2_with (go_at_call 30; refine (isClient_any _ _).mono ?_; rintro e w' ⟨rfl, rfl⟩)
      exact bodyPost_ret (v := .tuple #[.agg #[.int .i64 0, .int .i64 0], .int .i64 1]) (by simp [results, Try.results26, go_sem, hc]) rfl ⟨rfl, below_two hb⟩
    · have h12 := M.ok_both h1 h2
      cases h3 : M.topB n
      · obtain ⟨e1, e2, e3⟩ := M.n_ok h12 h3
        rw [e1, e2, e3]
        have n3 : ¬ n = 1099511627776 := by simpa [M.topB] using h3
        have hlo : 0 ≤ n := (M.pair_iff.1 h1).1.1
        have hhi : n ≤ 1099511627776 := (M.pair_iff.1 h1).1.2
        clear e1 e2 e3 h3 h12
        go_enter Try.func26, Try.ntmps26
        go_wp2_with (fail)
        refine (rightStamp_any _ _ _).mono ?_
        rintro e w1 ⟨rfl, hb⟩
        obtain ⟨hc, hf⟩ := bcell hb
        have hz : w.heap.size + 1 < w1.heap.size := by have := hb.size; simp at this; omega
        go_wp2_with (go_at_call 30; refine (isClient_any _ _).mono ?_; rintro e w' ⟨rfl, rfl⟩)
        exact bodyPost_ret (v := .tuple #[.agg #[.int .i64 (n + 1), .int .i64 k], .int .i64 0]) (by simp [results, Try.results26, go_sem, hc]) rfl ⟨rfl, below_two hb⟩
      · obtain ⟨e1, e2, e3⟩ := M.n_top h12 h3
        rw [e1, e2, e3]
        have n3 : n = 1099511627776 := by simpa [M.topB] using h3
        clear e1 e2 e3 h3 h12
        subst n3
        go_enter Try.func26, Try.ntmps26
        go_wp2_with (fail)
        refine (rightStamp_any _ _ _).mono ?_
        rintro e w1 ⟨rfl, hb⟩
        obtain ⟨hc, hf⟩ := bcell hb
        have hz : w.heap.size + 1 < w1.heap.size := by have := hb.size; simp at this; omega
        go_wp2_with (go_at_call 30; refine (isClient_any _ _).mono ?_; rintro e w' ⟨rfl, rfl⟩)
        exact bodyPost_ret (v := .tuple #[.agg #[.int .i64 0, .int .i64 0], .int .i64 2]) (by simp [results, Try.results26, go_sem, hc]) rfl ⟨rfl, below_two hb⟩

set_option maxHeartbeats 1000000 in
theorem refNextStamp_any (n r k : Int) (w : World) :
    Calls Try.prog 27 #[.agg #[.int .i64 n, .int .i64 r], .int .i64 k] w fun e w' => e = .returned (.tuple #[.agg #[.int .i64 (M.nx n r k 3), .int .i64 (M.ny n r k 3)], .int .i64 (M.ne n r k 3)]) ∧ Below w.heap.size w w' := by
  cases h1 : M.pairB n r 0 1099511627776 0 3
  · obtain ⟨e1, e2, e3⟩ := M.n_arg (M.ok_pair (k := k) h1)
    rw [e1, e2, e3]
    clear e1 e2 e3
    go_enter Try.func27, Try.ntmps27
    go_wp2_with (fail)
    refine (refStamp_any _ _ _).mono ?_
    rintro e w1 ⟨rfl, hb⟩
    obtain ⟨hc, hf⟩ := bcell hb
    have hz : w.heap.size + 1 < w1.heap.size := by have := hb.size; simp at this; omega
    go_wp2
    exact bodyPost_ret (v := .tuple #[.agg #[.int .i64 0, .int .i64 0], .int .i64 1]) (by simp [results, Try.results27, go_sem, hc]) rfl ⟨rfl, below_two hb⟩
  · by_cases k1 : k < 0
    · obtain ⟨e1, e2, e3⟩ := M.n_arg (M.ok_who (x := n) (y := r) (M.within_low (hi := 3) (show ¬ 0 ≤ k by omega)))
      rw [e1, e2, e3]
      clear e1 e2 e3
      go_enter Try.func27, Try.ntmps27
      go_wp2_with (fail)
      refine (refStamp_any _ _ _).mono ?_
      rintro e w1 ⟨rfl, hb⟩
      obtain ⟨hc, hf⟩ := bcell hb
      have hz : w.heap.size + 1 < w1.heap.size := by have := hb.size; simp at this; omega
      go_wp2
      exact bodyPost_ret (v := .tuple #[.agg #[.int .i64 0, .int .i64 0], .int .i64 1]) (by simp [results, Try.results27, go_sem, hc]) rfl ⟨rfl, below_two hb⟩
    · by_cases k2 : 3 < k
      · obtain ⟨e1, e2, e3⟩ := M.n_arg (M.ok_who (x := n) (y := r) (M.within_high (lo := 0) (show ¬ k ≤ 3 by omega)))
        rw [e1, e2, e3]
        clear e1 e2 e3
        go_enter Try.func27, Try.ntmps27
        go_wp2_with (fail)
        refine (refStamp_any _ _ _).mono ?_
        rintro e w1 ⟨rfl, hb⟩
        obtain ⟨hc, hf⟩ := bcell hb
        have hz : w.heap.size + 1 < w1.heap.size := by have := hb.size; simp at this; omega
        go_wp2
        exact bodyPost_ret (v := .tuple #[.agg #[.int .i64 0, .int .i64 0], .int .i64 1]) (by simp [results, Try.results27, go_sem, hc]) rfl ⟨rfl, below_two hb⟩
      · have h12 := M.ok_both h1 (M.within_true (show 0 ≤ k by omega) (show k ≤ 3 by omega))
        cases h3 : M.topB n
        · obtain ⟨e1, e2, e3⟩ := M.n_ok h12 h3
          rw [e1, e2, e3]
          have n3 : ¬ n = 1099511627776 := by simpa [M.topB] using h3
          have hlo : 0 ≤ n := (M.pair_iff.1 h1).1.1
          have hhi : n ≤ 1099511627776 := (M.pair_iff.1 h1).1.2
          clear e1 e2 e3 h3 h12
          go_enter Try.func27, Try.ntmps27
          go_wp2_with (fail)
          refine (refStamp_any _ _ _).mono ?_
          rintro e w1 ⟨rfl, hb⟩
          obtain ⟨hc, hf⟩ := bcell hb
          have hz : w.heap.size + 1 < w1.heap.size := by have := hb.size; simp at this; omega
          go_wp2
          exact bodyPost_ret (v := .tuple #[.agg #[.int .i64 (n + 1), .int .i64 k], .int .i64 0]) (by simp [results, Try.results27, go_sem, hc]) rfl ⟨rfl, below_two hb⟩
        · obtain ⟨e1, e2, e3⟩ := M.n_top h12 h3
          rw [e1, e2, e3]
          have n3 : n = 1099511627776 := by simpa [M.topB] using h3
          clear e1 e2 e3 h3 h12
          subst n3
          go_enter Try.func27, Try.ntmps27
          go_wp2_with (fail)
          refine (refStamp_any _ _ _).mono ?_
          rintro e w1 ⟨rfl, hb⟩
          obtain ⟨hc, hf⟩ := bcell hb
          have hz : w.heap.size + 1 < w1.heap.size := by have := hb.size; simp at this; omega
          go_wp2
          exact bodyPost_ret (v := .tuple #[.agg #[.int .i64 0, .int .i64 0], .int .i64 2]) (by simp [results, Try.results27, go_sem, hc]) rfl ⟨rfl, below_two hb⟩

end Go.Proofs.Ytccokdhobkcnpaa
