/- Contracts of a net's methods that only read, and of New; no conditions but those that they name. -/
import Derived.Test.YtnahboflpipfpaaNt
namespace Go.Proofs.Ytnahboflpipfpaa
open Go.ChangeShapes Go.WideShapes Go.ChangeAt Go.RowKit

/-- May a room be? -/
def roomB (n : Int) : Bool := decide (1 ≤ n) && decide (n ≤ 256)
theorem roomB_iff {n : Int} : roomB n = true ↔ 1 ≤ n ∧ n ≤ 256 := by simp [roomB]
/-- A net without messages. -/
def St.new (n : Int) : St := ⟨n, 0, 0, 0, []⟩
theorem new_bad (n : Int) (w : World) (h : roomB n = false) : Calls Try.prog 11 #[.int .i64 n] w fun e w' => e = .returned (.pointer none) ∧ w = w' := by
  have h' : ¬ (1 ≤ n ∧ n ≤ 256) := fun e => by rw [roomB_iff.2 e] at h; exact Bool.noConfusion h
  clear h
  by_cases h0 : n < 1
  · have q1 : decide (n < 1) = true := by simpa using h0
    clear h'
    go_enter Try.func11, Try.ntmps11
    go_wp2
    go_ret
    exact ⟨rfl, rfl⟩
  · have q1 : decide (n < 1) = false := by simpa using h0
    have q2 : decide (256 < n) = true := by simp; omega
    clear h' h0
    go_enter Try.func11, Try.ntmps11
    go_wp2
    go_ret
    exact ⟨rfl, rfl⟩
theorem new_ok (n : Int) (w : World) (h : roomB n = true) : Calls Try.prog 11 #[.int .i64 n] w fun e w' => e = .returned (ptrV w.heap.size) ∧ w' = w.alloc (.cells #[.int .i64 0, .int .i64 0, .int .i64 0, .int .i64 n, .slice none 0 0] 74) := by
  obtain ⟨h1, h2⟩ := roomB_iff.1 h
  have q1 : decide (n < 1) = false := by simp; omega
  have q2 : decide (256 < n) = false := by simp; omega
  clear h h1 h2
  go_enter Try.func11, Try.ntmps11
  go_wp2
  go_ret
  exact ⟨rfl, rfl⟩
theorem Nt.new {F : Nat → Prop} (n : Int) (w : World) (hF : ∀ x, F x → x < w.heap.size) : Nt (w.alloc (.cells #[.int .i64 0, .int .i64 0, .int .i64 0, .int .i64 n, .slice none 0 0] 74)) w.heap.size F (St.new n) :=
  ⟨_, [], heap_alloc_new w _, ⟨rfl, none, 0, rfl, Nat.le_refl _, fun h => absurd h (by decide)⟩, fun h => absurd h (by decide), fun _ hy => (List.not_mem_nil hy).elim, rfl, fun e => Nat.lt_irrefl _ (hF _ e), fun x f => Nat.lt_of_lt_of_le (hF x f) (by simp)⟩

/-- Why there is no message at that index; 0: there is one. -/
def St.lk (s : St) (k : Int) : Int := if k < 0 ∨ (s.ms.length : Int) ≤ k then 10 else 0
theorem St.lk_no {s : St} {k : Int} (h : k < 0 ∨ (s.ms.length : Int) ≤ k) : s.lk k = 10 := if_pos h
theorem St.lk_ok {s : St} {k : Int} (h : ¬ (k < 0 ∨ (s.ms.length : Int) ≤ k)) : s.lk k = 0 := if_neg h
theorem lacks_nil (k : Int) (w : World) : Calls Try.prog 40 #[.pointer none, .int .i64 k] w fun e w' => e = .returned (.int .i64 1) ∧ w = w' := by
  go_enter Try.func40, Try.ntmps40
  go_wp2
  go_ret
  exact ⟨rfl, rfl⟩
set_option maxHeartbeats 1000000 in
theorem lacks_any {w : World} {g : Nat} {F : Nat → Prop} {s : St} (h : Nt w g F s) (k : Int) : Calls Try.prog 40 #[ptrV g, .int .i64 k] w fun e w' => e = .returned (.int .i64 (s.lk k)) ∧ w = w' := by
  obtain ⟨v, Y, h⟩ := h
  obtain ⟨A, c, rfl, hc⟩ := rowN_sliceOf h.row
  have c4 := hold_cell h.blk 4 rfl
  rw [h.len] at c4
  unfold ptrV
  clear h hc
  by_cases h0 : k < 0
  · rw [St.lk_no (.inl h0)]
    have q1 : decide (k < 0) = true := by simpa using h0
    clear h0
    go_enter Try.func40, Try.ntmps40
    go_wp2
    go_ret
    exact ⟨rfl, rfl⟩
  · have q1 : decide (k < 0) = false := by simpa using h0
    by_cases h1 : (s.ms.length : Int) ≤ k
    · rw [St.lk_no (.inr h1)]
      have q2 : decide ((s.ms.length : Int) ≤ k) = true := by simpa using h1
      clear h0 h1
      go_enter Try.func40, Try.ntmps40
      go_wp2
      go_ret
      exact ⟨rfl, rfl⟩
    · rw [St.lk_ok (by omega)]
      have q2 : decide ((s.ms.length : Int) ≤ k) = false := by simpa using h1
      clear h0 h1
      go_enter Try.func40, Try.ntmps40
      go_wp2
      go_ret
      exact ⟨rfl, rfl⟩
/-- Is there no room? -/
def St.full (s : St) : Bool := decide (s.room ≤ (s.ms.length : Int))
set_option maxHeartbeats 1000000 in
theorem full_any {w : World} {g : Nat} {F : Nat → Prop} {s : St} (h : Nt w g F s) : Calls Try.prog 35 #[ptrV g] w fun e w' => e = .returned (.bool s.full) ∧ ∃ n, w' = w.drewN n := by
  obtain ⟨v, Y, h⟩ := h
  obtain ⟨A, c, rfl, hc⟩ := rowN_sliceOf h.row
  have c4 := hold_cell h.blk 4 rfl
  have c3 := hold_cell h.blk 3 rfl
  rw [h.len] at c4
  unfold ptrV St.full
  clear h hc
  go_enter Try.func35, Try.ntmps35
  go_wp2
  go_quiet ((fail))
  go_wp2
  go_ret
  exact ⟨rfl, _, rfl⟩
theorem len_nil (w : World) : Calls Try.prog 16 #[.pointer none] w fun e w' => e = .returned (.int .i64 0) ∧ w = w' := by
  go_enter Try.func16, Try.ntmps16
  go_wp2
  go_ret
  exact ⟨rfl, rfl⟩
theorem len_any {w : World} {g : Nat} {F : Nat → Prop} {s : St} (h : Nt w g F s) : Calls Try.prog 16 #[ptrV g] w fun e w' => e = .returned (.int .i64 s.ms.length) ∧ w = w' := by
  obtain ⟨v, Y, h⟩ := h
  obtain ⟨A, c, rfl, hc⟩ := rowN_sliceOf h.row
  have c4 := hold_cell h.blk 4 rfl
  rw [h.len] at c4
  unfold ptrV
  clear h hc
  go_enter Try.func16, Try.ntmps16
  go_wp2
  go_ret
  exact ⟨rfl, rfl⟩
def tallyV (a b c : Int) : Value := .agg #[.int .i64 a, .int .i64 b, .int .i64 c]
theorem tally_nil (w : World) : Calls Try.prog 15 #[.pointer none] w fun e w' => e = .returned (tallyV 0 0 0) ∧ Below w.heap.size w w' := by
  go_enter Try.func15, Try.ntmps15
  go_wp2
  refine bodyPost_ret (v := tallyV 0 0 0) (by simp [results, Try.results15, go_sem, tallyV]) rfl ?_
  exact ⟨rfl, below_new (Below.refl _ _)⟩
set_option maxHeartbeats 1000000 in
theorem tally_any {w : World} {g : Nat} {F : Nat → Prop} {s : St} (h : Nt w g F s) : Calls Try.prog 15 #[ptrV g] w fun e w' => e = .returned (tallyV s.sent s.came s.lost) ∧ Below w.heap.size w w' := by
  have hg := h.lt
  obtain ⟨v, Y, h⟩ := h
  have c0 := hold_cell h.blk 0 rfl
  have c1 := hold_cell h.blk 1 rfl
  have c2 := hold_cell h.blk 2 rfl
  unfold ptrV
  clear h
  go_enter Try.func15, Try.ntmps15
  go_wp2
  refine bodyPost_ret (v := tallyV s.sent s.came s.lost) (by simp [results, Try.results15, go_sem, tallyV]) rfl ?_
  exact ⟨rfl, below_new (Below.refl _ _)⟩
end Go.Proofs.Ytnahboflpipfpaa
