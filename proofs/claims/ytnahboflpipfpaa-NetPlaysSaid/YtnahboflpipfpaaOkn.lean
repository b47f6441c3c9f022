/- A net's numbers and messages stay small and right, step by step; no conditions but those that they name. -/
import Derived.Test.YtnahboflpipfpaaTak
namespace Go.Proofs.Ytnahboflpipfpaa
open Go.ChangeShapes Go.WideShapes Go.ChangeAt Go.RowKit

/-- Counts and messages of at most n steps. -/
structure St.OkN (s : St) (n : Int) : Prop where
  s0 : 0 ≤ s.sent
  s1 : s.sent ≤ n
  c0 : 0 ≤ s.came
  c1 : s.came ≤ n
  l0 : 0 ≤ s.lost
  l1 : s.lost ≤ n
  n1 : (s.ms.length : Int) ≤ n
  sm : Sm s.ms
  rt : ∀ m ∈ s.ms, M.rightM m = true
  eq : s.sent = s.came + s.lost + s.ms.length
  rm : (s.ms.length : Int) ≤ s.room
theorem St.OkN.ok {s : St} {n : Int} (h : s.OkN n) (hn : n ≤ 1000) : s.Ok := ⟨h.s0, by have := h.s1; omega, h.c0, by have := h.c1; omega, h.l0, by have := h.l1; omega, by have := h.n1; omega, h.sm⟩
theorem St.OkN.up {s : St} {n m : Int} (h : s.OkN n) (hn : n ≤ m) : s.OkN m := ⟨h.s0, by have := h.s1; omega, h.c0, by have := h.c1; omega, h.l0, by have := h.l1; omega, by have := h.n1; omega, h.sm, h.rt, h.eq, h.rm⟩
theorem St.OkN.new {n : Int} (h : 1 ≤ n) : (St.new n).OkN 0 := ⟨Int.le_refl _, Int.le_refl _, Int.le_refl _, Int.le_refl _, Int.le_refl _, Int.le_refl _, Int.le_refl _, fun _ h => (List.not_mem_nil h).elim, fun _ h => (List.not_mem_nil h).elim, rfl, by show (0 : Int) ≤ n; omega⟩
theorem St.OkN.send {s : St} {n : Int} (h : s.OkN n) {m : M.Msg} (K : M.Mod m.r.c) : (s.send m).OkN (n + 1) := by
  unfold St.send
  rcases hr : M.rightM m with _ | _
  · simp only [Bool.false_eq_true, if_false]
    exact h.up (by omega)
  · simp only [if_true]
    rcases hf : s.full with _ | _
    · have hq : ¬ s.room ≤ (s.ms.length : Int) := by simpa [St.full] using hf
      simp only [Bool.false_eq_true, if_false]
      obtain ⟨s0, s1, c0, c1, l0, l1, n1, sm, rt, eq, rm⟩ := h
      refine ⟨by simp only; omega, by simp only; omega, c0, by simp only; omega, l0, by simp only; omega, by simp; omega, fun x hx => ?_, fun x hx => ?_, by simp; omega, by simp; omega⟩
      · rcases List.mem_append.1 hx with hx | hx
        · exact sm x hx
        · rw [List.mem_singleton.1 hx]; exact K
      · rcases List.mem_append.1 hx with hx | hx
        · exact rt x hx
        · rw [List.mem_singleton.1 hx]; exact hr
    · simp only [if_true]
      obtain ⟨s0, s1, c0, c1, l0, l1, n1, sm, rt, eq, rm⟩ := h
      exact ⟨by simp only; omega, by simp only; omega, c0, by simp only; omega, by simp only; omega, by simp only; omega, by simp only; omega, sm, rt, by simp only; omega, rm⟩
theorem cut_len {s : St} {j : Nat} (h : j < s.ms.length) : (s.cut j).length = s.ms.length - 1 := by
  rw [cut_nat]; simp; omega
theorem cut_mem {s : St} {j : Nat} : ∀ x ∈ s.cut j, x ∈ s.ms := fun x hx => by
  rw [cut_nat] at hx
  rcases List.mem_append.1 hx with hx | hx
  · exact List.mem_of_mem_take hx
  · exact List.mem_of_mem_drop hx
theorem St.OkN.take {s : St} {n : Int} (h : s.OkN n) (k : Int) : (s.take k).OkN (n + 1) := by
  unfold St.take
  rcases s.lk_cases k with h0 | ⟨h0, j, rfl, hj⟩
  · rw [if_neg (by rw [h0]; decide)]; exact h.up (by omega)
  · rw [if_pos h0]
    have hl := cut_len hj
    obtain ⟨s0, s1, c0, c1, l0, l1, n1, sm, rt, eq, rm⟩ := h
    exact ⟨s0, by simp only; omega, by simp only; omega, by simp only; omega, l0, by simp only; omega, by simp only [hl]; omega, fun x hx => sm x (cut_mem x hx), fun x hx => rt x (cut_mem x hx), by simp only [hl]; omega, by simp only [hl]; omega⟩
theorem St.OkN.lose {s : St} {n : Int} (h : s.OkN n) (k : Int) : (s.lose k).OkN (n + 1) := by
  unfold St.lose
  rcases s.lk_cases k with h0 | ⟨h0, j, rfl, hj⟩
  · rw [if_neg (by rw [h0]; decide)]; exact h.up (by omega)
  · rw [if_pos h0]
    have hl := cut_len hj
    obtain ⟨s0, s1, c0, c1, l0, l1, n1, sm, rt, eq, rm⟩ := h
    exact ⟨s0, by simp only; omega, c0, by simp only; omega, by simp only; omega, by simp only; omega, by simp only [hl]; omega, fun x hx => sm x (cut_mem x hx), fun x hx => rt x (cut_mem x hx), by simp only [hl]; omega, by simp only [hl]; omega⟩
theorem St.at_mem {s : St} {j : Nat} (h : j < s.ms.length) : s.at j ∈ s.ms := by rw [St.at_eq h]; exact List.getElem_mem h
theorem St.twice_send {s : St} {n : Int} (h : s.OkN n) {j : Nat} (hj : j < s.ms.length) (hf : s.full = false) : s.twice j = s.send (s.at j) ∧ s.twiceR j = s.sendR (s.at j) := by
  unfold St.twice St.send St.twiceR St.sendR
  rw [if_pos (St.lk_at hj), if_pos (St.lk_at hj), h.rt _ (St.at_mem hj), hf]
  exact ⟨rfl, rfl⟩
theorem St.OkN.twice {s : St} {n : Int} (h : s.OkN n) (k : Int) : (s.twice k).OkN (n + 1) := by
  rcases s.lk_cases k with h0 | ⟨h0, j, rfl, hj⟩
  · unfold St.twice; rw [if_neg (by rw [h0]; decide)]; exact h.up (by omega)
  · rcases hf : s.full with _ | _
    · rw [(St.twice_send h hj hf).1]; exact h.send (h.sm _ (St.at_mem hj))
    · unfold St.twice; rw [if_pos h0, hf]; exact h.up (by omega)
theorem St.send_room (s : St) (m : M.Msg) : (s.send m).room = s.room := by unfold St.send; split <;> (try split) <;> rfl
theorem St.take_room (s : St) (k : Int) : (s.take k).room = s.room := by unfold St.take; split <;> rfl
theorem St.lose_room (s : St) (k : Int) : (s.lose k).room = s.room := by unfold St.lose; split <;> rfl
theorem St.twice_room (s : St) (k : Int) : (s.twice k).room = s.room := by unfold St.twice; split <;> (try split) <;> rfl
/-- What the first of some is, and what is left of them. -/
theorem St.take_first {s : St} {m : M.Msg} {l : List M.Msg} (h : s.ms = m :: l) : s.take 0 = ⟨s.room, s.sent, s.came + 1, s.lost, l⟩ ∧ s.at 0 = m ∧ s.lk 0 = 0 := by
  have hj : 0 < s.ms.length := by rw [h]; simp
  have h0 : s.lk 0 = 0 := St.lk_at hj
  refine ⟨?_, ?_, h0⟩
  · unfold St.take
    rw [if_pos h0]
    have : s.cut 0 = l := by rw [show (0 : Int) = ((0 : Nat) : Int) from rfl, cut_nat, h]; rfl
    rw [this]
  · rw [show (0 : Int) = ((0 : Nat) : Int) from rfl, St.at_eq hj]; simp [h]
theorem St.take_none {s : St} (h : s.ms = []) : s.lk 0 = 10 := St.lk_no (.inr (by rw [h]; exact Int.le_refl _))
theorem St.send_ok {s : St} {m : M.Msg} (h : s.sendR m = 0) : (s.send m).ms = s.ms ++ [m] := by
  unfold St.sendR at h
  unfold St.send
  rcases hr : M.rightM m with _ | _
  · rw [hr] at h; simp at h
  · rcases hf : s.full with _ | _
    · simp
    · rw [hr, hf] at h; simp at h
theorem St.send_no {s : St} {m : M.Msg} (h : s.sendR m ≠ 0) : (s.send m).ms = s.ms := by
  unfold St.sendR at h
  unfold St.send
  rcases hr : M.rightM m with _ | _
  · simp
  · rcases hf : s.full with _ | _
    · rw [hr, hf] at h; simp at h
    · simp
end Go.Proofs.Ytnahboflpipfpaa
