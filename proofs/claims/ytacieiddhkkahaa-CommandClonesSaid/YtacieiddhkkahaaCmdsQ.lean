/- Contracts of slices.DeleteFunc at the closures of Part, on rows of one's own; no conditions but the lengths that they name. -/
import Derived.Test.YtacieiddhkkahaaCmdsP
namespace Go.Proofs.Ytacieiddhkkahaa
open Go.ChangeShapes Go.WideShapes Go.ChangeAt Go.RowKit

theorem grown_of {a b : World} (h : Below a.heap.size a b) (row : Option Nat) : a.grownBy b row := ⟨h.os, h.tape, h.output, h.size, fun i hi _ => h.block i hi⟩
theorem own_frontN {w : World} {base g n c : Nat} {e : TypeId} {k : Nat} {xs : List Value} {j : Nat} (h : w.ownsRow base e k (.slice (some ⟨g, 0, none⟩) n c) n xs) (hj : j ≤ n) : w.ownsRow base e k (.slice (some ⟨g, 0, none⟩) j c) j (xs.take (j * k)) := by
  obtain ⟨hl, h2⟩ := h
  have hjk : j * k ≤ n * k := Nat.mul_le_mul_right k hj
  rcases h2 with ⟨h0, _⟩ | ⟨g', cap, cur, hv, hb, hg, hn, hm, hs, ht⟩
  · cases h0
  · cases hv
    refine ⟨by rw [List.length_take, hl]; omega, .inr ⟨g, c, cur, rfl, hb, hg, by omega, hm, hs, ?_⟩⟩
    rw [← ht, List.take_take, Nat.min_eq_left hjk]
theorem own_setCells {e : TypeId} {k base g n c q : Nat} : ∀ (vs : List Value) (o : Nat) (w : World) (xs : List Value), w.ownsRow base e k (.slice (some ⟨g, 0, none⟩) n c) n xs → q ≤ o → ∃ ys, (w.setCells g o vs).ownsRow base e k (.slice (some ⟨g, 0, none⟩) n c) n ys ∧ ys.take q = xs.take q ∧ w.grownBy (w.setCells g o vs) (some g)
  | [], o, w, xs, h, _ => ⟨xs, h, rfl, World.grownBy.refl _ _⟩
  | v :: vs, o, w, xs, h, hq => by
    obtain ⟨h1, h2⟩ := h.stored o v
    obtain ⟨ys, h3, h4, h5⟩ := own_setCells (q := q) vs (o + 1) (w.setCell ⟨g, o, none⟩ v) _ h1 (by omega)
    refine ⟨ys, h3, ?_, h2.trans h5⟩
    rw [h4, List.take_set_of_le hq]
theorem run_clearN (w : World) (t e ty : TypeId) (z : Value) (ht : Try.prog.underlying t = some (.slice e)) (hv : ∀ w, (zeroValue e).run Try.prog w = .ok z w) (b o n c : Nat) (vs : List Value) (hvs : (Builtin.zeroCells z.cells n).toList = vs) (h1 : ∀ v ∈ vs, v.oneCell' = true) (hn : 0 < n)
    (hc : ∀ j, j < vs.length → (w.cell? ⟨b, o + j, none⟩).isSome = true) (hf : ∀ j, j < vs.length → w.frozen? ⟨b, o + j, none⟩ = false) :
    (Builtin.clear_ #[t] ty #[.slice (some ⟨b, o, none⟩) n c]).run Try.prog w = .ok (.tuple #[]) (w.setCells b o vs) := by
  have hst := run_storeCells_cells (P := Try.prog) b o vs 0 w (by simpa using hc) (by simpa using hf) h1
  simp only [Nat.add_zero] at hst
  obtain ⟨m, rfl⟩ : ∃ m, n = m + 1 := ⟨n - 1, by omega⟩
  simp [Builtin.clear_, run_underlying ht, hv, hvs, hst]
theorem zero_mem (cs : Array Value) (n : Nat) (h : ∀ v ∈ cs.toList, v.oneCell' = true) : ∀ v ∈ (Builtin.zeroCells cs n).toList, v.oneCell' = true := by
  intro v hv
  unfold Builtin.zeroCells at hv
  simp at hv
  obtain ⟨a, ha, rfl⟩ := hv
  have hs : 0 < cs.size := by
    rcases Nat.eq_zero_or_pos cs.size with h0 | h0
    · rw [h0] at ha; omega
    · exact h0
  have hm : a % cs.size < cs.size := Nat.mod_lt _ hs
  rw [getElem!_pos cs _ hm]
  exact h _ (Array.mem_toList_iff.2 (Array.getElem_mem hm))

namespace M
theorem set_take {α : Type} : ∀ (L : List α) (i : Nat) (r : α), i < L.length → (L.set i r).take (i + 1) = L.take i ++ [r]
  | [], i, r, h => by simp at h
  | x :: L, 0, r, h => by simp
  | x :: L, i + 1, r, h => by
    have := set_take L i r (by simpa using h)
    simp [this]
theorem set_drop {α : Type} : ∀ (L : List α) (i j : Nat) (r : α), i < j → (L.set i r).drop j = L.drop j
  | [], i, j, r, h => by simp
  | x :: L, i, 0, r, h => by omega
  | x :: L, 0, j + 1, r, h => by simp
  | x :: L, i + 1, j + 1, r, h => by
    have := set_drop L i j r (by omega)
    simp [this]
theorem drop_get {α : Type} {L l : List α} {j : Nat} (z : α) (h : L.drop j = l.drop j) : L.getD j z = l.getD j z := by
  have e : (L.drop j)[0]? = (l.drop j)[0]? := by rw [h]
  rw [List.getElem?_drop, List.getElem?_drop, Nat.add_zero] at e
  rw [List.getD, List.getD, e]
theorem drop_next {α : Type} {L l : List α} {j : Nat} (h : L.drop j = l.drop j) : L.drop (j + 1) = l.drop (j + 1) := by
  rw [← List.drop_drop, ← List.drop_drop, h]
theorem filter_keep {α : Type} {l : List α} {p : α → Bool} {j : Nat} (z : α) (hj : j < l.length) (h : p (l.getD j z) = true) : (l.take (j + 1)).filter p = (l.take j).filter p ++ [l.getD j z] := by
  rw [take_at z hj, List.filter_append]; simp only [List.filter_cons, h, if_true, List.filter_nil]
theorem filter_skip {α : Type} {l : List α} {p : α → Bool} {j : Nat} (z : α) (hj : j < l.length) (h : p (l.getD j z) = false) : (l.take (j + 1)).filter p = (l.take j).filter p := by
  rw [take_at z hj, List.filter_append]; simp only [List.filter_cons, h, Bool.false_eq_true, if_false, List.filter_nil, List.append_nil]
theorem filter_first {α : Type} {l : List α} {p : α → Bool} (z : α) : ∀ i, i ≤ l.length → (∀ j, j < i → p (l.getD j z) = true) → (l.take i).filter p = l.take i
  | 0, _, _ => by simp
  | i + 1, hi, h => by
    rw [filter_keep z (by omega) (h i (by omega)), filter_first z i (by omega) (fun j hj => h j (by omega)), take_at z (by omega)]
end M

theorem rdsC_set : ∀ (L : List (List UInt8 × Int × Int)) (i : Nat) (r : (List UInt8 × Int × Int)), i < L.length → (((rdsC L).set (i * 3) (.string ⟨r.1.toArray⟩)).set (i * 3 + 1) (.int .i64 r.2.1)).set (i * 3 + 2) (.int .i64 r.2.2) = rdsC (L.set i r)
  | [], i, r, h => by simp at h
  | x :: L, 0, r, h => by simp [rdsC, rdC]
  | x :: L, i + 1, r, h => by
    have := rdsC_set L i r (by simpa using h)
    have e : rdsC (x :: L) = rdC x ++ rdsC L := rfl
    have e2 : rdsC ((x :: L).set (i + 1) r) = rdC x ++ rdsC (L.set i r) := rfl
    rw [e, e2, ← this]
    simp only [rdC, List.cons_append, List.nil_append]
    rw [show (i + 1) * 3 = i * 3 + 3 by omega]
    simp [Nat.add_assoc, List.set_cons_succ]

theorem rdsC_take (L : List (List UInt8 × Int × Int)) (i : Nat) : (rdsC L).take (i * 3) = rdsC (L.take i) := by
  induction L generalizing i with
  | nil => simp [rdsC]
  | cons x L ih =>
    cases i with
    | zero => simp [rdsC]
    | succ i =>
      have e : rdsC (x :: L) = rdC x ++ rdsC L := rfl
      have e2 : rdsC ((x :: L).take (i + 1)) = rdC x ++ rdsC (L.take i) := rfl
      rw [e, e2, ← ih, List.take_append, List.take_of_length_le (by simp [rdC]; omega)]
      congr 1
      rw [show (i + 1) * 3 - (rdC x).length = i * 3 by simp [rdC]; omega]

theorem wrsC_set : ∀ (L : List (List UInt8 × List UInt8)) (i : Nat) (r : (List UInt8 × List UInt8)), i < L.length → ((wrsC L).set (i * 2) (.string ⟨r.1.toArray⟩)).set (i * 2 + 1) (.string ⟨r.2.toArray⟩) = wrsC (L.set i r)
  | [], i, r, h => by simp at h
  | x :: L, 0, r, h => by simp [wrsC, wrC]
  | x :: L, i + 1, r, h => by
    have := wrsC_set L i r (by simpa using h)
    have e : wrsC (x :: L) = wrC x ++ wrsC L := rfl
    have e2 : wrsC ((x :: L).set (i + 1) r) = wrC x ++ wrsC (L.set i r) := rfl
    rw [e, e2, ← this]
    simp only [wrC, List.cons_append, List.nil_append]
    rw [show (i + 1) * 2 = i * 2 + 2 by omega]
    simp [Nat.add_assoc, List.set_cons_succ]

theorem wrsC_take (L : List (List UInt8 × List UInt8)) (i : Nat) : (wrsC L).take (i * 2) = wrsC (L.take i) := by
  induction L generalizing i with
  | nil => simp [wrsC]
  | cons x L ih =>
    cases i with
    | zero => simp [wrsC]
    | succ i =>
      have e : wrsC (x :: L) = wrC x ++ wrsC L := rfl
      have e2 : wrsC ((x :: L).take (i + 1)) = wrC x ++ wrsC (L.take i) := rfl
      rw [e, e2, ← ih, List.take_append, List.take_of_length_le (by simp [wrC]; omega)]
      congr 1
      rw [show (i + 1) * 2 - (wrC x).length = i * 2 by simp [wrC]; omega]

end Go.Proofs.Ytacieiddhkkahaa
