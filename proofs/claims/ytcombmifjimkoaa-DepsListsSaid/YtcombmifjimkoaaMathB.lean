/- Plain facts on the list of all instances that seven numbers have: its length, its order, what is on it; no conditions. -/
import Derived.Test.YtcombmifjimkoaaMath
namespace Go.Proofs.Ytcombmifjimkoaa
namespace M
/-- One replica's instances; those of the first k; how many. -/
def row (k m : Nat) : List (Int × Int) := (List.range m).map fun (j : Nat) => ((k : Int), (j : Int) + 1)
def upto (a : Nat → Int) : Nat → List (Int × Int)
  | 0 => []
  | k + 1 => upto a k ++ row k (a k).toNat
def ln (a : Nat → Int) : Nat → Nat
  | 0 => 0
  | k + 1 => ln a k + (a k).toNat
theorem row_succ (k m : Nat) : row k (m + 1) = row k m ++ [((k : Int), (m : Int) + 1)] := by
  unfold row
  rw [List.range_succ, List.map_append]
  rfl
theorem row_length (k m : Nat) : (row k m).length = m := by simp [row]
theorem upto_length (a : Nat → Int) : ∀ k, (upto a k).length = ln a k
  | 0 => rfl
  | k + 1 => by rw [upto, List.length_append, upto_length a k, row_length, ln]
theorem mem_row {k m : Nat} {p : Int × Int} : p ∈ row k m ↔ p.1 = k ∧ 1 ≤ p.2 ∧ p.2 ≤ m := by
  unfold row
  rw [List.mem_map]
  constructor
  · rintro ⟨j, hj, rfl⟩
    have := List.mem_range.1 hj
    exact ⟨rfl, by show 1 ≤ (j : Int) + 1; omega, by show (j : Int) + 1 ≤ m; omega⟩
  · rintro ⟨h1, h2, h3⟩
    refine ⟨(p.2 - 1).toNat, List.mem_range.2 (by omega), ?_⟩
    obtain ⟨x, y⟩ := p
    simp only at h1 h2 h3 ⊢
    subst h1
    congr 1
    omega
theorem mem_upto {a : Nat → Int} {p : Int × Int} : ∀ {k : Nat}, p ∈ upto a k ↔ ∃ j : Nat, j < k ∧ p.1 = j ∧ 1 ≤ p.2 ∧ p.2 ≤ ((a j).toNat : Int)
  | 0 => by
    constructor
    · intro h; cases h
    · rintro ⟨j, h, _⟩; omega
  | k + 1 => by
    rw [upto, List.mem_append, mem_upto, mem_row]
    constructor
    · rintro (⟨j, h, g⟩ | g)
      · exact ⟨j, by omega, g⟩
      · exact ⟨k, by omega, g⟩
    · rintro ⟨j, h, g⟩
      by_cases e : j = k
      · subst e; exact .inr g
      · exact .inl ⟨j, by omega, g⟩
/-- Ahead of. -/
def lt (p q : Int × Int) : Prop := p.1 < q.1 ∨ (p.1 = q.1 ∧ p.2 < q.2)
theorem row_sorted (k : Nat) : ∀ m, (row k m).Pairwise lt
  | 0 => by simp [row]
  | m + 1 => by
    rw [row_succ, List.pairwise_append]
    refine ⟨row_sorted k m, List.pairwise_singleton _ _, fun p hp q hq => ?_⟩
    have := mem_row.1 hp
    simp at hq
    subst hq
    exact .inr ⟨this.1, by show p.2 < (m : Int) + 1; omega⟩
theorem upto_sorted (a : Nat → Int) : ∀ k, (upto a k).Pairwise lt
  | 0 => List.Pairwise.nil
  | k + 1 => by
    rw [upto, List.pairwise_append]
    refine ⟨upto_sorted a k, row_sorted k _, fun p hp q hq => ?_⟩
    obtain ⟨j, h, g, _⟩ := mem_upto.1 hp
    have := mem_row.1 hq
    exact .inl (by omega)

/-- The j-th one. -/
def rep (a : Nat → Int) (j : Nat) : Int := ((upto a 7).getD j (0, 0)).1
def slo (a : Nat → Int) (j : Nat) : Int := ((upto a 7).getD j (0, 0)).2
theorem at_eq {a : Nat → Int} {j : Nat} (h : j < ln a 7) : ∃ h', (rep a j, slo a j) = (upto a 7)[j]'h' := by
  have h' : j < (upto a 7).length := by rw [upto_length]; exact h
  refine ⟨h', ?_⟩
  unfold rep slo
  simp [List.getD, h']
theorem has_at_j {a : Nat → Int} {j : Nat} (hr : right a = true) (h : j < ln a 7) : has a (rep a j) (slo a j) = true := by
  obtain ⟨h', e⟩ := at_eq h
  have hm : (rep a j, slo a j) ∈ upto a 7 := by rw [e]; exact List.getElem_mem h'
  obtain ⟨i, hi, g1, g2, g3⟩ := mem_upto.1 hm
  have := right_iff.1 hr i hi
  simp only at g1 g2 g3
  rw [g1]
  exact has_iff.2 ⟨by omega, g2, by rw [show (i : Int).toNat = i by omega]; omega⟩
theorem step_lt {a : Nat → Int} {j : Nat} (h : j + 1 < ln a 7) : rep a j < rep a (j + 1) ∨ (rep a j = rep a (j + 1) ∧ slo a j < slo a (j + 1)) := by
  obtain ⟨h1, e1⟩ := at_eq (a := a) (j := j) (by omega)
  obtain ⟨h2, e2⟩ := at_eq h
  have := List.pairwise_iff_getElem.1 (upto_sorted a 7) j (j + 1) h1 h2 (by omega)
  rw [← e1, ← e2] at this
  exact this
/-- Found among the first k. -/
def fnd (a : Nat → Int) (r s : Int) : Nat → Bool
  | 0 => false
  | k + 1 => fnd a r s k || (decide (rep a k = r) && decide (slo a k = s))
theorem fnd_iff {a : Nat → Int} {r s : Int} : ∀ {k : Nat}, fnd a r s k = true ↔ ∃ j, j < k ∧ rep a j = r ∧ slo a j = s
  | 0 => by
    constructor
    · intro h; cases h
    · rintro ⟨j, h, _⟩; omega
  | k + 1 => by
    rw [fnd, Bool.or_eq_true, fnd_iff, Bool.and_eq_true, decide_eq_true_iff, decide_eq_true_iff]
    constructor
    · rintro (⟨j, h, g⟩ | g)
      · exact ⟨j, by omega, g⟩
      · exact ⟨k, by omega, g⟩
    · rintro ⟨j, h, g⟩
      by_cases e : j = k
      · subst e; exact .inr g
      · exact .inl ⟨j, by omega, g⟩
theorem fnd_has {a : Nat → Int} (hr : right a = true) (r s : Int) : fnd a r s (ln a 7) = has a r s := by
  rw [Bool.eq_iff_iff, fnd_iff, has_iff]
  constructor
  · rintro ⟨j, h, rfl, rfl⟩
    exact has_iff.1 (has_at_j hr h)
  · rintro ⟨h1, h2, h3⟩
    have hm : (r, s) ∈ upto a 7 := mem_upto.2 ⟨r.toNat, by omega, by show r = _; omega, h2, by show s ≤ _; omega⟩
    obtain ⟨j, hj, e⟩ := List.getElem_of_mem hm
    have hj' : j < ln a 7 := by rw [← upto_length]; exact hj
    obtain ⟨h', e'⟩ := at_eq hj'
    rw [e] at e'
    simp only [Prod.mk.injEq] at e'
    exact ⟨j, hj', e'.1, e'.2⟩
/-- The sum of the first k. -/
def sm (a : Nat → Int) : Nat → Int
  | 0 => 0
  | k + 1 => sm a k + a k
theorem sm_ln {a : Nat → Int} (hr : right a = true) : ∀ {k : Nat}, k ≤ 7 → sm a k = (ln a k : Int)
  | 0, _ => rfl
  | k + 1, h => by
    have := right_iff.1 hr k (by omega)
    rw [sm, ln, sm_ln hr (by omega)]
    omega
theorem ln_le {a : Nat → Int} (hr : right a = true) : ∀ {k : Nat}, k ≤ 7 → ln a k ≤ k * 1048576
  | 0, _ => Nat.le_refl _
  | k + 1, h => by
    have := right_iff.1 hr k (by omega)
    have := ln_le hr (k := k) (by omega)
    rw [ln]
    omega
theorem ln_mono (a : Nat → Int) {k : Nat} : ∀ {m : Nat}, k ≤ m → ln a k ≤ ln a m
  | 0, h => by
    have : k = 0 := by omega
    subst this; exact Nat.le_refl _
  | m + 1, h => by
    by_cases e : k = m + 1
    · subst e; exact Nat.le_refl _
    · have := ln_mono a (k := k) (m := m) (by omega)
      rw [ln]
      omega
end M
end Go.Proofs.Ytcombmifjimkoaa
