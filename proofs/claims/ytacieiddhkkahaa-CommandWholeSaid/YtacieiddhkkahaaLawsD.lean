/- Plain facts on the keys of shards; no conditions. -/
import Derived.Test.YtacieiddhkkahaaLawsC
import Derived.Test.YtacieiddhkkahaaWalksN
namespace Go.Proofs.Ytacieiddhkkahaa
open Go.ChangeShapes Go.WideShapes Go.ChangeAt Go.RowKit

namespace M
theorem okAt_split {l : List (List UInt8)} {j : Nat} (h : okAt l (j + 1) = true) : ltB (l.getD j []) (l.getD (j + 1) []) = true := by
  unfold okAt at h
  simp at h
  simpa using h.2
theorem asc_of {l : List (List UInt8)} (h : okTo l l.length) : Asc l := by
  refine List.pairwise_iff_getElem.2 fun i j hi hj hij => ?_
  have key : ∀ j, j < l.length → ∀ i, i < j → l.getD i [] < l.getD j [] := by
    intro j
    induction j with
    | zero => intro _ i hi; omega
    | succ j ih =>
      intro hj i hi
      have h1 := ltB_iff.1 (okAt_split (h (j + 1) hj))
      by_cases e : i = j
      · rw [e]; exact h1
      · exact List.lt_trans (ih (by omega) i (by omega)) h1
  have := key j hj i hij
  rw [List.getD, List.getD, List.getElem?_eq_getElem hi, List.getElem?_eq_getElem hj] at this
  exact this
theorem right_of {l : List (List UInt8)} (h : okTo l l.length) : ∀ x ∈ l, rightB x.length = true := fun x hx => by
  obtain ⟨i, hi, rfl⟩ := List.getElem_of_mem hx
  have := h i hi
  unfold okAt at this
  rw [Bool.and_eq_true, List.getD, List.getElem?_eq_getElem hi] at this
  exact this.1
/-- What may be keys. -/
def Keys (l : List (List UInt8)) : Prop := l.length ≤ 8 ∧ (∀ x ∈ l, rightB x.length = true) ∧ Asc l
theorem keys_iff {l : List (List UInt8)} : rightsB l = true ↔ Keys l := by
  rw [rightsB_to]
  constructor
  · exact fun h => ⟨h.1, right_of h.2, asc_of h.2⟩
  · rintro ⟨h1, h2, h3⟩
    refine ⟨h1, fun i hi => ?_⟩
    cases i with
    | zero => rw [okAt_zero rfl]; exact h2 _ (getD_mem hi)
    | succ j => rw [okAt_succ rfl rfl, h2 _ (getD_mem hi), asc_at h3 hi]; rfl
theorem Keys.filter {l : List (List UInt8)} (h : Keys l) (p : List UInt8 → Bool) : Keys (l.filter p) :=
  ⟨Nat.le_trans (List.length_filter_le _ _) h.1, fun x hx => h.2.1 x (List.mem_filter.1 hx).1, h.2.2.filter p⟩
theorem Keys.short {l : List (List UInt8)} (h : Keys l) : ∀ x ∈ l, x.length ≤ 1000 := fun x hx => by
  have := (rightB_iff.1 (h.2.1 x hx)).2; omega
/-- Those of the first shards. -/
def parL (l : List (List UInt8)) (n : Int) (k : Nat) : List (List UInt8) := l.filter (fun x => decide (shL x n < k))
theorem par_zero {l : List (List UInt8)} (h : Keys l) {n : Int} (h1 : 1 ≤ n) (h2 : n ≤ 4) : parL l n 0 = [] := by
  unfold parL
  rw [List.filter_eq_nil_iff]
  intro x hx
  have := (shL_ok (h.2.1 x hx) h1 h2).2.1
  simp; omega
theorem par_all {l : List (List UInt8)} (h : Keys l) {n : Int} (h1 : 1 ≤ n) (h2 : n ≤ 4) {k : Nat} (hk : (k : Int) = n) : parL l n k = l := by
  unfold parL
  rw [List.filter_eq_self]
  intro x hx
  have := (shL_ok (h.2.1 x hx) h1 h2).2.2
  simp; omega
theorem par_step {l : List (List UInt8)} (h : Keys l) (n : Int) (k : Nat) : join (parL l n k) (ofL l k n) = parL l n (k + 1) := by
  refine asc_ext (join_asc _ _) (h.filter _).2.2 fun x => ?_
  rw [join_mem]
  unfold parL ofL
  rw [List.mem_filter, List.mem_filter, List.mem_filter, decide_eq_true_eq, decide_eq_true_eq, decide_eq_true_eq]
  constructor
  · rintro (⟨a, b⟩ | ⟨a, b⟩)
    · exact ⟨a, by omega⟩
    · exact ⟨a, by omega⟩
  · rintro ⟨a, b⟩
    by_cases e : shL x n < k
    · exact .inl ⟨a, e⟩
    · exact .inr ⟨a, by omega⟩
theorem par_apart (l : List (List UInt8)) (n : Int) (k : Nat) : meetB (parL l n k) (ofL l k n) = false := by
  cases e : meetB (parL l n k) (ofL l k n)
  · rfl
  · obtain ⟨x, h1, h2⟩ := meetB_iff.1 e
    unfold parL at h2
    unfold ofL at h1
    rw [List.mem_filter, decide_eq_true_eq] at h1 h2
    omega
theorem and_small : ∀ m : Fin 16, ∀ k : Fin 4, bits .and .i64 (((m.val : Nat) : Int) / 2 ^ k.val) 1 = if m.val.testBit k.val then 1 else 0 := by decide +kernel
theorem and_yes {m k : Nat} (hm : m < 16) (hk : k < 4) (h : m.testBit k = true) : bits .and .i64 ((m : Int) / 2 ^ k) 1 = 1 := by
  have := and_small ⟨m, hm⟩ ⟨k, hk⟩
  simpa [h] using this
theorem and_no {m k : Nat} (hm : m < 16) (hk : k < 4) (h : m.testBit k = false) : bits .and .i64 ((m : Int) / 2 ^ k) 1 = 0 := by
  have := and_small ⟨m, hm⟩ ⟨k, hk⟩
  simpa [h] using this
theorem bit_of {l : List (List UInt8)} (h : Keys l) {n : Int} (h1 : 1 ≤ n) (h2 : n ≤ 4) (k : Nat) : (maskL l n).testBit k = true ↔ 0 < (ofL l k n).length := by
  rw [maskL_bit, List.any_eq_true, List.length_pos_iff_exists_mem]
  unfold ofL
  constructor
  · rintro ⟨x, hx, e⟩
    rw [decide_eq_true_eq] at e
    have := (shL_ok (h.2.1 x hx) h1 h2).2.1
    exact ⟨x, List.mem_filter.2 ⟨hx, by rw [decide_eq_true_eq]; omega⟩⟩
  · rintro ⟨x, hx⟩
    rw [List.mem_filter, decide_eq_true_eq] at hx
    exact ⟨x, hx.1, by rw [decide_eq_true_eq]; omega⟩
end M

end Go.Proofs.Ytacieiddhkkahaa
