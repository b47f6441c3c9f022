/- Plain facts on the parts of a command; no conditions. -/
import Derived.Test.YtacieiddhkkahaaLawsP
namespace Go.Proofs.Ytacieiddhkkahaa
open Go.ChangeShapes Go.WideShapes Go.ChangeAt Go.RowKit

namespace M
theorem in_sh (k n : Int) (x : List UInt8) : (!elseB k n x) = decide (shL x n = k) := by
  rw [Bool.eq_iff_iff]; unfold elseB shL; simp
theorem trans_of {c : Cmd} (h : rightC c = true) (hk : ¬ c.k = 0) : transB c = true := by
  unfold rightC at h
  rw [if_neg hk] at h
  split at h
  · rw [Bool.and_eq_true] at h; exact h.1
  · split at h
    · exact h
    · cases h
theorem rights_of {c : Cmd} (h : rightC c = true) (hk : ¬ c.k = 0) : Keys (rk c.rs) ∧ Keys (wk c.ws) := by
  have := trans_of h hk
  unfold transB at this
  simp only [Bool.and_eq_true] at this
  obtain ⟨_, _, _, _, _, _, _, h8, h9⟩ := this
  unfold areR at h8
  unfold areW at h9
  rw [Bool.and_eq_true] at h8 h9
  exact ⟨keys_iff.1 h8.2, keys_iff.1 h9.2⟩
theorem keys_right {c : Cmd} (h : rightC c = true) (hk : ¬ c.k = 0) : ∀ x ∈ keysL c, rightB x.length = true := fun x hx => by
  obtain ⟨h1, h2⟩ := rights_of h hk
  rcases (join_mem _ _ x).1 hx with hx | hx
  · exact h1.2.1 x hx
  · exact h2.2.1 x hx
theorem keys_cut (c : Cmd) (k n : Int) : keysL (cut c k n) = ofL (keysL c) k n := by
  refine asc_ext (join_asc _ _) ((join_asc _ _).filter _) fun x => ?_
  show x ∈ join (rk (partR k n c.rs)) (wk (partW k n c.ws)) ↔ _
  unfold keysL ofL
  rw [join_mem, rk_part, wk_part, List.mem_filter, List.mem_filter, List.mem_filter, join_mem, in_sh]
  constructor
  · rintro (⟨a, b⟩ | ⟨a, b⟩)
    · exact ⟨.inl a, b⟩
    · exact ⟨.inr a, b⟩
  · rintro ⟨a | a, b⟩
    · exact .inl ⟨a, b⟩
    · exact .inr ⟨a, b⟩
theorem void_of (c : Cmd) (k n : Int) : (ofL (keysL c) k n).length = 0 ↔ voidB c k n = true := by
  rw [← keys_cut, List.length_eq_zero_iff]
  show join (rk (partR k n c.rs)) (wk (partW k n c.ws)) = [] ↔ _
  unfold voidB emptyB
  rw [Bool.and_eq_true, decide_eq_true_eq, decide_eq_true_eq, List.eq_nil_iff_forall_not_mem]
  constructor
  · intro h
    refine ⟨?_, ?_⟩
    · rw [← rk_len, List.length_eq_zero_iff, List.eq_nil_iff_forall_not_mem]
      exact fun x hx => h x ((join_mem _ _ x).2 (.inl hx))
    · rw [← wk_len, List.length_eq_zero_iff, List.eq_nil_iff_forall_not_mem]
      exact fun x hx => h x ((join_mem _ _ x).2 (.inr hx))
  · rintro ⟨h1, h2⟩ x hx
    rw [List.length_eq_zero_iff] at h1 h2
    rw [h1, h2] at hx
    rcases (join_mem _ _ x).1 hx with hx | hx <;> cases hx
theorem void_yes {c : Cmd} {k n : Int} (h : voidB c k n = true) : (ofL (keysL c) k n).length = 0 := (void_of c k n).2 h
theorem void_no {c : Cmd} {k n : Int} (h : voidB c k n = false) : ¬ (ofL (keysL c) k n).length = 0 := fun e => by
  rw [(void_of c k n).1 e] at h; cases h
/-- How many of the first shards. -/
def cntR (l : List (List UInt8 × Int × Int)) (n : Int) (k : Nat) : Nat := (l.filter (fun r => decide (shL r.1 n < k))).length
def cntW (l : List (List UInt8 × List UInt8)) (n : Int) (k : Nat) : Nat := (l.filter (fun r => decide (shL r.1 n < k))).length
theorem count_step {α : Type} (f : α → Int) (k : Nat) (l : List α) : (l.filter (fun r => decide (f r < k))).length + (l.filter (fun r => decide (f r = k))).length = (l.filter (fun r => decide (f r < ((k + 1 : Nat) : Int)))).length := by
  induction l with
  | nil => rfl
  | cons x l ih =>
    simp only [List.filter_cons]
    by_cases h1 : f x < k
    · rw [if_pos (decide_eq_true h1), if_neg (by simp; omega), if_pos (decide_eq_true (by omega))]; simp only [List.length_cons]; omega
    · by_cases h2 : f x = k
      · rw [if_neg (by simpa using h1), if_pos (decide_eq_true h2), if_pos (decide_eq_true (by omega))]; simp only [List.length_cons]; omega
      · rw [if_neg (by simpa using h1), if_neg (by simpa using h2), if_neg (by simp; omega)]; exact ih
theorem cntR_step (l : List (List UInt8 × Int × Int)) (n : Int) (k : Nat) : cntR l n k + (partR k n l).length = cntR l n (k + 1) := by
  unfold cntR
  rw [← count_step (fun r : (List UInt8 × Int × Int) => shL r.1 n) k l]
  have : partR k n l = l.filter (fun r => decide (shL r.1 n = k)) := by
    unfold partR; congr 1; funext r; unfold inR; exact in_sh k n r.1
  rw [this]
theorem cntW_step (l : List (List UInt8 × List UInt8)) (n : Int) (k : Nat) : cntW l n k + (partW k n l).length = cntW l n (k + 1) := by
  unfold cntW
  rw [← count_step (fun r : (List UInt8 × List UInt8) => shL r.1 n) k l]
  have : partW k n l = l.filter (fun r => decide (shL r.1 n = k)) := by
    unfold partW; congr 1; funext r; unfold inW; exact in_sh k n r.1
  rw [this]
theorem cntR_le (l : List (List UInt8 × Int × Int)) (n : Int) (k : Nat) : cntR l n k ≤ l.length := List.length_filter_le _ _
theorem cntW_le (l : List (List UInt8 × List UInt8)) (n : Int) (k : Nat) : cntW l n k ≤ l.length := List.length_filter_le _ _
theorem cntR_zero {l : List (List UInt8 × Int × Int)} (h : Keys (rk l)) {n : Int} (h1 : 1 ≤ n) (h2 : n ≤ 4) : cntR l n 0 = 0 := by
  unfold cntR
  rw [List.length_eq_zero_iff, List.filter_eq_nil_iff]
  intro r hr
  have := (shL_ok (h.2.1 r.1 (List.mem_map_of_mem hr)) h1 h2).2.1
  simp; omega
theorem cntW_zero {l : List (List UInt8 × List UInt8)} (h : Keys (wk l)) {n : Int} (h1 : 1 ≤ n) (h2 : n ≤ 4) : cntW l n 0 = 0 := by
  unfold cntW
  rw [List.length_eq_zero_iff, List.filter_eq_nil_iff]
  intro r hr
  have := (shL_ok (h.2.1 r.1 (List.mem_map_of_mem hr)) h1 h2).2.1
  simp; omega
theorem cntR_all {l : List (List UInt8 × Int × Int)} (h : Keys (rk l)) {n : Int} (h1 : 1 ≤ n) (h2 : n ≤ 4) {k : Nat} (hk : (k : Int) = n) : cntR l n k = l.length := by
  unfold cntR
  rw [List.filter_eq_self.2]
  intro r hr
  have := (shL_ok (h.2.1 r.1 (List.mem_map_of_mem hr)) h1 h2).2.2
  simp; omega
theorem cntW_all {l : List (List UInt8 × List UInt8)} (h : Keys (wk l)) {n : Int} (h1 : 1 ≤ n) (h2 : n ≤ 4) {k : Nat} (hk : (k : Int) = n) : cntW l n k = l.length := by
  unfold cntW
  rw [List.filter_eq_self.2]
  intro r hr
  have := (shL_ok (h.2.1 r.1 (List.mem_map_of_mem hr)) h1 h2).2.2
  simp; omega
theorem par_zero' {l : List (List UInt8)} (h : ∀ x ∈ l, rightB x.length = true) {n : Int} (h1 : 1 ≤ n) (h2 : n ≤ 4) : parL l n 0 = [] := by
  unfold parL
  rw [List.filter_eq_nil_iff]
  intro x hx
  have := (shL_ok (h x hx) h1 h2).2.1
  simp; omega
theorem par_all' {l : List (List UInt8)} (h : ∀ x ∈ l, rightB x.length = true) {n : Int} (h1 : 1 ≤ n) (h2 : n ≤ 4) {k : Nat} (hk : (k : Int) = n) : parL l n k = l := by
  unfold parL
  rw [List.filter_eq_self]
  intro x hx
  have := (shL_ok (h x hx) h1 h2).2.2
  simp; omega
theorem par_step' {l : List (List UInt8)} (h : Asc l) (n : Int) (k : Nat) : djoin (parL l n k) (ofL l k n) = parL l n (k + 1) := by
  rw [djoin_eq]
  refine asc_ext (join_asc _ _) (h.filter _) fun x => ?_
  rw [join_mem]
  unfold parL ofL
  rw [List.mem_filter, List.mem_filter, List.mem_filter, decide_eq_true_eq, decide_eq_true_eq, decide_eq_true_eq]
  constructor
  · rintro (⟨a, b⟩ | ⟨a, b⟩)
    · exact ⟨a, by omega⟩
    · exact ⟨a, by omega⟩
  · rintro ⟨a, b⟩
    by_cases e : shL x n < k
    · exact .inl ⟨a, e⟩
    · exact .inr ⟨a, by omega⟩
theorem par_len (l : List (List UInt8)) (n : Int) (k : Nat) : (parL l n k).length ≤ l.length := List.length_filter_le _ _
theorem of_len (l : List (List UInt8)) (k n : Int) : (ofL l k n).length ≤ l.length := List.length_filter_le _ _
theorem par_sub {l : List (List UInt8)} {n : Int} {k : Nat} {m : Nat} (h : ∀ x ∈ l, x.length ≤ m) : ∀ x ∈ parL l n k, x.length ≤ m := fun x hx => h x (List.mem_filter.1 hx).1
theorem of_sub {l : List (List UInt8)} {k n : Int} {m : Nat} (h : ∀ x ∈ l, x.length ≤ m) : ∀ x ∈ ofL l k n, x.length ≤ m := fun x hx => h x (List.mem_filter.1 hx).1
end M
end Go.Proofs.Ytacieiddhkkahaa
