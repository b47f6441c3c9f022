/- A region that draws its order, held by a relation over what has come up so far: one step an operation, whatever the order; no conditions. -/
import Derived.Orders
import Derived.RegionTactic
import Derived.Great.BuildSlice
import Derived.KernelRfl
namespace Go.Proofs.Ytacieiddhkkahaa

theorem filter_le {p q : Nat → Bool} : ∀ (l : List Nat), (∀ j, q j = true → p j = true) → (l.filter q).length ≤ (l.filter p).length
  | [], _ => Nat.le_refl _
  | x :: l, h => by
    have ih := filter_le l h
    cases hq : q x
    · cases hp : p x
      · simpa [hq, hp] using ih
      · simp only [List.filter_cons, hq, hp, if_true, List.length_cons]
        simp
        omega
    · simp only [List.filter_cons, hq, h x hq, if_true, List.length_cons]
      omega
theorem filter_lt {p q : Nat → Bool} (h : ∀ j, q j = true → p j = true) {i : Nat} (hp : p i = true) (hq : q i = false) : ∀ (l : List Nat), i ∈ l → (l.filter q).length < (l.filter p).length
  | x :: l, hm => by
    have le := filter_le l h
    by_cases e : x = i
    · subst e
      simp [hq, hp]
      omega
    · have hm' : i ∈ l := by
        rcases List.mem_cons.1 hm with rfl | hm
        · exact absurd rfl e
        · exact hm
      have ih := filter_lt h hp hq l hm'
      cases hq' : q x
      · cases hp' : p x
        · simpa [hq', hp'] using ih
        · simp [hq', hp']
          omega
      · simp [hq', h x hq']
        omega

/-- How many have not come up yet. -/
def yet (ops : Array Oper) (L : Array Bool) : Nat := ((List.range ops.size).filter fun i => !L.getD i true).length

theorem wpAny_inv {P : Program} {ops : Array Oper} {Q : Exit → Act → World → Prop} {md : Region.Mode} (I : Array Bool → Act → World → Prop)
    (step : ∀ L a w, I L a w → ∀ i, i ∈ Region.ready md ops L → wpOp P ops Q i (I (L.setIfInBounds i true)) a w)
    (fin : ∀ L a w, I L a w → Region.ready md ops L = [] → Q .normal a w) :
    ∀ (fuel : Nat) (L : Array Bool) (a : Act) (w : World), yet ops L ≤ fuel → I L a w → wpAny P md ops Q fuel L a w
  | 0, L, a, w, hy, hI => by
    have h0 : Region.ready md ops L = [] := by
      cases hr : Region.ready md ops L with
      | nil => rfl
      | cons i rs =>
        have hi : i ∈ Region.ready md ops L := by rw [hr]; exact List.mem_cons_self
        obtain ⟨hu, o, ho, _⟩ := mem_ready.1 hi
        have hlt : i < ops.size := (Array.getElem?_eq_some_iff.1 ho).1
        have hm : i ∈ (List.range ops.size).filter fun i => !L.getD i true := List.mem_filter.2 ⟨List.mem_range.2 hlt, by rw [hu]; rfl⟩
        have : 0 < yet ops L := List.length_pos_of_mem hm
        omega
    exact ⟨h0, fin L a w hI h0⟩
  | fuel + 1, L, a, w, hy, hI => by
    refine ⟨fin L a w hI, fun i hi => ?_⟩
    obtain ⟨hu, o, ho, _⟩ := mem_ready.1 hi
    have hlt : i < ops.size := (Array.getElem?_eq_some_iff.1 ho).1
    have hL : i < L.size := by
      rcases Nat.lt_or_ge i L.size with h | h
      · exact h
      · simp [Array.getElem?_eq_none h] at hu
    have hd : yet ops (L.setIfInBounds i true) < yet ops L := by
      refine filter_lt (fun j hj => ?_) (by rw [hu]; rfl) (i := i) ?_ _ (List.mem_range.2 hlt)
      · by_cases e : i = j
        · subst e; rw [hu]; rfl
        · rw [getD_set_ne true e] at hj; exact hj
      · simp [hL]
    exact wpOp_mono (fun a' w' h' => wpAny_inv I step fin fuel _ a' w' (by omega) h') (step L a w hI i hi)

/-- A region that draws its order, by a relation. -/
theorem wp_region_inv {P : Program} {id : Nat} {ops : Array Oper} {Q : Exit → Act → World → Prop} {a : Act} {w : World} (hm : P.follows .mixedOrders = true) (I : Array Bool → Act → World → Prop)
    (start : I (Array.replicate ops.size false) a w.drew)
    (step : ∀ L a w, I L a w → ∀ i, i ∈ Region.ready .any ops L → wpOp P ops Q i (I (L.setIfInBounds i true)) a w)
    (fin : ∀ L a w, I L a w → Region.ready .any ops L = [] → Q .normal a w) : (Code.region id ops true).wp P Q a w :=
  wp_region_any hm (wpAny_inv I step fin _ _ _ _ (by
    unfold yet
    have := List.length_filter_le (fun i => !(Array.replicate ops.size false).getD i true) (List.range ops.size)
    simpa using this) start)
theorem up {L : Array Bool} {i j : Nat} (hne : i ≠ j) (g : (L.setIfInBounds i true).getD j false = true) : L.getD j false = true := by
  rw [getD_set_ne false hne] at g; exact g
theorem on {L : Array Bool} {i j : Nat} (g : L.getD j false = true) : (L.setIfInBounds i true).getD j false = true := getD_set_true g
theorem off {L : Array Bool} {i : Nat} {p : Prop} (hu : L.getD i true = false) (g : L.getD i false = true) : p := by
  rcases Nat.lt_or_ge i L.size with h | h
  · simp [h] at hu g; rw [hu] at g; cases g
  · simp [Array.getElem?_eq_none h] at hu

/-- Each waits for earlier ones alone. -/
def wf (ops : Array Oper) : Bool := (List.range ops.size).all fun j => ((ops[j]?).map fun o => o.after.all fun e => decide (e.on < j)).getD true
theorem all_listed {ops : Array Oper} {md : Region.Mode} {L : Array Bool} (hw : wf ops = true) (hs : L.size = ops.size) (hr : Region.ready md ops L = []) : ∀ j, j < ops.size → L.getD j false = true := by
  intro j
  induction j using Nat.strongRecOn with
  | _ j ih =>
    intro hj
    cases hg : L.getD j false
    · exfalso
      have hu : L.getD j true = false := by simp [hs, hj] at hg ⊢; exact hg
      have hm : j ∈ Region.ready md ops L := by
        refine mem_ready.2 ⟨hu, ops[j], Array.getElem?_eq_getElem hj, fun e he _ => ?_⟩
        have h1 := List.all_eq_true.1 hw j (List.mem_range.2 hj)
        rw [Array.getElem?_eq_getElem hj] at h1
        have h2 : e.on < j := by
          simp at h1
          obtain ⟨i, hi, rfl⟩ := Array.mem_iff_getElem.1 he
          exact h1 i hi
        exact ih e.on h2 (by omega)
      rw [hr] at hm
      cases hm
    · rfl
theorem upF {L : Array Bool} {i j : Nat} (hne : i ≠ j) (g : (L.setIfInBounds i true).getD j false = false) : L.getD j false = false := by
  rw [getD_set_ne false hne] at g; exact g
theorem onF {L : Array Bool} {i : Nat} {p : Prop} (hl : i < L.size) (g : (L.setIfInBounds i true).getD i false = false) : p := by
  simp [hl] at g
theorem un {L : Array Bool} {i : Nat} (hu : L.getD i true = false) : L.getD i false = false := by
  rcases Nat.lt_or_ge i L.size with h | h
  · simp [h] at hu ⊢; exact hu
  · simp [Array.getElem?_eq_none h] at hu
end Go.Proofs.Ytacieiddhkkahaa
