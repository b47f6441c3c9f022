/- Plain facts on seven numbers: the greater of two, whether all are the same, what is joined, what is put in and taken out; no conditions. -/
namespace Go.Proofs.Ytcombmifjimkoaa
namespace M
/-- The greater one, the lesser one. -/
def mx (x y : Int) : Int := if y > x then y else x
def mn (x y : Int) : Int := if y < x then y else x
/-- Seven and seven are the same. -/
def same7 (x0 x1 x2 x3 x4 x5 x6 y0 y1 y2 y3 y4 y5 y6 : Int) : Bool := decide (x0 = y0 ∧ x1 = y1 ∧ x2 = y2 ∧ x3 = y3 ∧ x4 = y4 ∧ x5 = y5 ∧ x6 = y6)
theorem same7_iff {x0 x1 x2 x3 x4 x5 x6 y0 y1 y2 y3 y4 y5 y6 : Int} : same7 x0 x1 x2 x3 x4 x5 x6 y0 y1 y2 y3 y4 y5 y6 = true ↔ x0 = y0 ∧ x1 = y1 ∧ x2 = y2 ∧ x3 = y3 ∧ x4 = y4 ∧ x5 = y5 ∧ x6 = y6 := by simp [same7]
theorem same7_self (x0 x1 x2 x3 x4 x5 x6 : Int) : same7 x0 x1 x2 x3 x4 x5 x6 x0 x1 x2 x3 x4 x5 x6 = true := by simp [same7]
/-- What is joined. -/
def join (a b : Nat → Int) (k : Nat) : Int := mx (a k) (b k)
def same (a b : Nat → Int) : Bool := same7 (a 0) (a 1) (a 2) (a 3) (a 4) (a 5) (a 6) (b 0) (b 1) (b 2) (b 3) (b 4) (b 5) (b 6)
def over (a b : Nat → Int) : Bool := same (join a b) a
def repB (r : Int) : Bool := decide (0 ≤ r ∧ r ≤ 6)
def has (a : Nat → Int) (r s : Int) : Bool := decide ((0 ≤ r ∧ r ≤ 6) ∧ 1 ≤ s ∧ s ≤ a r.toNat)
def wit (a : Nat → Int) (r s : Int) (k : Nat) : Int := if r = k then mx (a k) s else a k
def out (a : Nat → Int) (r s : Int) (k : Nat) : Int := if r = k ∧ 1 ≤ s then mn (a k) (s - 1) else a k
def zf (_ : Nat) : Int := 0
def wf (_ : Nat) : Int := 1048576
def right (a : Nat → Int) : Bool := over a zf && over wf a
theorem seven {k : Nat} (h : k < 7) : k = 0 ∨ k = 1 ∨ k = 2 ∨ k = 3 ∨ k = 4 ∨ k = 5 ∨ k = 6 := by omega
theorem all7 {p : Nat → Prop} : (∀ k, k < 7 → p k) ↔ p 0 ∧ p 1 ∧ p 2 ∧ p 3 ∧ p 4 ∧ p 5 ∧ p 6 :=
  ⟨fun h => ⟨h 0 (by omega), h 1 (by omega), h 2 (by omega), h 3 (by omega), h 4 (by omega), h 5 (by omega), h 6 (by omega)⟩, fun h k hk => by
    obtain ⟨h0, h1, h2, h3, h4, h5, h6⟩ := h
    rcases seven hk with rfl | rfl | rfl | rfl | rfl | rfl | rfl <;> assumption⟩
theorem same_iff {a b : Nat → Int} : same a b = true ↔ ∀ k, k < 7 → a k = b k := by
  rw [all7 (p := fun k => a k = b k)]
  exact same7_iff
theorem over_iff {a b : Nat → Int} : over a b = true ↔ ∀ k, k < 7 → b k ≤ a k := by
  unfold over
  rw [same_iff]
  refine forall_congr' fun k => imp_congr_right fun _ => ?_
  unfold join mx
  split <;> omega
theorem right_iff {a : Nat → Int} : right a = true ↔ ∀ k, k < 7 → 0 ≤ a k ∧ a k ≤ 1048576 := by
  rw [right, Bool.and_eq_true, over_iff, over_iff]
  exact ⟨fun h k hk => ⟨h.1 k hk, h.2 k hk⟩, fun h => ⟨fun k hk => (h k hk).1, fun k hk => (h k hk).2⟩⟩
theorem has_iff {a : Nat → Int} {r s : Int} : has a r s = true ↔ (0 ≤ r ∧ r ≤ 6) ∧ 1 ≤ s ∧ s ≤ a r.toNat := by simp [has]
theorem rep_iff {r : Int} : repB r = true ↔ 0 ≤ r ∧ r ≤ 6 := by simp [repB]
theorem rep_nat {r : Int} (h : repB r = true) : ∃ k : Nat, k < 7 ∧ r = k := by
  have := rep_iff.1 h
  exact ⟨r.toNat, by omega, by omega⟩
theorem wit_none {a : Nat → Int} {r s : Int} (h : repB r = false) : ∀ k : Nat, k < 7 → wit a r s k = a k := fun k hk => by
  have h' : ¬ (0 ≤ r ∧ r ≤ 6) := fun g => by rw [rep_iff.2 g] at h; cases h
  unfold wit; rw [if_neg (by omega)]
theorem out_none {a : Nat → Int} {r s : Int} (h : repB r = false) : ∀ k : Nat, k < 7 → out a r s k = a k := fun k hk => by
  have h' : ¬ (0 ≤ r ∧ r ≤ 6) := fun g => by rw [rep_iff.2 g] at h; cases h
  unfold out; rw [if_neg (by omega)]
theorem out_low {a : Nat → Int} {r s : Int} (h : ¬ 1 ≤ s) : ∀ k : Nat, k < 7 → out a r s k = a k := fun k _ => by
  unfold out; rw [if_neg (by omega)]
theorem has_none {a : Nat → Int} {r s : Int} (h : repB r = false) : has a r s = false := by
  have h' : ¬ (0 ≤ r ∧ r ≤ 6) := fun g => by rw [rep_iff.2 g] at h; cases h
  simp [has, h']
theorem has_low {a : Nat → Int} {r s : Int} (h : ¬ 1 ≤ s) : has a r s = false := by simp [has, h]
theorem has_at {a : Nat → Int} {k : Nat} {s : Int} (hk : k < 7) (h : 1 ≤ s) : has a k s = decide (s ≤ a k) := by
  unfold has
  have : (k : Int).toNat = k := by omega
  rw [this]
  simp [h]
  omega
end M
end Go.Proofs.Ytcombmifjimkoaa
