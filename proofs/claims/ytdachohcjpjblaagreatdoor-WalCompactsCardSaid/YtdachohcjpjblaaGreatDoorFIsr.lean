/- Instances sorted by insertion, as plain values; no conditions but those that each theorem names. -/
import Derived.Test.YtdachohcjpjblaaGreatDoorFWiA
set_option maxHeartbeats 8000000
set_option maxRecDepth 100000
namespace Go.Proofs.YtdachohcjpjblaaGreatDoor
namespace Nn
def bef (a b : Int × Int) : Bool := decide (Wi.M.ord a.1 a.2 b.1 b.2 < 0)
theorem bef_iff {a b : Int × Int} : bef a b = true ↔ a.1 < b.1 ∨ (a.1 = b.1 ∧ a.2 < b.2) := by
 unfold bef Wi.M.ord
 rw [decide_eq_true_iff]
 split
 ·omega
 ·split
  ·omega
  ·split
   ·omega
   ·split <;> omega
def pos : List (Int × Int) → Int × Int → Nat
 | [], _ => 0
 | a :: l, k => if bef a k = true then pos l k + 1 else 0
theorem pos_le : ∀ (l : List (Int × Int)) (k : Int × Int), pos l k ≤ l.length
 | [], _ => Nat.le_refl _
 | a :: l, k => by
   unfold pos
   split
   ·have := pos_le l k; rw [List.length_cons]; omega
   ·omega
theorem pos_bef : ∀ {l : List (Int × Int)} {k a : Int × Int} {j : Nat}, j < pos l k → l[j]? = some a → bef a k = true
 | [], _, _, _, h, _ => by simp [pos] at h
 | b :: l, k, a, j, h, e => by
   unfold pos at h
   split at h
   ·rename_i hb
    cases j with
    | zero => simp only [List.getElem?_cons_zero, Option.some.injEq] at e; rw [← e]; exact hb
    | succ j =>
      have h' : j < pos l k := by omega
      exact pos_bef h' (by simpa using e)
   ·omega
theorem pos_at : ∀ {l : List (Int × Int)} {k a : Int × Int}, l[pos l k]? = some a → bef a k = false
 | [], _, _, h => by simp at h
 | b :: l, k, a, h => by
   unfold pos at h
   split at h
   ·exact pos_at (l := l) (by simpa using h)
   ·rename_i hb
    simp only [List.getElem?_cons_zero, Option.some.injEq] at h
    rw [← h]; simpa using hb
def put (l : List (Int × Int)) (k : Int × Int) : List (Int × Int) := if l[pos l k]? = some k then l else l.take (pos l k) ++ [k] ++ l.drop (pos l k)
theorem put_nil (k : Int × Int) : put [] k = [k] := rfl
theorem put_lt {a k : Int × Int} (l : List (Int × Int)) (h : bef a k = true) : put (a :: l) k = a :: put l k := by
 unfold put
 rw [show pos (a :: l) k = pos l k + 1 from if_pos h, List.getElem?_cons_succ]
 split
 ·rfl
 ·rw [List.take_succ_cons, List.drop_succ_cons]; rfl
theorem put_ge {a k : Int × Int} (l : List (Int × Int)) (h : ¬ bef a k = true) : put (a :: l) k = if a = k then a :: l else k :: a :: l := by
 unfold put
 rw [show pos (a :: l) k = 0 from if_neg h]
 simp
theorem put_mem (l : List (Int × Int)) (k x : Int × Int) : x ∈ put l k ↔ x ∈ l ∨ x = k := by
 unfold put
 split
 ·rename_i h
  have := List.mem_of_getElem? h
  exact ⟨.inl, fun e => e.elim id (fun e => e ▸ this)⟩
 ·have e : x ∈ l ↔ x ∈ l.take (pos l k) ∨ x ∈ l.drop (pos l k) := by rw [← List.mem_append, List.take_append_drop]
  simp only [List.mem_append, List.mem_singleton, e]
  constructor
  ·rintro ((h | h) | h)
   ·exact .inl (.inl h)
   ·exact .inr h
   ·exact .inl (.inr h)
  ·rintro ((h | h) | h)
   ·exact .inl (.inl h)
   ·exact .inr h
   ·exact .inl (.inr h)
def Up (l : List (Int × Int)) : Prop := l.Pairwise fun a b => bef a b = true
theorem bef_trans {a b c : Int × Int} (h : bef a b = true) (g : bef b c = true) : bef a c = true := by rw [bef_iff] at *; omega
theorem bef_irr (a : Int × Int) : ¬ bef a a = true := by rw [bef_iff]; omega
theorem bef_tri {a b : Int × Int} (h : ¬ bef a b = true) (g : a ≠ b) : bef b a = true := by
 rw [bef_iff] at *
 have : ¬ (a.1 = b.1 ∧ a.2 = b.2) := fun e => g (Prod.ext e.1 e.2)
 omega
theorem put_up : ∀ {l : List (Int × Int)} (k : Int × Int), Up l → Up (put l k)
 | [], k, _ => by rw [put_nil]; exact List.pairwise_singleton _ _
 | a :: l, k, h => by
   obtain ⟨h1, h2⟩ := List.pairwise_cons.1 h
   by_cases hb : bef a k = true
   ·rw [put_lt l hb]
    refine List.pairwise_cons.2 ⟨fun x hx => ?_, put_up k h2⟩
    rcases (put_mem l k x).1 hx with hx | rfl
    ·exact h1 x hx
    ·exact hb
   ·rw [put_ge l hb]
    split
    ·exact h
    ·rename_i hne
     refine List.pairwise_cons.2 ⟨fun x hx => ?_, h⟩
     have hk := bef_tri hb hne
     rcases List.mem_cons.1 hx with rfl | hx
     ·exact hk
     ·exact bef_trans hk (h1 x hx)
theorem up_nodup {l : List (Int × Int)} (h : Up l) : l.Nodup := h.imp fun {a b} e => fun e2 => by rw [e2] at e; exact bef_irr b e
def all (ks : List (Int × Int)) : List (Int × Int) := ks.foldl put []
theorem all_snoc (ks : List (Int × Int)) (k : Int × Int) : all (ks ++ [k]) = put (all ks) k := by unfold all; rw [List.foldl_append]; rfl
theorem all_up (ks : List (Int × Int)) : Up (all ks) := by
 have : ∀ (ks l : List (Int × Int)), Up l → Up (ks.foldl put l) := by
  intro ks
  induction ks with
  | nil => exact fun _ h => h
  | cons k ks ih => exact fun l h => ih _ (put_up k h)
 exact this ks [] List.Pairwise.nil
theorem all_mem (ks : List (Int × Int)) (x : Int × Int) : x ∈ all ks ↔ x ∈ ks := by
 have : ∀ (ks l : List (Int × Int)), x ∈ ks.foldl put l ↔ x ∈ l ∨ x ∈ ks := by
  intro ks
  induction ks with
  | nil => intro l; simp
  | cons k ks ih =>
    intro l
    rw [List.foldl_cons, ih, put_mem, List.mem_cons]
    constructor
    ·rintro ((h | h) | h)
     ·exact .inl h
     ·exact .inr (.inl h)
     ·exact .inr (.inr h)
    ·rintro (h | h | h)
     ·exact .inl (.inl h)
     ·exact .inl (.inr h)
     ·exact .inr h
 rw [show all ks = ks.foldl put [] from rfl, this]
 simp
theorem put_len (l : List (Int × Int)) (k : Int × Int) : (put l k).length ≤ l.length + 1 := by
 unfold put
 split
 ·omega
 ·have := pos_le l k
  simp only [List.length_append, List.length_take, List.length_drop, List.length_singleton]
  omega
theorem all_len (ks : List (Int × Int)) : (all ks).length ≤ ks.length := by
 have : ∀ (ks l : List (Int × Int)), (ks.foldl put l).length ≤ l.length + ks.length := by
  intro ks
  induction ks with
  | nil => intro l; simp
  | cons k ks ih =>
    intro l
    have h1 := ih (put l k)
    have h2 := put_len l k
    rw [List.foldl_cons, List.length_cons]; omega
 have := this ks []
 unfold all
 simpa using this
end Nn
end Go.Proofs.YtdachohcjpjblaaGreatDoor
