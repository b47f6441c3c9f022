/- A store of a whole value into a new block; no conditions. -/
import Derived.Test.YtagngbdlpdilnaaTa
namespace Go.Proofs.Ytagngbdlpdilnaa
open Go.RowKit

theorem fresh_set (w : World) (t : TypeId) : ∀ (L P Z : List Value), Z.length = L.length → (w.alloc (.cells (P ++ Z).toArray t)).setCells w.heap.size P.length L = w.alloc (.cells (P ++ L).toArray t)
  | [], P, Z, h => by
    have : Z = [] := List.length_eq_zero_iff.1 h
    subst this; rfl
  | v :: r, P, [], h => by simp at h
  | v :: r, P, z :: Z, h => by
    rw [World.setCells, World.setCell_alloc_new]
    have e : (P ++ z :: Z).toArray.setIfInBounds P.length v = ((P ++ [v]) ++ Z).toArray := by
      apply Array.toList_inj.1
      simp
    rw [e]
    have := fresh_set w t r (P ++ [v]) Z (by simpa using h)
    rw [List.length_append] at this
    simp only [List.length_cons, List.length_nil, Nat.zero_add] at this
    rw [this]
    simp
theorem fresh_there (w : World) (t : TypeId) (Z : List Value) : (w.alloc (.cells Z.toArray t)).there w.heap.size 0 Z.length := fun j hj => by
  constructor
  · simp [hj]
  · simp [go_sem]

/-- A store into a block that was just made. -/
theorem wpList_store_fresh {P : Program} {ops : Array Oper} {rest : List Oper} {op : Oper} {a : Act} {w : World} {Q : Exit → Act → World → Prop} (hgd : op.guard = none) (ty : TypeId) (x y : Operand) (ho : op.op = .store ty x y)
    (b : Nat) (hb : b = w.heap.size) (t : TypeId) (Z L : List Value) (hx : a.eval x = .pointer (some ⟨b, 0, none⟩)) (hy : a.eval y = .agg L.toArray)
    (hl : Z.length = L.length) (hi : (P.info? ty).map (·.size) = some L.length) (h1 : L.all (·.oneCell') = true)
    (h : wpList P ops Q rest (a.put op.dst undef) (w.alloc (.cells L.toArray t))) : wpList P ops Q (op :: rest) a (w.alloc (.cells Z.toArray t)) := by
  subst hb
  refine wpList_store_mid hgd ty x y ho w.heap.size 0 L.toArray hx hy ?_ (by simpa using hi) (by simpa using h1) ?_
  · have := fresh_there w t Z
    rw [hl] at this
    simpa using this
  · have e := fresh_set w t L [] Z hl
    simp only [List.nil_append, List.length_nil] at e
    simp only [] 
    rw [e]
    exact h
end Go.Proofs.Ytagngbdlpdilnaa
