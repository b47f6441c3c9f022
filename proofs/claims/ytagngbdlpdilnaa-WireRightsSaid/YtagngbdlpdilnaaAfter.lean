/- A region that draws its order, whose operations read old memory and whose calls may make new memory: one walk in the order of the text. No conditions. -/
import Derived.Test.YtagngbdlpdilnaaStamps
import Derived.Deep.QuietTactic
import Derived.BigQuiet
import Derived.WalkSmall
namespace Go.Proofs.Ytagngbdlpdilnaa
open Go.RowKit

/-- A world in which all that was there in w is as it was. -/
structure After (w : World) where
  out : World
  below : Below w.heap.size w out
instance (w : World) : Nonempty (After w) := ⟨⟨w, Below.refl _ _⟩⟩
theorem After.cell {w : World} (x : After w) (b o : Nat) (h : b < w.heap.size) : x.out.cell? ⟨b, o, none⟩ = w.cell? ⟨b, o, none⟩ := x.below.cell (p := ⟨b, o, none⟩) h

theorem wp_region_after {P : Program} {id : Nat} {Q : Exit → Act → World → Prop} {a : Act} {w : World} {l : List Oper} (hm : P.follows .mixedOrders = true) (hB : Region.lexB .any l.toArray = true)
    (h : wpQuiet P l.toArray (fun w' => ∃ x : After w, w' = x.out) (fun a' => ∀ w', (∃ x : After w, w' = x.out) → Q .normal a' w') l a) : (Code.region id l.toArray true).wp P Q a w :=
  wp_region_quiet (C := fun w' => ∃ x : After w, w' = x.out) hm hB ⟨⟨w.drew, (Below.refl _ _).drew⟩, rfl⟩ (by simpa using h)

/-- A callee that changes nothing that was there, met in such a world. -/
theorem Calls.after_of {P : Program} {f : FuncId} {args : Array Value} {w : World} {x : After w} {v : Value}
    (h : Calls P f args x.out fun e w' => e = .returned v ∧ Below x.out.heap.size x.out w') : Calls P f args x.out fun e w'' => e = .returned v ∧ ∃ y : After w, w'' = y.out :=
  h.mono fun _ _ ⟨he, hb⟩ => ⟨he, ⟨_, x.below.trans (hb.mono x.below.size)⟩, rfl⟩

/-- A block of two cells, and what they hold. -/
structure At (w : World) (b : Nat) (u v : Value) : Prop where
  lt : b < w.heap.size
  one : w.cell? ⟨b, 0, none⟩ = some u
  two : w.cell? ⟨b, 1, none⟩ = some v
theorem At.new (w : World) (u v : Value) (t : TypeId) : At (w.alloc (.cells #[u, v] t)) w.heap.size u v := ⟨by simp, by simp, by simp⟩
theorem At.new1 (w : World) (o : Obj) (u v : Value) (t : TypeId) : At ((w.alloc o).alloc (.cells #[u, v] t)) (w.heap.size + 1) u v := by simpa using At.new (w.alloc o) u v t
theorem At.new2 (w : World) (o o' : Obj) (u v : Value) (t : TypeId) : At (((w.alloc o).alloc o').alloc (.cells #[u, v] t)) (w.heap.size + 2) u v := by simpa using At.new ((w.alloc o).alloc o') u v t
theorem At.push {w : World} {b : Nat} {u v : Value} (h : At w b u v) (o : Obj) : At (w.alloc o) b u v :=
  ⟨by have := h.lt; simp; omega, (World.cell?_alloc_lt w o _ h.lt).trans h.one, (World.cell?_alloc_lt w o _ h.lt).trans h.two⟩
theorem At.on {w w' : World} {b : Nat} {u v : Value} (h : At w b u v) (k : Below w.heap.size w w') : At w' b u v :=
  ⟨Nat.lt_of_lt_of_le h.lt k.size, (k.cell (p := ⟨b, 0, none⟩) h.lt).trans h.one, (k.cell (p := ⟨b, 1, none⟩) h.lt).trans h.two⟩

end Go.Proofs.Ytagngbdlpdilnaa
