/- Contracts of keys.Runes and of the document's Runes and Weight; no conditions but the lengths that they name. -/
import Derived.Test.YtagngbdlpdilnaaWalksB
import Derived.Maps.AppendAt
namespace Go.Proofs.Ytagngbdlpdilnaa
open Go.RowKit

theorem info3 : (Try.prog.info? 3).map (fun i => (i.zero, i.size, i.bytes)) = some (some (.int .i64 0), 1, 8) := by kernel_rfl

/-- A new row of numbers. -/
def Nums (t : TypeId) (k : IntKind) (l : List Nat) (w : World) (e : Ending) (w' : World) : Prop := ∃ v, e = .returned v ∧ w'.ownsRow w.heap.size t 1 v l.length (l.map fun n => .int k (n : Nat)) ∧ Below w.heap.size w w'

theorem ownsRow_iterAt {w : World} {base : Nat} {t : TypeId} {v : Value} {n : Nat} {xs : List Value} {k : Nat} {s : ByteArray} {p : Nat} (h : w.ownsRow base t 1 v n xs) (hk : w.heap[k]? = some (.stringIter s p)) (q : Nat) : (w.iterAt k s q).ownsRow base t 1 v n xs := by
  refine ⟨h.1, ?_⟩
  rcases h.2 with h0 | ⟨g, cap, cur, hv, hg, hb, r⟩
  · exact .inl h0
  · refine .inr ⟨g, cap, cur, hv, hg, ?_, r⟩
    rw [Lib.iterAt_other w k g s q (fun e => by rw [e, hk] at hb; cases hb)]
    exact hb
theorem ownsRow_base {w : World} {base base' : Nat} {t : TypeId} {v : Value} {n : Nat} {xs : List Value} (h : w.ownsRow base t 1 v n xs) (hb : base' ≤ base) : w.ownsRow base' t 1 v n xs := by
  refine ⟨h.1, ?_⟩
  rcases h.2 with h0 | ⟨g, cap, cur, hv, hg, r⟩
  · exact .inl h0
  · exact .inr ⟨g, cap, cur, hv, Nat.le_trans hb hg, r⟩
theorem iter_grown {w w' : World} {base : Nat} {t : TypeId} {v : Value} {n : Nat} {xs : List Value} {k : Nat} {o : Obj} (h : w.ownsRow base t 1 v n xs) (hb : k < base) (hg : w.grownBy w' v.ownBlock) (hk : w.heap[k]? = some o) : w'.heap[k]? = some o := by
  have hlt : k < w.heap.size := (Array.getElem?_eq_some_iff.1 hk).1
  rw [hg.block k hlt (fun e => by have := (h.lt k e.symm).1; omega)]
  exact hk
theorem iter_alloc {w : World} {k : Nat} {o : Obj} (hk : w.heap[k]? = some o) (x : Obj) : (w.alloc x).heap[k]? = some o := by
  rw [Below.heap_alloc w x k (Array.getElem?_eq_some_iff.1 hk).1]; exact hk

end Go.Proofs.Ytagngbdlpdilnaa
