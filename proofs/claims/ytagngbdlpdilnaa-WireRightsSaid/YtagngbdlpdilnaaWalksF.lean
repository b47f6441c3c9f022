/- Contracts of Few, the document's In and Before, and same; no conditions but the lengths that they name. -/
import Derived.Test.YtagngbdlpdilnaaMathB
import Derived.Test.YtagngbdlpdilnaaOpens
import Derived.Sort.Walk0
namespace Go.Proofs.Ytagngbdlpdilnaa
open Go.RowKit

theorem Words.opened {w : World} {v : Value} {ss : List (List UInt8)} (h : Words w v ss) : ∃ (A : Option Addr) (c : Nat), v = .slice A ss.length c ∧ ss.length ≤ c ∧ (0 < ss.length → ∃ b o, A = some ⟨b, o, none⟩ ∧ b < w.heap.size ∧ ∀ k, k < ss.length → w.cell? ⟨b, o + k, none⟩ = some (.string ⟨(ss.getD k []).toArray⟩)) := by
  obtain ⟨A, c, e, hl, hx⟩ := h
  rw [List.length_map] at e hl hx
  refine ⟨A, c, e, hl, fun h0 => ?_⟩
  obtain ⟨b, o, e1, hb, hy⟩ := hx h0
  exact ⟨b, o, e1, hb, fun k hk => hy k _ (by rw [List.getElem?_map, List.getD, List.getElem?_eq_getElem hk]; rfl)⟩
theorem size_mk (x : List UInt8) : (⟨x.toArray⟩ : ByteArray).size = x.length := by simp [ByteArray.size]

end Go.Proofs.Ytagngbdlpdilnaa
