/- Contracts of the document's Runes and Weight; no conditions but the lengths that they name. -/
import Derived.Test.YtagngbdlpdilnaaWalksC
import Derived.LoopN
namespace Go.Proofs.Ytagngbdlpdilnaa
open Go.RowKit

/-- A text without its first bytes. -/
def Cut (s : ByteArray) (p : Nat) (t : ByteArray) : Prop := p ≤ s.size ∧ t = s.extract p s.size
theorem Cut.size {s t : ByteArray} {p : Nat} (h : Cut s p t) : t.size = s.size - p := by
  rw [h.2, ByteArray.size_extract]; omega
theorem Cut.whole (s : ByteArray) : Cut s 0 s := ⟨Nat.zero_le _, by simp⟩
theorem Cut.step {s t : ByteArray} {p : Nat} (h : Cut s p t) (hp : p < s.size) : Cut s (p + M.wd s p) (t.extract (M.wd s p) t.size) := by
  have h1 := M.wd_le s p hp
  refine ⟨h1, ?_⟩
  rw [h.size, h.2, ByteArray.extract_extract, show min (p + (s.size - p)) s.size = s.size by have := h.1; omega]
def strLen : Value → Nat
  | .string s => s.size
  | _ => 0

/-- A slice that reads as a list. -/
def Row (w : World) (v : Value) (xs : List Value) : Prop := ∃ (A : Option Addr) (c : Nat), v = .slice A xs.length c ∧ xs.length ≤ c ∧ (0 < xs.length → ∃ b o, A = some ⟨b, o, none⟩ ∧ b < w.heap.size ∧ ∀ k x, xs[k]? = some x → w.cell? ⟨b, o + k, none⟩ = some x)
theorem Row.of_owns {w : World} {base : Nat} {t : TypeId} {v : Value} {n : Nat} {xs : List Value} (h : w.ownsRow base t 1 v n xs) : Row w v xs := by
  obtain ⟨hl, h2⟩ := h
  rw [Nat.mul_one] at hl
  rcases h2 with ⟨rfl, rfl⟩ | ⟨g, cap, cur, rfl, hb, hg, hn, hm, hs, ht⟩
  · exact ⟨none, 0, by rw [hl], by omega, fun h => absurd h (by omega)⟩
  · refine ⟨some ⟨g, 0, none⟩, cap, by rw [hl], by omega, fun _ => ⟨g, 0, rfl, (Array.getElem?_eq_some_iff.1 hg).1, fun k x hx => ?_⟩⟩
    have hk : k < xs.length := (List.getElem?_eq_some_iff.1 hx).1
    have h1 : (cur.toList.take (n * 1))[k]? = some x := by rw [ht]; exact hx
    rw [List.getElem?_take_of_lt (by omega), Array.getElem?_toList] at h1
    simp only [World.cell?, hg, Nat.zero_add, Option.isSome_none, Bool.false_eq_true, if_false]
    exact h1
theorem Row.below {w w' : World} {v : Value} {xs : List Value} (h : Row w v xs) (hb : Below w.heap.size w w') : Row w' v xs := by
  obtain ⟨A, c, e, hl, hc⟩ := h
  refine ⟨A, c, e, hl, fun h0 => ?_⟩
  obtain ⟨b, o, e1, hlt, hx⟩ := hc h0
  exact ⟨b, o, e1, Nat.lt_of_lt_of_le hlt hb.size, fun k x hk => (hb.cell hlt).trans (hx k x hk)⟩

namespace M
theorem weigh_take (l : List Nat) (k : Nat) (h : k < l.length) : weigh 0 (l.take (k + 1)) = weigh 0 (l.take k) + (k + 1) * l.getD k 0 := by
  rw [List.take_add_one, List.getElem?_eq_getElem h]
  simp only [Option.toList]
  rw [weigh_snoc, List.length_take, Nat.min_eq_left (by omega), List.getD, List.getElem?_eq_getElem h]; rfl
theorem weigh_at (l : List Nat) (k j : Nat) (h : ∀ r ∈ l, r ≤ 1114111) (hl : l.length ≤ 2000) (hk : k < l.length) (hj : j ≤ k + 1) : weigh 0 (l.take k) + j * l.getD k 0 ≤ 10000000000000 ∧ l.getD k 0 ≤ 1114111 := by
  have h1 := weigh_small (l.take k) (fun r hr => h r (List.mem_of_mem_take hr)) (by rw [List.length_take]; omega)
  have h2 : l.getD k 0 ≤ 1114111 := by rw [List.getD, List.getElem?_eq_getElem hk]; exact h _ (List.getElem_mem hk)
  have h3 : j * l.getD k 0 ≤ 2001 * 1114111 := Nat.mul_le_mul (by omega) h2
  exact ⟨by omega, h2⟩
end M

end Go.Proofs.Ytagngbdlpdilnaa
