/- A row of bytes of one's own that is written over, byte by byte; no conditions. -/
import Derived.Test.YtpdknamdladgnaaByt
namespace Go.Proofs.Ytpdknamdladgnaa
open Go.RowKit

theorem OwnB.at_ {F : Nat → Prop} {w : World} {A : Option Addr} {n c : Nat} {zs : List UInt8} (h : OwnB F w (.slice A n c) zs) (hz : zs.length = n) {k : Nat} (hk : k < n) : ∃ g, A = some ⟨g, 0, none⟩ ∧ g < w.heap.size ∧ w.cell? ⟨g, k, none⟩ = some (.int .u8 ((zs.getD k 0).toNat : Int)) ∧ w.frozen? ⟨g, k, none⟩ = false ∧ ∀ x, OwnB F (w.setCell ⟨g, k, none⟩ (enc8 x)) (.slice A n c) (zs.set k x) := by
  rcases h with ⟨e, rfl⟩ | ⟨b, cap, cur, e, hf, hg, hn, hs, ht⟩
  · simp at hz; omega
  · cases e
    have hkz : k < zs.length := hk
    refine ⟨b, rfl, (Array.getElem?_eq_some_iff.1 hg).1, ?_, frozen_of_row w b k cur 5 hg, fun x => ?_⟩
    · have h1 : (cur.toList.take zs.length)[k]? = some (enc8 (zs.getD k 0)) := by
        rw [ht, List.getElem?_map, List.getElem?_eq_getElem hkz, List.getD, List.getElem?_eq_getElem hkz]; rfl
      rw [List.getElem?_take_of_lt hkz, Array.getElem?_toList] at h1
      simp only [World.cell?, hg, Option.isSome_none, Bool.false_eq_true, if_false]
      exact h1
    · refine .inr ⟨b, c, cur.setIfInBounds k (enc8 x), by simp, hf, heap_setCell_same w b k cur 5 _ hg, by simpa using hn, by simpa using hs, ?_⟩
      rw [Array.toList_setIfInBounds, List.length_set, List.take_set, ht, List.map_set]

/-- What stands when bytes of the row v have been written over: all else is as it was. -/
structure Bump (w5 : World) (v : Value) (n : Nat) (wr : World) : Prop where
  keeps : Keeps (fun x => v.ownBlock = some x) w5 wr
  own : ∃ zs : List UInt8, zs.length = n ∧ OwnB (fun x => v.ownBlock = some x) wr v zs
theorem Bump.begin {F : Nat → Prop} {w5 : World} {v : Value} {zs : List UInt8} (h : OwnB F w5 v zs) : Bump w5 v zs.length w5 :=
  ⟨Keeps.refl _ _, zs, rfl, by
    rcases h with h | ⟨b, cap, cur, e, hf, r⟩
    · exact .inl h
    · exact .inr ⟨b, cap, cur, e, by rw [e]; rfl, r⟩⟩
theorem Bump.round {w5 wr : World} {A : Option Addr} {n c k : Nat} (h : Bump w5 (.slice A n c) n wr) (hk : k < n) : ∃ (g y : Nat), A = some ⟨g, 0, none⟩ ∧ g < wr.heap.size ∧ wr.cell? ⟨g, k, none⟩ = some (.int .u8 (y : Int)) ∧ wr.frozen? ⟨g, k, none⟩ = false ∧ y < 256 ∧
    Bump w5 (.slice A n c) n (wr.setCell ⟨g, k, none⟩ (.int .u8 (((y : Int) + 1) % 256))) := by
  obtain ⟨hk0, zs, hz, ho⟩ := h
  obtain ⟨g, rfl, hg, hc, hf, hs⟩ := ho.at_ hz hk
  have hy := byte_lt (zs.getD k 0)
  refine ⟨g, _, rfl, hg, hc, hf, hy, ?_⟩
  have e : enc8 (UInt8.ofNat ((zs.getD k 0).toNat + 1)) = .int .u8 ((((zs.getD k 0).toNat : Int) + 1) % 256) := by
    unfold enc8
    simp
  rw [← e]
  exact ⟨hk0.setCell (p := ⟨g, k, none⟩) (.inl rfl) _, _, by rw [List.length_set]; exact hz, hs _⟩
end Go.Proofs.Ytpdknamdladgnaa
