/- A slice of texts as an argument: opened to its list; no conditions. -/
import Derived.Test.YthjahiaomllneaaWalksD
import Derived.ProofKit
import Derived.OpenShut
import Derived.Carry
import Derived.SliceStrings
import Derived.ChangeMaps5
import Derived.Sort.EncStr
namespace Go.Proofs.Ythjahiaomllneaa
open Go.ChangeShapes Go.WideShapes Go.ChangeAt Go.RowKit

theorem own : ownKnob Try.prog.godebug = none := by kernel_rfl
theorem laidOut : laidOutB Try.prog = true := by kernel_rfl
theorem cells9 : Try.prog.cellsOf 9 = 1 := by kernel_rfl

/-- A slice of texts. -/
def Words (w : World) (v : Value) (ss : List (List UInt8)) : Prop := Row w v (ss.map encStr)
theorem Words.below {w w' : World} {v : Value} {ss : List (List UInt8)} (h : Words w v ss) (hb : Below w.heap.size w w') : Words w' v ss := Row.below h hb
theorem enc_of (s : ByteArray) : encStr s.data.toList = .string s := by cases s; simp [encStr]

theorem open_words {H : Type} {enc : TypeId × Value → H} {W : World} {r : Reach} {b0 : Nat} {v : Value} {d : DataW H} {p : List MemPlace} (hv : Value.okWide Try.prog W r b0 33 v) (h : DataW.Trod enc Try.prog W 0 (fun _ => true) true 33 v d p)
    (hlt : ∀ x ∈ p, x.block < W.heap.size) : ∃ ss : List (List UInt8), Words W v ss ∧ ∀ x ∈ ss, x.length ≤ maxLen := by
  obtain ⟨a0, len, cap, rfl⟩ := okWide_slice Try.underlying33 hv
  obtain ⟨fuel, hf⟩ := h
  rcases open_strings Try.underlying33 Try.underlying9 cells9 hf with ⟨hcs, hx⟩ | ⟨a, len', cap', ss, hcs, _, hl, hm, hz, hx, hcell, hws⟩
  · simp [Value.cells] at hcs
    obtain ⟨rfl, rfl, rfl⟩ := hcs
    exact ⟨[], ⟨none, 0, rfl, Nat.le_refl _, fun h => absurd h (by simp)⟩, by simp⟩
  · simp [Value.cells] at hcs
    obtain ⟨rfl, rfl, rfl⟩ := hcs
    simp only [Prod.mk.injEq] at hx
    obtain ⟨rfl, rfl⟩ := hx
    simp only [if_true] at hz
    have hln : (((ss.take len).map (·.data.toList)).map encStr).length = len := by simp; omega
    refine ⟨(ss.take len).map (·.data.toList), ⟨some a, cap, by rw [hln], by rw [hln]; exact hl, fun h0 => ?_⟩, ?_⟩
    · rw [hln] at h0
      obtain ⟨b, off, spot⟩ := a
      have hspot : spot = none := by simpa [Addr.add] using World.cell?_spot (hcell 0 (by omega))
      subst hspot
      refine ⟨b, off, rfl, hlt (.cell b off) (MemPlace.mem_row.2 ⟨0, by omega, by simp⟩), fun k x hx => ?_⟩
      have hk : k < len := by
        have := (List.getElem?_eq_some_iff.1 hx).1
        rw [hln] at this; exact this
      have := hcell k (by omega)
      rw [add_plain] at this
      rw [this]
      rw [List.map_map, List.getElem?_map, List.getElem?_take_of_lt hk, List.getElem?_eq_getElem (by omega)] at hx
      simp only [Option.map_some, Function.comp, enc_of] at hx
      rw [← hx, List.getD, List.getElem?_eq_getElem (by omega)]; rfl
    · intro x hx
      rw [List.mem_map] at hx
      obtain ⟨y, hy, rfl⟩ := hx
      have := hws y (List.mem_of_mem_take hy)
      rw [Array.length_toList]
      exact this
end Go.Proofs.Ythjahiaomllneaa
