/- Slices of slices of bytes as arguments; no further conditions. -/
import Derived.Test.YtmjkcbcenpdcnaaDoorOpens
import Derived.Test.YtmjkcbcenpdcnaaDoorWalksL
namespace Go.Proofs.YtmjkcbcenpdcnaaDoor
open Go.ChangeShapes Go.WideShapes Go.ChangeAt Go.RowKit

theorem open_rows {H : Type} {enc : TypeId × Value → H} {W : World} {r : Reach} {b0 : Nat} {v : Value} {d : DataW H} {p : List MemPlace} (hv : Value.okWide Tryd.prog W r b0 36 v) (h : DataW.Trod enc Tryd.prog W 0 (fun _ => true) true 36 v d p)
    (_hlt : ∀ x ∈ p, x.block < W.heap.size) : ∃ l : List (List UInt8), Lots W v l := by
  obtain ⟨a0, len, cap, rfl⟩ := okWide_slice Tryd.underlying36 hv
  obtain ⟨fuel, hf⟩ := h
  rcases Deep.open_int_rows Tryd.underlying36 Tryd.underlying22 Tryd.underlying5 cells22 cells5 hf with ⟨hcs, hx⟩ | ⟨a, len', cap', A, L, C, Z, hcs, _, hl, hm, hx, hr⟩
  · simp [Value.cells] at hcs
    obtain ⟨rfl, rfl, rfl⟩ := hcs
    exact ⟨[], [], ⟨none, 0, rfl, Nat.le_refl _, fun h => absurd h (by simp)⟩, Reads.nil _⟩
  · simp [Value.cells] at hcs
    obtain ⟨rfl, rfl, rfl⟩ := hcs
    refine ⟨(List.range len).map fun r => ((Z r).take (L r)).map toB, (List.range len).map fun r => .slice (A r) (L r) (C r), ⟨some a, cap, by simp, by simp; exact hl, fun h0 => ?_⟩, by simp, fun i u x hu hx' => ?_⟩
    · have h0' : 0 < len := by simpa using h0
      obtain ⟨b, off, spot⟩ := a
      have hspot : spot = none := by simpa [Addr.add] using World.cell?_spot (hr 0 (by omega)).1
      subst hspot
      refine ⟨b, off, rfl, World.block_lt_of_cell? W _ (by have := (hr 0 (by omega)).1; rw [add_plain'] at this; exact this), fun k y hy => ?_⟩
      have hk : k < len := by
        have := (List.getElem?_eq_some_iff.1 hy).1; simpa using this
      rw [List.getElem?_map, List.getElem?_range hk] at hy
      simp only [Option.map_some, Option.some.injEq] at hy
      subst hy
      have := (hr k (by omega)).1
      rw [add_plain'] at this
      exact this
    · have hi : i < len := by
        have := (List.getElem?_eq_some_iff.1 hu).1; simpa using this
      rw [List.getElem?_map, List.getElem?_range hi] at hu hx'
      simp only [Option.map_some, Option.some.injEq] at hu hx'
      subst hu hx'
      obtain ⟨_, h1, _, h2, h3, h4, h5⟩ := hr i (by omega)
      refine bts_of_cells h1 h2 h3 (fun h0 => ?_)
      cases hA : A i with
      | none => have := h4 hA; omega
      | some a' => exact ⟨a', rfl, World.block_lt_of_cell? W _ ((h5 a' hA).2 0 (by omega)), (h5 a' hA).2⟩
end Go.Proofs.YtmjkcbcenpdcnaaDoor
