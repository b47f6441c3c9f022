/- What the rows' list gives: the cells of the table of sixteen; slices of bytes, and of such, as arguments; a world for the witness; no further conditions. -/
import Derived.Test.YtmjkcbcenpdcnaaDoorCards
import Derived.Test.YtmjkcbcenpdcnaaDoorTie
import Derived.Test.YtmjkcbcenpdcnaaDoorWalksD
import Derived.ProofKit
import Derived.OpenShut
import Derived.Carry
import Derived.ChangeSlices
import Derived.Deep.Strs
import Derived.Deep.Matrix
import Derived.Deep.DeepHandedRow
import Derived.Lib.LaidTab
namespace Go.Proofs.YtmjkcbcenpdcnaaDoor
open Go.ChangeShapes Go.WideShapes Go.ChangeAt Go.RowKit

theorem own : ownKnob Tryd.prog.godebug = none := by kernel_rfl
theorem laidOut : laidOutB Tryd.prog = true := by kernel_rfl
theorem gTab : Tryd.prog.globalNamed "althing/frame.steps" = some 0 := by kernel_rfl
theorem gTabType : (Tryd.prog.globals[0]?).map (·.type) = some 46 := by kernel_rfl
theorem cells46 : Tryd.prog.cellsOf 46 = 16 := by kernel_rfl
theorem cells25 : Tryd.prog.cellsOf 25 = 1 := by kernel_rfl
theorem cells5 : Tryd.prog.cellsOf 5 = 1 := by kernel_rfl
theorem cells22 : Tryd.prog.cellsOf 22 = 1 := by kernel_rfl

/-- WHAT THE ROWS' LIST GIVES: the table's cells hold its numbers. -/
theorem table {W : World} (h : laidMetH Tryd.prog [("althing/frame.steps", Rows.laid_althing_frame_steps)] W) : Tab W := by
  have h' : laidMet Tryd.prog [("althing/frame.steps", Lib.tabData .u32 [0, 498536548, 997073096, 651767980, 1994146192, 1802195444, 1303535960, 1342533948, 3988292384, 4027552580, 3604390888, 3412177804, 2607071920, 2262029012, 2685067896, 3183342108])] W := h
  have ht := Lib.tabIs_of_head gTab gTabType Tryd.underlying46 Tryd.underlying25 cells25 cells46 h'
  have hc : ∀ k, k < 16 → W.cell? ⟨0, k, none⟩ = some (.int .u32 (M.tb k : Nat)) := by
    intro k hk
    rw [ht.cell gTab k (by simpa using hk)]
    rcases M.sixteen hk with rfl | rfl | rfl | rfl | rfl | rfl | rfl | rfl | rfl | rfl | rfl | rfl | rfl | rfl | rfl | rfl <;> rfl
  refine ⟨?_, hc⟩
  have h0 := hc 0 (by omega)
  rcases Nat.lt_or_ge 0 W.heap.size with h1 | h1
  · exact h1
  · simp [World.cell?, Array.getElem?_eq_none h1] at h0

def toB (z : Int) : UInt8 := UInt8.ofNat z.toNat
theorem toB_enc {z : Int} (h : (Lit.int .u8 z).wf = true) : enc8 (toB z) = .int .u8 z := by
  have := bounds_u8 h
  unfold enc8 toB
  simp; omega

/-- Cells of numbers that are bytes. -/
theorem bts_of_cells {W : World} {A : Option Addr} {len c : Nat} {zs : List Int} (hl : len ≤ c) (hz : zs.length = c) (hw : ∀ n ∈ zs, (Lit.int .u8 n).wf = true)
    (h : 0 < len → ∃ a : Addr, A = some a ∧ a.block < W.heap.size ∧ ∀ i, i < c → W.cell? (a.add i) = some (.int .u8 (zs.getD i 0))) : Bts W (.slice A len c) ((zs.take len).map toB) := by
  have hln : (((zs.take len).map toB).map enc8).length = len := by simp; omega
  refine ⟨A, c, by rw [hln], by rw [hln]; exact hl, fun h0 => ?_⟩
  rw [hln] at h0
  obtain ⟨⟨b, off, spot⟩, rfl, hb, hcell⟩ := h h0
  have hspot : spot = none := by simpa [Addr.add] using World.cell?_spot (hcell 0 (by omega))
  subst hspot
  refine ⟨b, off, rfl, hb, fun k x hx => ?_⟩
  have hk : k < len := by
    have := (List.getElem?_eq_some_iff.1 hx).1
    rw [hln] at this; exact this
  have := hcell k (by omega)
  rw [add_plain'] at this
  rw [this]
  rw [List.map_map, List.getElem?_map, List.getElem?_take_of_lt hk, List.getElem?_eq_getElem (by omega)] at hx
  simp only [Option.map_some, Function.comp] at hx
  rw [toB_enc (hw _ (List.getElem_mem _))] at hx
  rw [← hx, List.getD, List.getElem?_eq_getElem (by omega)]; rfl

theorem open_bytes {H : Type} {enc : TypeId × Value → H} {W : World} {r : Reach} {b0 : Nat} {v : Value} {d : DataW H} {p : List MemPlace} (hv : Value.okWide Tryd.prog W r b0 22 v) (h : DataW.Trod enc Tryd.prog W 0 (fun _ => true) true 22 v d p)
    (hlt : ∀ x ∈ p, x.block < W.heap.size) : ∃ xs : List UInt8, Bts W v xs := by
  obtain ⟨a0, len, cap, rfl⟩ := okWide_slice Tryd.underlying22 hv
  obtain ⟨fuel, hf⟩ := h
  rcases open_ints Tryd.underlying22 Tryd.underlying5 cells5 hf with ⟨hcs, hx⟩ | ⟨a, len', cap', zs, hcs, _, hl, hm, hz, hx, hcell, hws⟩
  · simp [Value.cells] at hcs
    obtain ⟨rfl, rfl, rfl⟩ := hcs
    exact ⟨[], Bts.nil _ _ _⟩
  · simp [Value.cells] at hcs
    obtain ⟨rfl, rfl, rfl⟩ := hcs
    simp only [Prod.mk.injEq] at hx
    obtain ⟨rfl, rfl⟩ := hx
    simp only [if_true] at hz
    refine ⟨_, bts_of_cells hl hz hws (fun h0 => ⟨a, rfl, ?_, fun i hi => hcell i (by omega)⟩)⟩
    exact hlt (.cell a.block a.off) (MemPlace.mem_row.2 ⟨0, by omega, by simp⟩)

/-- A WORLD FOR THE WITNESS: the settled one, the table (block 0) holding what its initialiser lays. -/
noncomputable def laidWorld (os : Os) : World :=
  { World.holding Tryd.prog os ⟨#[], #[], []⟩ with heap := (World.holding Tryd.prog os ⟨#[], #[], []⟩).heap.modify 0 fun
      | .cells _ t frozen => .cells #[.int .u32 0, .int .u32 498536548, .int .u32 997073096, .int .u32 651767980, .int .u32 1994146192, .int .u32 1802195444, .int .u32 1303535960, .int .u32 1342533948, .int .u32 3988292384, .int .u32 4027552580, .int .u32 3604390888, .int .u32 3412177804, .int .u32 2607071920, .int .u32 2262029012, .int .u32 2685067896, .int .u32 3183342108] t frozen
      | o => o }
end Go.Proofs.YtmjkcbcenpdcnaaDoor
