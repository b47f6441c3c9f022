/- Arguments opened to their parts: numbers, bytes, records and slices of them, steps; what the rows' list gives; no conditions. -/
import Derived.Test.YtdachohcjpjblaaGreatDoorOFew
import Derived.Test.YtdachohcjpjblaaGreatDoorCards
import Derived.Test.YtdachohcjpjblaaGreatDoorTie
import Derived.Deep.Slices
import Derived.Deep.Fields
import Derived.ChangeSame
import Derived.ProofKit
import Derived.OpenShut
import Derived.Carry
import Derived.ChangeSlices
import Derived.Deep.Strs
import Derived.Deep.Matrix
import Derived.Deep.DeepHandedRow
import Derived.Lib.LaidTab
set_option maxHeartbeats 8000000
set_option maxRecDepth 100000
namespace Go.Proofs.YtdachohcjpjblaaGreatDoor.Wi
open Go.ChangeShapes Go.WideShapes Go.ChangeAt Go.RowKit Go.Deep
section
variable {H : Type} {enc : TypeId × Value → H} {W : World} {fuel : Nat}
end
theorem cells5 : Tryz.prog.cellsOf 5 = 1 := by kernel_rfl
theorem Bts.nil (w : World) (A : Option Addr) (c : Nat) : Bts w (.slice A 0 c) [] := ⟨A, c, rfl, Nat.zero_le _, fun h => absurd h (by simp)⟩
def toB (z : Int) : UInt8 := UInt8.ofNat z.toNat
theorem toB_enc {z : Int} (h : (Lit.int .u8 z).wf = true) : enc8 (toB z) = .int .u8 z := by
 have := bounds_u8 h
 unfold enc8 toB
 simp; omega
theorem bts_of_cells {W : World} {A : Option Addr} {len c : Nat} {zs : List Int} (hl : len ≤ c) (hz : zs.length = c) (hw : ∀ n ∈ zs, (Lit.int .u8 n).wf = true)
 (h : 0 < len → ∃ a : Addr, A = some a ∧ a.block < W.heap.size ∧ ∀ i, i < c → W.cell? (a.add i) = some (.int .u8 (zs.getD i 0))) : Bts W (.slice A len c) ((zs.take len).map toB) := by
 have hln : (((zs.take len).map toB).map enc8).length = len := by simp; omega
 refine ⟨A, c, by rw [hln], by rw [hln]; exact hl, fun h0 => ?_⟩
 rw [hln] at h0
 obtain ⟨⟨b, off, spot⟩, rfl, hb, hcell⟩ := h h0
 have hspot : spot = none := by simpa [Addr.add] using World.cell?_spot (hcell 0 (by omega))
 subst hspot
 refine ⟨b, off, rfl, hb, fun k x hx => ?_⟩
 have hk : k < len := by
  have := (List.getElem?_eq_some_iff.1 hx).1
  rw [hln] at this; exact this
 have := hcell k (by omega)
 rw [add_plain'] at this
 rw [this]
 rw [List.map_map, List.getElem?_map, List.getElem?_take_of_lt hk, List.getElem?_eq_getElem (by omega)] at hx
 simp only [Option.map_some, Function.comp] at hx
 rw [toB_enc (hw _ (List.getElem_mem _))] at hx
 rw [← hx, List.getD, List.getElem?_eq_getElem (by omega)]; rfl
theorem open_bytes {H : Type} {enc : TypeId × Value → H} {W : World} {r : Reach} {b0 : Nat} {v : Value} {d : DataW H} {p : List MemPlace} (hv : Value.okWide Tryz.prog W r b0 22 v) (h : DataW.Trod enc Tryz.prog W 0 (fun _ => true) true 22 v d p)
 (hlt : ∀ x ∈ p, x.block < W.heap.size) : ∃ xs : List UInt8, Bts W v xs := by
 obtain ⟨a0, len, cap, rfl⟩ := okWide_slice Tryz.underlying22 hv
 obtain ⟨fuel, hf⟩ := h
 rcases open_ints Tryz.underlying22 Tryz.underlying5 cells5 hf with ⟨hcs, hx⟩ | ⟨a, len', cap', zs, hcs, _, hl, hm, hz, hx, hcell, hws⟩
 ·simp [Value.cells] at hcs
  obtain ⟨rfl, rfl, rfl⟩ := hcs
  exact ⟨[], Bts.nil _ _ _⟩
 ·simp [Value.cells] at hcs
  obtain ⟨rfl, rfl, rfl⟩ := hcs
  simp only [Prod.mk.injEq] at hx
  obtain ⟨rfl, rfl⟩ := hx
  simp only [if_true] at hz
  refine ⟨_, bts_of_cells hl hz hws (fun h0 => ⟨a, rfl, ?_, fun i hi => hcell i (by omega)⟩)⟩
  exact hlt (.cell a.block a.off) (MemPlace.mem_row.2 ⟨0, by omega, by simp⟩)
section
variable {H : Type} {enc : TypeId × Value → H} {W : World} {fuel : Nat}
end
end Go.Proofs.YtdachohcjpjblaaGreatDoor.Wi
namespace Go.Proofs.YtdachohcjpjblaaGreatDoor
open Go.ChangeShapes Go.WideShapes Go.ChangeAt Go.RowKit Go.Deep
theorem own : ownKnob Tryz.prog.godebug = none := by kernel_rfl
theorem laidOut : laidOutB Tryz.prog = true := by kernel_rfl
theorem gTab : Tryz.prog.globalNamed "althing/frame.steps" = some 0 := by kernel_rfl
theorem gTabType : (Tryz.prog.globals[0]?).map (·.type) = some 201 := by kernel_rfl
theorem cells16 : Tryz.prog.cellsOf 201 = 16 := by kernel_rfl
theorem cellsu : Tryz.prog.cellsOf 167 = 1 := by kernel_rfl
theorem table {W : World} (h : laidMetH Tryz.prog [("althing/frame.steps", Rows.laid_althing_frame_steps)] W) : Fr.Tab W := by
 have h' : laidMet Tryz.prog [("althing/frame.steps", Lib.tabData .u32 [0, 498536548, 997073096, 651767980, 1994146192, 1802195444, 1303535960, 1342533948, 3988292384, 4027552580, 3604390888, 3412177804, 2607071920, 2262029012, 2685067896, 3183342108])] W := h
 have ht := Lib.tabIs_of_head gTab gTabType Tryz.underlying201 Tryz.underlying167 cellsu cells16 h'
 have hc : ∀ k, k < 16 → W.cell? ⟨0, k, none⟩ = some (.int .u32 (Fr.M.tb k : Nat)) := by
  intro k hk
  rw [ht.cell gTab k (by simpa using hk)]
  rcases Fr.M.sixteen hk with rfl | rfl | rfl | rfl | rfl | rfl | rfl | rfl | rfl | rfl | rfl | rfl | rfl | rfl | rfl | rfl <;> rfl
 refine ⟨?_, hc⟩
 have h0 := hc 0 (by omega)
 rcases Nat.lt_or_ge 0 W.heap.size with h1 | h1
 ·exact h1
 ·simp [World.cell?, Array.getElem?_eq_none h1] at h0
section
variable {H : Type} {enc : TypeId × Value → H} {W : World} {fuel : Nat}
end
end Go.Proofs.YtdachohcjpjblaaGreatDoor
