/- Contract of Copy; no conditions but what may be. -/
import Derived.Test.YtpdknamdladgnaaDkD
namespace Go.Proofs.Ytpdknamdladgnaa
open Go.RowKit

/-- A disk of its own, just so. -/
def CopyD (w : World) (s : M.St) (e : Ending) (w' : World) : Prop := ∃ g', e = .returned (.pointer (some ⟨g', 0, none⟩)) ∧ Disk w' g' (fun x => w.heap.size ≤ x ∧ x < w'.heap.size) s ∧ Below w.heap.size w w'

theorem copyD_done {w w1 : World} {s : M.St} (ho : M.Ok s) (hb : Below w.heap.size w w1) (hB : Blk w1 w.heap.size s.bs) :
    CopyD w s (.returned (.pointer (some ⟨w1.heap.size, 0, none⟩))) (w1.alloc (.cells #[.int .i64 s.z, .slice (some ⟨w.heap.size, 0, none⟩) s.bs.length s.bs.length, .int .i64 s.k, .pointer none] 52)) := by
  have nb := below_new (o := .cells #[.int .i64 s.z, .slice (some ⟨w.heap.size, 0, none⟩) s.bs.length s.bs.length, .int .i64 s.k, .pointer none] 52) (Below.refl w1.heap.size w1)
  have hs := hb.size
  have hl := hB.lt
  exact ⟨w1.heap.size, rfl, ⟨_, _, heap_alloc_new w1 _, (hB.below nb).own ⟨Nat.le_refl _, by simp; omega⟩, .inl rfl, ⟨hs, by simp⟩, fun x e => e.2, ho⟩, below_on hb nb⟩

set_option maxHeartbeats 1000000 in
theorem copyD_any {w : World} {g : Nat} {F : Nat → Prop} {s : M.St} (h : Disk w g F s) : Calls Try.prog 20 #[.pointer (some ⟨g, 0, none⟩)] w (CopyD w s) := by
  have HD := Lib.hid h
  obtain ⟨v, u, h⟩ := h
  obtain ⟨A, c, rfl, hc⟩ := h.row.slice
  obtain ⟨c0, c1, c2, c3⟩ := h.blk.at_
  have hg := h.blk.lt
  have hl : s.bs.length ≤ 100000000 := by have := h.ok.1; have := h.ok.2.1; omega
  have HB := Lib.hid h.row.bts
  have HO := Lib.hid h.ok
  clear h
  go_enter Try.func20, Try.ntmps20
  go_wp2
  go_region_with (go_at_call 32; refine Calls.mono (copied_any (xs := s.bs) (by exact HB.out) hl) ?_; rintro e w1 ⟨rfl, hB, hb⟩; have hq : Below w.heap.size w w1 := ⟨hb.os, hb.tape, hb.output, hb.size, hb.block⟩; have d0 := (hq.cell (p := ⟨g, 0, none⟩) hg).trans c0; have d2 := (hq.cell (p := ⟨g, 2, none⟩) hg).trans c2; have HQ := Lib.hid hq; have HBl := Lib.hid hB; clear hq hb hB)
  all_goals
    go_wp2
    go_ret
    exact copyD_done HO.out HQ.out HBl.out
end Go.Proofs.Ytpdknamdladgnaa
