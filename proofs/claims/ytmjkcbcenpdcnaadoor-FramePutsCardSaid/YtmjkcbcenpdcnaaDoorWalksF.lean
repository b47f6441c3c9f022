/- Contract of frame.Put; no conditions but the lengths that it names. -/
import Derived.Test.YtmjkcbcenpdcnaaDoorWalksE
namespace Go.Proofs.YtmjkcbcenpdcnaaDoor
open Go.RowKit

namespace M
/-- A payload's frame. -/
def frm (p : List UInt8) : List UInt8 := head p.length ++ p ++ tail (crc (head p.length ++ p))
theorem frm_len (p : List UInt8) : (frm p).length = p.length + 8 := by simp [frm, head_len, tail_len]; omega
end M

/-- An append to what was filled in so far. -/
theorem append_next {w : World} {u : Value} {g k m r N : Nat} {pre new : List UInt8} (h : Blk w g (pre ++ List.replicate (m + r) 0)) (hu : Bts w u new) (hk : pre.length = k) (hm : new.length = m) (hN : N = k + (m + r)) :
    ∃ w', (Builtin.append_ #[22, 22] 22 #[.slice (some ⟨g, 0, none⟩) k N, u]).run Tryd.prog w = .ok (.slice (some ⟨g, 0, none⟩) (k + m) N) w' ∧ Blk w' g ((pre ++ new) ++ List.replicate r 0) ∧ w.grownBy w' (some g) := by
  obtain ⟨w', h1, h2, h3⟩ := append_in (k := k) h hu (by simp; omega)
  have e : (pre ++ List.replicate (m + r) (0 : UInt8)).length = N := by simp; omega
  rw [e, hm] at h1
  refine ⟨w', h1, ?_, h3⟩
  have e2 : (pre ++ List.replicate (m + r) (0 : UInt8)).take k ++ new ++ (pre ++ List.replicate (m + r) (0 : UInt8)).drop (k + new.length) = (pre ++ new) ++ List.replicate r 0 := by
    rw [← hk, List.take_left, List.drop_append, hm]
    simp
  rw [← e2]; exact h2

theorem mid_take (a m z : List UInt8) {k n : Nat} (hk : a.length = k) (hn : m.length = n) : m = ((a ++ m ++ z).drop k).take n := by
  rw [List.append_assoc, ← hk, List.drop_left, ← hn, List.take_left]

/-- What Put tells: bytes with a frame behind. -/
def PutOk (w : World) (bs ps : List UInt8) (e : Ending) (w' : World) : Prop :=
  e = .returned (.tuple #[.slice (some ⟨w.heap.size, 0, none⟩) (bs.length + (ps.length + 8)) (bs.length + (ps.length + 8)), .int .i64 0]) ∧ Blk w' w.heap.size (bs ++ M.frm ps) ∧ Below w.heap.size w w'

set_option maxHeartbeats 4000000 in
set_option maxRecDepth 100000 in
theorem put_ok {w : World} {v u : Value} {bs ps : List UInt8} (hT : Tab w) (h : Bts w v bs) (h' : Bts w u ps) (hl : bs.length ≤ 100000) (h1 : 1 ≤ ps.length) (h2 : ps.length ≤ 4096) : Calls Tryd.prog 14 #[v, u] w (PutOk w bs ps) := by
  obtain ⟨i0, hi, hz0, hz1, hz2⟩ := info_parts info5
  have hm := run_make (P := Tryd.prog) w 22 5 i0 (.int .u8 0) Tryd.underlying22 hi hz0 .i64 .i64 0 ((bs.length : Int) + ((ps.length : Int) + 8)) (by omega) (by omega) (by rw [hz2]; omega) (by omega)
  rw [hz1, show ((bs.length : Int) + ((ps.length : Int) + 8)).toNat = bs.length + (ps.length + 8) by omega] at hm
  have hB := Blk.made w (bs.length + (ps.length + 8))
  have nb := below_new (o := .cells (madeCells #[.int .u8 0] (bs.length + (ps.length + 8))) 5) (Below.refl w.heap.size w)
  obtain ⟨w1, hr1, hb1, hg1⟩ := append_next (pre := []) (k := 0) (m := bs.length) (r := ps.length + 8) (N := bs.length + (ps.length + 8)) (by simpa using hB) (h.below nb) rfl rfl (by omega)
  have B1 := Lib.hid (show Below w.heap.size w w1 from nb.grown hg1 (by simp) (fun k e => by cases e; exact Nat.le_refl _))
  have K1 := Lib.hid (show Blk w1 w.heap.size (bs ++ List.replicate (4 + (ps.length + 4)) 0) by rw [show 4 + (ps.length + 4) = ps.length + 8 by omega]; simpa using hb1)
  rw [Nat.zero_add] at hr1
  have HT := Lib.hid hT
  have HU := Lib.hid h'
  obtain ⟨A, c, rfl, hc, hx⟩ := h.opened
  obtain ⟨A', c', rfl, hc', hx'⟩ := h'.opened
  clear hx hx' h h' hT nb hb1 hg1 hB hi hz0 hz1 hz2
  simp only [Value.cells, Nat.mul_one, Int.toNat_zero] at hm
  have hz := M.size_yes (n := (ps.length : Int)) (by omega)
  obtain ⟨g, hg⟩ : ∃ g, g = w.heap.size := ⟨_, rfl⟩
  have HG := Lib.hid hg
  clear hg
  go_enter Tryd.func14, Tryd.ntmps14
  go_wp2_with (fail)
  refine (size_any _ _).mono ?_
  rintro e w' ⟨rfl, rfl⟩
  rw [hz]
  clear hz
  have q1 : ((ps.length : Int) + 8 == 0) = false := by rw [beq_eq_false_iff_ne]; omega
  go_wp2_with (at_builtin; refine Lib.wpList_append_run _ rfl _ _ _ _ rfl _ _ rfl rfl _ _ hr1 ?_)
  refine (head_any ps.length _ (by omega)).mono ?_
  rintro e w2 ⟨v2, rfl, hv2, hb2⟩
  obtain ⟨w3, hr3, hb3, hg3⟩ := append_next (k := bs.length) (m := 4) (r := ps.length + 4) (N := bs.length + (ps.length + 8)) (K1.out.below hb2) hv2 rfl rfl (by omega)
  have hB3 := (below_on B1.out hb2).grown hg3 (Nat.le_trans B1.out.size hb2.size) (fun k e => by cases e; exact Nat.le_refl _)
  obtain ⟨w4, hr4, hb4, hg4⟩ := append_next (pre := bs ++ M.head ps.length) (k := bs.length + 4) (m := ps.length) (r := 4) (N := bs.length + (ps.length + 8)) hb3 (HU.out.below hB3) (by simp [M.head_len]) rfl (by omega)
  have hB4 := hB3.grown hg4 hB3.size (fun k e => by cases e; exact Nat.le_refl _)
  have B4 := Lib.hid hB4
  have T4 := Lib.hid (HT.out.below hB4)
  have K4 := Lib.hid hb4
  have Q4 := Lib.hid (Blk.bts (o := bs.length) (n := ps.length + 4) (c := ps.length + 8) hb4 (xs := M.head ps.length ++ ps) (by have := mid_take bs (M.head ps.length ++ ps) (List.replicate 4 0) (k := bs.length) (n := ps.length + 4) rfl (by simp [M.head_len]; omega); rw [← List.append_assoc bs] at this; exact this) (by simp [M.head_len]) (by omega))
  clear hr1 hv2 hb2 hg3 hb3 K1 B1 q1 hB3 hB4 hb4 hg4 HU HT
  have z1 : ¬ bs.length + (ps.length + 8) = bs.length := by omega
  have z2 : bs.length + (ps.length + 8) - bs.length = ps.length + 8 := by omega
  have z3 : bs.length + 4 + ps.length - bs.length = ps.length + 4 := by omega
  go_wp2_with (first | (at_builtin; refine Lib.wpList_append_run _ rfl _ _ _ _ rfl _ _ rfl rfl _ _ hr3 ?_) | (at_builtin; refine Lib.wpList_append_run _ rfl _ _ _ _ rfl _ _ rfl rfl _ _ hr4 ?_))
  refine (tail_any T4.out Q4.out (by simp [M.head_len]; omega)).mono ?_
  rintro e w5 ⟨v5, rfl, hv5, hb5⟩
  obtain ⟨w6, hr6, hb6, hg6⟩ := append_next (k := bs.length + 4 + ps.length) (m := 4) (r := 0) (N := bs.length + (ps.length + 8)) (K4.out.below hb5) hv5 (by simp [M.head_len]; omega) rfl (by omega)
  have B5 := below_on B4.out hb5
  have B6 := Lib.hid (B5.grown hg6 B5.size (fun k e => by cases e; exact Nat.le_refl _))
  have K6 := Lib.hid (show Blk w6 w.heap.size (bs ++ M.frm ps) by simpa [M.frm] using hb6)
  clear z1 z2 z3 hr3 hr4 hv5 hb5 hb6 hg6 B4 B5 T4 K4 Q4
  have z1 : bs.length + 4 + ps.length + 4 = bs.length + (ps.length + 8) := by omega
  rw [z1] at hr6
  go_wp2_with (at_builtin; refine Lib.wpList_append_run _ rfl _ _ _ _ rfl _ _ rfl rfl _ _ hr6 ?_)
  go_ret2
  exact ⟨rfl, K6.out, B6.out⟩

set_option maxHeartbeats 1000000 in
theorem put_bad {w : World} {v u : Value} {bs ps : List UInt8} (h : Bts w v bs) (h' : Bts w u ps) (hl : ps.length ≤ 1000000) (h1 : ¬ (1 ≤ ps.length ∧ ps.length ≤ 4096)) : Calls Tryd.prog 14 #[v, u] w fun e w' => e = .returned (.tuple #[.slice none 0 0, .int .i64 1]) ∧ w = w' := by
  obtain ⟨A, c, rfl, hc, hx⟩ := h.opened
  obtain ⟨A', c', rfl, hc', hx'⟩ := h'.opened
  clear hx hx' h h'
  have hz := M.size_no (n := (ps.length : Int)) (by omega)
  clear h1
  go_enter Tryd.func14, Tryd.ntmps14
  go_wp2_with (fail)
  refine (size_any _ _).mono ?_
  rintro e w' ⟨rfl, rfl⟩
  rw [hz]
  clear hz
  go_wp2
  go_ret2
  exact ⟨rfl, rfl⟩
end Go.Proofs.YtmjkcbcenpdcnaaDoor
