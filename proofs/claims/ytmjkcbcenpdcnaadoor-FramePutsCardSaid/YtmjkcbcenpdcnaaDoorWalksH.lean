/- Contract of the document's Frame; no conditions but the lengths that it names. -/
import Derived.Test.YtmjkcbcenpdcnaaDoorWalksG
namespace Go.Proofs.YtmjkcbcenpdcnaaDoor
open Go.RowKit

namespace M
def tl : Nat → Nat → List UInt8
  | 0, _ => []
  | j + 1, s => b8 s :: tl j (s / 256)
theorem tail_tl (s : Nat) : tail s = tl 4 s := by
  simp only [tail, tl, Nat.div_div_eq_div_mul]
end M
theorem one_new (w : World) {a : UInt8} {x : Int} (hx : x = a.toNat) : Bts (w.alloc (.cells #[.int .u8 x] 5)) (.slice (some ⟨w.heap.size, 0, none⟩) 1 1) [a] := by
  refine Blk.bts (cs := [a]) ?_ rfl (Nat.le_refl _) (Nat.le_refl _)
  unfold Blk
  rw [heap_alloc_new, hx]; rfl
theorem four_own (w : World) {a b c d : UInt8} {x y z u : Int} (hx : x = a.toNat) (hy : y = b.toNat) (hz : z = c.toNat) (hu : u = d.toNat) : (w.alloc (.cells #[.int .u8 x, .int .u8 y, .int .u8 z, .int .u8 u] 5)).ownsRow w.heap.size 5 1 (.slice (some ⟨w.heap.size, 0, none⟩) 4 4) [a, b, c, d].length ([a, b, c, d].map enc8) := by
  have h : Blk (w.alloc (.cells #[.int .u8 x, .int .u8 y, .int .u8 z, .int .u8 u] 5)) w.heap.size [a, b, c, d] := by
    unfold Blk
    rw [heap_alloc_new, hx, hy, hz, hu]; rfl
  exact h.owns (n := 4) rfl (by simp) (Nat.le_refl _) (by simp)

set_option maxHeartbeats 2000000 in
set_option maxRecDepth 100000 in
theorem frame_any {w : World} {v : Value} {ps : List UInt8} (h : Bts w v ps) (hl : ps.length ≤ 60000) : Calls Tryd.prog 16 #[v] w (Cloned w (M.frm ps)) := by
  have hown := four_own w (a := M.b8 ps.length) (b := M.b8 (ps.length / 256)) (c := M.b8 (255 - ps.length % 256)) (d := M.b8 (255 - ps.length / 256 % 256)) (x := (ps.length : Int) % 256) (y := (ps.length : Int) / 256) (z := 255 - (ps.length : Int) % 256) (u := 255 - (ps.length : Int) / 256) (by rw [M.b8_nat]; omega) (by rw [M.b8_nat]; omega) (by rw [M.b8_nat]; omega) (by rw [M.b8_nat]; omega)
  have h2 := h.below (below_new (o := .cells #[.int .u8 ((ps.length : Int) % 256), .int .u8 ((ps.length : Int) / 256), .int .u8 (255 - (ps.length : Int) % 256), .int .u8 (255 - (ps.length : Int) / 256)] 5) (Below.refl _ _))
  obtain ⟨v1, w1, hr1, ho1, hg1⟩ := append_any hown h2 (by simp; omega) (by simp)
  have hB1 := (below_new (o := .cells #[.int .u8 ((ps.length : Int) % 256), .int .u8 ((ps.length : Int) / 256), .int .u8 (255 - (ps.length : Int) % 256), .int .u8 (255 - (ps.length : Int) / 256)] 5) (Below.refl w.heap.size w)).grown hg1 (by simp) (fun k e => by cases e; exact Nat.le_refl _)
  have HB1 := Lib.hid hB1
  have HO1 := Lib.hid (show w1.ownsRow w.heap.size 5 1 v1 (M.head ps.length ++ ps).length ((M.head ps.length ++ ps).map enc8) from ho1)
  have HV1 := Lib.hid (show Bts w1 v1 (M.head ps.length ++ ps) from Row.of_owns ho1)
  obtain ⟨A, c, rfl, hc, hx⟩ := h.opened
  have HF := Lib.hid (show M.head ps.length ++ ps ++ M.tl 4 (M.crc (M.head ps.length ++ ps)) = M.frm ps by rw [M.frm, M.tail_tl])
  have hlen := Lib.hid (show (M.head ps.length ++ ps).length ≤ 60004 by simp [M.head_len]; omega)
  have hcr := M.crc_lt (M.head ps.length ++ ps)
  clear hown h2 ho1 hg1 hB1 hx h
  go_enter Tryd.func16, Tryd.ntmps16
  go_wp2_with (at_builtin; refine Lib.wpList_append_run _ rfl _ _ _ _ rfl _ _ rfl rfl _ _ hr1 ?_)
  refine (dsum_any HV1.out (by have := hlen.out; omega)).mono ?_
  rintro e w2 ⟨rfl, rfl⟩
  generalize M.crc (M.head ps.length ++ ps) = S at *
  generalize M.head ps.length ++ ps = pre at *
  clear hr1 HV1
  go_wp2
  go_loopw [5, 6, 7] (fun f s i wr => ∃ (k n : Nat) (acc : List UInt8), k ≤ 4 ∧ i = .int .i64 k ∧ s = .int .u32 n ∧ n < 4294967296 ∧ wr.ownsRow w.heap.size 5 1 f acc.length (acc.map enc8) ∧ Below w.heap.size w wr ∧ acc.length ≤ 60004 + k ∧ acc ++ M.tl (4 - k) n = M.frm ps) (fun _ _ i _ => 4 - (intOf i).toNat)
  case atStart => exact ⟨0, S, pre, by omega, rfl, rfl, hcr, HO1.out, HB1.out, hlen.out, HF.out⟩
  case round =>
    obtain ⟨k, n, acc, hk, rfl, rfl, hn, hown, hbw, hla, hac⟩ := hrel
    clear HO1 HB1 hlen HF hcr
    by_cases hlt : k < 4
    · have HA := Lib.hid (show (acc ++ [M.b8 n]) ++ M.tl (4 - (k + 1)) (n / 256) = M.frm ps by rw [← hac, show 4 - k = 4 - (k + 1) + 1 by omega, M.tl]; simp)
      have ho2 := hown.alloc (.cells #[.int .u8 ((n : Int) % 256)] 5)
      obtain ⟨v3, w3, hr3, ho3, hg3⟩ := append_any ho2 (one_new wr (a := M.b8 n) (x := (n : Int) % 256) (by rw [M.b8_nat]; omega)) (by simp; omega) (by have := hbw.size; simp; omega)
      have HB3 := Lib.hid ((below_new (o := .cells #[.int .u8 ((n : Int) % 256)] 5) hbw).grown hg3 (by have := hbw.size; simp; omega) (fun k hk => (hown.lt k hk).1))
      have HO3 := Lib.hid ho3
      clear hown hac ho2 ho3 hg3 hbw
      go_wp2_with (at_builtin; refine Lib.wpList_append_run _ rfl _ _ _ _ rfl _ _ rfl rfl _ _ hr3 ?_)
      go_roundw
      case rel => exact ⟨k + 1, n / 256, acc ++ [M.b8 n], by omega, by go_num, rfl, by omega, HO3.out, HB3.out, by simp; omega, HA.out⟩
      case measure => simp [intOf]; omega
    · obtain rfl : k = 4 := by omega
      have HA := Lib.hid (show acc = M.frm ps by rw [← hac]; simp [M.tl])
      have HO3 := Lib.hid hown
      have HB3 := Lib.hid hbw
      clear hown hbw hac
      go_wp2
      go_ret
      exact ⟨_, rfl, by rw [← HA.out]; exact HO3.out, HB3.out⟩
end Go.Proofs.YtmjkcbcenpdcnaaDoor
