/- Contract of awake; no conditions but that the table reads as the text lays it. -/
import Derived.Test.YtmjkcbcenpdcnaaDoorWalksF
import Derived.Lib.SlBytesConst
namespace Go.Proofs.YtmjkcbcenpdcnaaDoor
open Go.RowKit

theorem crc_nine : M.crc [49, 50, 51, 52, 53, 54, 55, 56, 57] = 3421780262 := by kernel_rfl
theorem Bts.marked (w : World) (xs : List UInt8) (fr : Nat × Nat) : Bts (w.alloc (.cells (xs.map enc8).toArray 5 fr)) (.slice (some ⟨w.heap.size, 0, none⟩) xs.length xs.length) xs := by
  refine ⟨_, xs.length, by simp, by simp, fun _ => ⟨w.heap.size, 0, rfl, by simp, fun k x hk => ?_⟩⟩
  rw [Nat.zero_add, World.cell?_alloc_mark]
  simpa using hk
theorem size_one : M.size 1 = 9 := by kernel_rfl

set_option maxHeartbeats 1000000 in
set_option maxRecDepth 100000 in
theorem awake_any {w : World} (hT : Tab w) : Calls Tryd.prog 9 #[] w fun e w' => e = .returned (.bool true) ∧ Below w.heap.size w w' := by
  have hb0 : Below w.heap.size w (w.alloc (.cells #[.int .u8 7] 5)) := below_new (Below.refl _ _)
  have hk : Blk (w.alloc (.cells #[.int .u8 7] 5)) w.heap.size [7] := by unfold Blk; rw [heap_alloc_new]; rfl
  have hp := put_ok (bs := []) (ps := [7]) (hT.below hb0) (Bts.nil _ none 0) (hk.bts (o := 0) (n := 1) (c := 1) rfl (by simp) (by omega)) (by simp) (by simp) (by simp)
  have HT := Lib.hid hT
  have HB0 := Lib.hid hb0
  clear hT hb0 hk
  have hcv := fun (w : World) (C : Array Value) (n c : Nat) => Lib.run_convert_bytes_const (P := Tryd.prog) w 22 5 C n c Tryd.underlying22 Tryd.underlying5
  go_enter Tryd.func9, Tryd.ntmps9
  go_wp2_with (fail)
  refine hp.mono ?_
  rintro e w1 ⟨rfl, _, hb⟩
  have HB1 := Lib.hid (below_on HB0.out hb)
  clear hb hp HB0
  have HK := Lib.hid (Bts.marked w1 [49, 50, 51, 52, 53, 54, 55, 56, 57] (9, 10))
  have HB2 := Lib.hid (below_new (o := .cells (([49, 50, 51, 52, 53, 54, 55, 56, 57] : List UInt8).map enc8).toArray 5 (9, 10)) HB1.out)
  have hs := sum_any (HT.out.below HB2.out) HK.out (by simp)
  rw [crc_nine] at hs
  simp only [List.map_cons, List.map_nil, enc8, List.length_cons, List.length_nil] at hs
  go_wp2_with (fail)
  refine hs.mono ?_
  rintro e w2 ⟨rfl, rfl⟩
  clear hs
  go_wp2_with (fail)
  refine (size_any _ _).mono ?_
  rintro e w2 ⟨rfl, rfl⟩
  rw [size_one]
  go_wp2
  go_ret
  exact ⟨rfl, HB2.out⟩
end Go.Proofs.YtmjkcbcenpdcnaaDoor
