/- A disk that lives on through steps; contract of awake; no conditions. -/
import Derived.Test.YtpdknamdladgnaaFew
namespace Go.Proofs.Ytpdknamdladgnaa
open Go.RowKit

/-- A disk of one's own: nothing that was there in w has turned. -/
structure Live (w wk : World) (g : Nat) (F : Nat → Prop) (s : M.St) : Prop where
  disk : Disk wk g F s
  below : Below w.heap.size w wk
  mine : ∀ x, F x → w.heap.size ≤ x
theorem Live.on {w wk w' : World} {g : Nat} {F : Nat → Prop} {s : M.St} (h : Live w wk g F s) (hb : Below wk.heap.size wk w') : Live w w' g F s :=
  ⟨h.disk.below hb, below_on h.below hb, h.mine⟩
theorem Live.step {w wk w' : World} {g : Nat} {F : Nat → Prop} {s s' : M.St} (h : Live w wk g F s) (k : ∃ F', Disk w' g F' s' ∧ Keeps F wk w' ∧ Grew F F' wk w') : ∃ F', Live w w' g F' s' := by
  obtain ⟨F', hd, hk, hg⟩ := k
  have := h.below.size
  exact ⟨F', hd, h.below.trans (hk.below h.mine this), fun x e => (hg.1 x e).elim (h.mine x) (fun e => by omega)⟩
theorem Live.new {w w' : World} {n : Nat} (h : Disk w' w.heap.size (fun x => x = w.heap.size) (M.nil n)) (hb : Below w.heap.size w w') : Live w w' w.heap.size (fun x => x = w.heap.size) (M.nil n) := ⟨h, hb, fun x e => by omega⟩
/-- Bytes that stand apart from it. -/
theorem Live.apart {w wk : World} {g : Nat} {F : Nat → Prop} {s : M.St} (h : Live w wk g F s) {w' : World} {b o n c : Nat} (hb : wk.heap.size ≤ b) (_ : Below wk.heap.size wk w') : In (fun x => ¬ F x) (.slice (some ⟨b, o, none⟩) n c) :=
  In.mk fun e => by have := h.disk.lt b e; omega

theorem two_new (w : World) (x y : UInt8) : Bts (w.alloc (.cells #[.int .u8 (x.toNat : Int), .int .u8 (y.toNat : Int)] 5)) (.slice (some ⟨w.heap.size, 0, none⟩) 2 2) [x, y] := (Blk.new w [x, y]).bts
theorem three_new (w : World) (x y z : UInt8) : Bts (w.alloc (.cells #[.int .u8 (x.toNat : Int), .int .u8 (y.toNat : Int), .int .u8 (z.toNat : Int)] 5)) (.slice (some ⟨w.heap.size, 0, none⟩) 3 3) [x, y, z] := (Blk.new w [x, y, z]).bts

theorem st1 : M.app [1, 2] (M.nil 9) = ⟨9, [1, 2], 0⟩ := rfl
theorem st2 : M.syn ⟨9, [1, 2], 0⟩ = ⟨9, [1, 2], 2⟩ := rfl
theorem st3 : M.app [3, 4] ⟨9, [1, 2], 2⟩ = ⟨9, [1, 2, 3, 4], 2⟩ := rfl
theorem st4 : M.crash 1 0 8 ⟨9, [1, 2, 3, 4], 2⟩ = ⟨9, [1, 2, 11], 3⟩ := rfl

set_option maxHeartbeats 1000000 in
theorem awake_any (w : World) : Calls Try.prog 11 #[] w fun e w' => e = .returned (.bool true) ∧ Below w.heap.size w w' := by
  go_enter Try.func11, Try.ntmps11
  go_wp2_with (fail)
  refine (new_any 9 w (by omega)).mono ?_
  rintro e w1 ⟨rfl, hd, hb⟩
  have L1 := Lib.hid (Live.new hd hb)
  clear hd hb
  have n1 := below_new (o := .cells #[.int .u8 1, .int .u8 2] 5) (Below.refl w1.heap.size w1)
  have A1 := Lib.hid (appendD_any (uv := .slice (some ⟨w1.heap.size, 0, none⟩) 2 2) (new := [1, 2]) (L1.out.on n1).disk (two_new w1 1 2) (fun _ => L1.out.apart (Nat.le_refl _) n1))
  have LA1 := Lib.hid (L1.out.on n1)
  clear n1
  go_wp2_with (fail)
  refine A1.out.mono ?_
  rintro e w2 ⟨rfl, hs⟩
  obtain ⟨F2, hL⟩ := LA1.out.step hs
  rw [st1] at hL
  have L2 := Lib.hid hL
  clear hs hL A1 LA1
  go_wp2_with (fail)
  refine (sync_any L2.out.disk).mono ?_
  rintro e w3 ⟨rfl, hs⟩
  obtain ⟨F3, hL⟩ := L2.out.step hs
  rw [st2] at hL
  have L3 := Lib.hid hL
  clear hs hL
  have n3 := below_new (o := .cells #[.int .u8 3, .int .u8 4] 5) (Below.refl w3.heap.size w3)
  have A3 := Lib.hid (appendD_any (uv := .slice (some ⟨w3.heap.size, 0, none⟩) 2 2) (new := [3, 4]) (L3.out.on n3).disk (two_new w3 3 4) (fun _ => L3.out.apart (Nat.le_refl _) n3))
  have LA3 := Lib.hid (L3.out.on n3)
  clear n3
  go_wp2_with (fail)
  refine A3.out.mono ?_
  rintro e w4 ⟨rfl, hs⟩
  obtain ⟨F4, hL⟩ := LA3.out.step hs
  rw [st3] at hL
  have L4 := Lib.hid hL
  clear hs hL A3 LA3
  go_wp2_with (fail)
  refine (crashD_any L4.out.disk 1 0 8).mono ?_
  rintro e w5 ⟨rfl, hs⟩
  obtain ⟨F5, hL⟩ := L4.out.step hs
  rw [st4] at hL
  have L5 := Lib.hid hL
  clear hs hL
  go_wp2_with (fail)
  refine (bytes_any L5.out.disk).mono ?_
  rintro e w6 ⟨rfl, hB, hb⟩
  have n6 := below_new (o := .cells #[.int .u8 1, .int .u8 2, .int .u8 11] 5) (Below.refl w6.heap.size w6)
  have S6 := Lib.hid (same_any (hB.bts.below n6) (three_new w6 1 2 11) (by simp))
  have L6 := Lib.hid ((L5.out.on hb).on n6)
  clear hB hb n6
  go_wp2_with (fail)
  refine S6.out.mono ?_
  rintro e w7 ⟨rfl, hb⟩
  rw [M.sameB_refl]
  have L7 := Lib.hid (L6.out.on hb)
  clear hb S6
  go_wp2_with (fail)
  refine (safe_any L7.out.disk).mono ?_
  rintro e w8 ⟨rfl, rfl⟩
  go_wp2_with (fail)
  refine (room_any L7.out.disk).mono ?_
  rintro e w8 ⟨rfl, hb⟩
  have L8 := Lib.hid (L7.out.on hb)
  clear hb
  go_wp2
  go_ret
  exact ⟨rfl, L8.out.below⟩
end Go.Proofs.Ytpdknamdladgnaa
