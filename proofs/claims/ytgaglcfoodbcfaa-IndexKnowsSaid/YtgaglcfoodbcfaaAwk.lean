/- Contracts of the law's some and awake; no conditions. -/
import Derived.Test.YtgaglcfoodbcfaaDat
import Derived.Test.YtgaglcfoodbcfaaFew
import Derived.Test.YtgaglcfoodbcfaaSlo
namespace Go.Proofs.Ytgaglcfoodbcfaa
open Go.ChangeShapes Go.WideShapes Go.ChangeAt Go.RowKit

attribute [local go_sem ↓] run_same7
namespace M
def someC (n : Int) : Cmd := ⟨1, 0, n, 1, 0, 1, [], [([97], [])], false⟩
theorem some_mod (n : Int) : Mod (someC n) := modB_iff.1 (by kernel_rfl)
def awakeR : Rec := ⟨0, 3, 1, 0, 0, 0, 0, someC 1, 5, 0, 0, 0, 0, 0, 0, 0, false⟩
end M
/-- A command in new memory. -/
def MadeC (c : M.Cmd) (w : World) (e : Ending) (w' : World) : Prop := ∃ va vb, e = .returned (.agg #[.int .i64 c.k, .int .i64 c.tc, .int .i64 c.tn, .int .i64 c.tt, .int .i64 c.tk, .int .i64 c.sh, va, vb, .bool c.cm]) ∧ Rds w' va c.rs ∧ Wrs w' vb c.ws ∧ Below w.heap.size w w'
theorem wrs_one (w : World) (k x : List UInt8) : Wrs (w.alloc (.cells #[.string ⟨k.toArray⟩, .string ⟨x.toArray⟩] 46)) (.slice (some ⟨w.heap.size, 0, none⟩) 1 1) [(k, x)] :=
  RowN.of_owns (World.ownsRow_lit (base := w.heap.size) (e := 46) (size := 2) w #[.string ⟨k.toArray⟩, .string ⟨x.toArray⟩] 1 (Nat.le_refl _) (by decide) rfl)
theorem rds_nil (w : World) : Rds w (.slice none 0 0) [] := ⟨rfl, none, 0, rfl, Nat.le_refl _, fun h => absurd h (by simp)⟩
theorem wrs_nil (w : World) : Wrs w (.slice none 0 0) [] := ⟨rfl, none, 0, rfl, Nat.le_refl _, fun h => absurd h (by simp)⟩
set_option maxHeartbeats 1000000 in
theorem some_any (n : Int) (w : World) : Calls Try.prog 29 #[.int .i64 n] w (MadeC (M.someC n) w) := by
  have h2 := Lib.hid (wrs_one (w.alloc (.cells #[.int .i64 1, .int .i64 0, .int .i64 n, .int .i64 1, .int .i64 0, .int .i64 1, .slice none 0 0, .slice (some ⟨w.heap.size + 1, 0, none⟩) 1 1, .bool false] 32)) [97] [])
  go_enter Try.func29, Try.ntmps29
  go_wp2
  refine bodyPost_ret (v := .agg #[.int .i64 1, .int .i64 0, .int .i64 n, .int .i64 1, .int .i64 0, .int .i64 1, .slice none 0 0, .slice (some ⟨w.heap.size + 1, 0, none⟩) 1 1, .bool false]) (by simp [results, Try.results29, go_sem]) rfl ?_
  refine ⟨_, _, rfl, rds_nil _, ?_, below_new (below_new (Below.refl _ _))⟩
  have := h2.out
  simpa [M.someC] using this
theorem aw_s (va vb : Value) : atS [⟨M.awakeR, va, vb⟩] (1, 1) (M.someC 2) 1 = 6 := by kernel_rfl
theorem aw_d (va vb : Value) : atD [⟨M.awakeR, va, vb⟩] (1, 1) (M.someC 2) (fun _ => 0) = Dp.M.wit (fun _ => 0) 0 3 := by kernel_rfl
theorem aw_n (va vb : Value) : nextSlot 0 (rcs [⟨M.awakeR, va, vb⟩]) = 4 := by kernel_rfl
theorem rows_one {w : World} {x : Rv} (h : Txt w x) : Rows (w.alloc (.cells x.cells.toArray 44)) (.slice (some ⟨w.heap.size, 0, none⟩) 1 1) [x] := by
  refine ⟨⟨by simp; rfl, some ⟨w.heap.size, 0, none⟩, 1, rfl, Nat.le_refl 1, fun _ => ⟨w.heap.size, 0, rfl, by simp, fun j v hj => ?_⟩⟩, fun y hy => ?_⟩
  · rw [Nat.zero_add]
    exact (Cel.new w x.cells 44).get j v (by simpa using hj)
  · rw [List.mem_singleton] at hy
    subst hy
    exact h.below (below_new (Below.refl _ _))
set_option maxHeartbeats 4000000 in
set_option maxRecDepth 100000 in
theorem awake_any (w : World) : Calls Try.prog 12 #[] w fun e w' => e = .returned (.bool true) ∧ Below w.heap.size w w' := by
  have hsame : V7.same7 3 0 0 0 0 0 0 3 0 0 0 0 0 0 = true := by kernel_rfl
  go_enter Try.func12, Try.ntmps12
  go_wp2_with (fail)
  refine (some_any 1 _).mono ?_
  rintro e w1 ⟨va1, vb1, rfl, hr, hw, hb⟩
  obtain ⟨A1, c1, rfl⟩ := rowN_sliceOf hr
  obtain ⟨A2, c2, rfl⟩ := rowN_sliceOf hw
  have HX := Lib.hid (rows_one (w := w1) (x := ⟨M.awakeR, .slice A1 0 c1, .slice A2 1 c2⟩) ⟨hr, hw⟩)
  have HB := Lib.hid (below_on hb (below_new (o := .cells (Rv.cells ⟨M.awakeR, .slice A1 0 c1, .slice A2 1 c2⟩).toArray 44) (Below.refl _ _)))
  clear hr hw hb
  go_wp2_with (first
    | (with_reducible refine wpList_build44 rfl (.tmp 6) rfl ⟨M.awakeR, .slice A1 0 c1, .slice A2 1 c2⟩ rfl ?_)
    | fail)
  generalize w1.alloc (.cells (Rv.cells ⟨M.awakeR, .slice A1 0 c1, .slice A2 1 c2⟩).toArray 44) = w2 at *
  refine (some_any 2 _).mono ?_
  rintro e w3 ⟨va2, vb2, rfl, hr, hw, hb⟩
  have HX3 := Lib.hid (HX.out.below hb)
  have HB3 := Lib.hid (below_on HB.out hb)
  have HA := attrs_any HX3.out (by simp) (fun x hx => by rw [List.mem_singleton] at hx; subst hx; exact M.some_mod 1) 1 1 (M.someC 2) hr hw (M.some_mod 2) 1 (fun _ => 0)
  rw [aw_s, aw_d] at HA
  have HAW := Lib.hid HA
  clear hr hw hb HA
  go_wp2_with (fail)
  refine HAW.out.mono ?_
  rintro e w4 ⟨rfl, hb⟩
  have HX4 := Lib.hid (HX3.out.below hb)
  have HB4 := Lib.hid (below_on HB3.out hb)
  have hb5 : Below w4.heap.size w4 (w4.alloc (.cells #[.int .i64 3, .int .i64 0, .int .i64 0, .int .i64 0, .int .i64 0, .int .i64 0, .int .i64 0] 42)) := below_new (Below.refl _ _)
  have hsl := slot_any 0 (HX4.out.below hb5) (by simp)
  rw [aw_n] at hsl
  have HSL := Lib.hid hsl
  have HB5 := Lib.hid (below_on HB4.out hb5)
  have HD := Lib.hid (hold_range (Hold.new w4 [.int .i64 3, .int .i64 0, .int .i64 0, .int .i64 0, .int .i64 0, .int .i64 0, .int .i64 0] 42) 0 [.int .i64 3, .int .i64 0, .int .i64 0, .int .i64 0, .int .i64 0, .int .i64 0, .int .i64 0] (fun j v hj => by rw [Nat.zero_add]; exact hj))
  clear hb hb5 hsl HX HX3 HB HB3 HAW
  rw [show Dp.M.wit (fun _ => 0) 0 3 0 = 3 from rfl, show Dp.M.wit (fun _ => 0) 0 3 1 = 0 from rfl, show Dp.M.wit (fun _ => 0) 0 3 2 = 0 from rfl, show Dp.M.wit (fun _ => 0) 0 3 3 = 0 from rfl, show Dp.M.wit (fun _ => 0) 0 3 4 = 0 from rfl, show Dp.M.wit (fun _ => 0) 0 3 5 = 0 from rfl, show Dp.M.wit (fun _ => 0) 0 3 6 = 0 from rfl]
  go_wp2_with (first
    | (with_reducible refine wpList_store_fresh rfl 42 _ _ rfl w4.heap.size rfl 42 _ [.int .i64 3, .int .i64 0, .int .i64 0, .int .i64 0, .int .i64 0, .int .i64 0, .int .i64 0] rfl rfl rfl (by kernel_rfl) rfl ?_)
    | (with_reducible refine wpList_load_mid_g ?_ 42 _ rfl w4.heap.size 0 rfl [.int .i64 3, .int .i64 0, .int .i64 0, .int .i64 0, .int .i64 0, .int .i64 0, .int .i64 0] _ HD.out Try.underlying42 rfl (by kernel_rfl) ?_; kernel_rfl)
    | fail)
  refine HSL.out.mono ?_
  rintro e w6 ⟨rfl, hb6⟩
  have HB6 := Lib.hid (below_on HB5.out hb6)
  clear hb6
  go_wp2
  go_ret
  exact ⟨rfl, HB6.out⟩
end Go.Proofs.Ytgaglcfoodbcfaa
