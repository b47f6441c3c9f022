/- Contracts of some and awake; no conditions. -/
import Derived.Test.YtacieiddhkkahaaCmdsK
namespace Go.Proofs.Ytacieiddhkkahaa
open Go.ChangeShapes Go.WideShapes Go.ChangeAt Go.RowKit

namespace M
def someC : Cmd := ⟨1, 0, 1, 1, 0, 1, [([97], 0, 0)], [([98], [49])], false⟩
theorem some_mod : Mod someC := ⟨by decide, by decide, by decide, by decide, by decide⟩
theorem some_right : rightC someC = true := by kernel_rfl
theorem some_inter : interB someC someC = true := by kernel_rfl
theorem some_same : sameC someC someC = true := by kernel_rfl
theorem some_list : keysL someC = [[97], [98]] := asc_ext (join_asc _ _) (by unfold Asc; decide) (fun x => by
  unfold keysL
  rw [join_mem]
  simp [someC, rk, wk])
theorem some_keys : (keysL someC).length = 2 := by rw [some_list]; rfl
end M
/-- A command in new memory. -/
def MadeC (c : M.Cmd) (w : World) (e : Ending) (w' : World) : Prop := ∃ va vb, e = .returned (.agg #[.int .i64 c.k, .int .i64 c.tc, .int .i64 c.tn, .int .i64 c.tt, .int .i64 c.tk, .int .i64 c.sh, va, vb, .bool c.cm]) ∧ Rds w' va c.rs ∧ Wrs w' vb c.ws ∧ Below w.heap.size w w'

theorem rds_one (w : World) (k : List UInt8) (t c : Int) : Rds (w.alloc (.cells #[.string ⟨k.toArray⟩, .int .i64 t, .int .i64 c] 40)) (.slice (some ⟨w.heap.size, 0, none⟩) 1 1) [(k, t, c)] :=
  RowN.of_owns (World.ownsRow_lit (base := w.heap.size) (e := 40) (size := 3) w #[.string ⟨k.toArray⟩, .int .i64 t, .int .i64 c] 1 (Nat.le_refl _) (by decide) rfl)
theorem wrs_one (w : World) (k x : List UInt8) : Wrs (w.alloc (.cells #[.string ⟨k.toArray⟩, .string ⟨x.toArray⟩] 42)) (.slice (some ⟨w.heap.size, 0, none⟩) 1 1) [(k, x)] :=
  RowN.of_owns (World.ownsRow_lit (base := w.heap.size) (e := 42) (size := 2) w #[.string ⟨k.toArray⟩, .string ⟨x.toArray⟩] 1 (Nat.le_refl _) (by decide) rfl)

set_option maxHeartbeats 1000000 in
theorem some_any (w : World) : Calls Try.prog 23 #[] w (MadeC M.someC w) := by
  have h1 := Lib.hid ((rds_one (w.alloc (.cells #[.int .i64 1, .int .i64 0, .int .i64 1, .int .i64 1, .int .i64 0, .int .i64 1, .slice (some ⟨w.heap.size + 1, 0, none⟩) 1 1, .slice (some ⟨w.heap.size + 1 + 1, 0, none⟩) 1 1, .bool false] 29)) [97] 0 0).push (.cells #[.string ⟨#[98]⟩, .string ⟨#[49]⟩] 42))
  have h2 := Lib.hid (wrs_one ((w.alloc (.cells #[.int .i64 1, .int .i64 0, .int .i64 1, .int .i64 1, .int .i64 0, .int .i64 1, .slice (some ⟨w.heap.size + 1, 0, none⟩) 1 1, .slice (some ⟨w.heap.size + 1 + 1, 0, none⟩) 1 1, .bool false] 29)).alloc (.cells #[.string ⟨#[97]⟩, .int .i64 0, .int .i64 0] 40)) [98] [49])
  go_enter Try.func23, Try.ntmps23
  go_wp2
  refine bodyPost_ret (v := .agg #[.int .i64 1, .int .i64 0, .int .i64 1, .int .i64 1, .int .i64 0, .int .i64 1, .slice (some ⟨w.heap.size + 1, 0, none⟩) 1 1, .slice (some ⟨w.heap.size + 1 + 1, 0, none⟩) 1 1, .bool false]) (by simp [results, Try.results23, go_sem]) rfl ?_
  refine ⟨_, _, rfl, ?_, ?_, below_new (below_new (below_new (Below.refl _ _)))⟩
  · have := h1.out
    simpa [M.someC] using this
  · have := h2.out
    simpa [M.someC] using this

set_option maxHeartbeats 4000000 in
set_option maxRecDepth 100000 in
theorem awake_any (w : World) : Calls Try.prog 9 #[] w fun e w' => e = .returned (.bool true) ∧ Below w.heap.size w w' := by
  have e1 := M.some_right
  have e2 := M.some_inter
  have e3 := M.some_same
  have HK := Lib.hid M.some_keys
  have F := M.some_mod
  have B0 := Lib.hid (Below.refl w.heap.size w)
  go_enter Try.func9, Try.ntmps9
  go_wp2_with (fail)
  refine (some_any _).mono ?_
  rintro e w1 ⟨va1, vb1, rfl, hr, hw, hb⟩
  have B1 := Lib.hid (below_on B0.out hb)
  have R1 := Lib.hid hr
  have W1 := Lib.hid hw
  clear hr hw
  clear hb B0
  go_wp2_with (fail)
  refine (right_cmd M.someC R1.out W1.out F.l F.l').mono ?_
  rintro e w2 ⟨rfl, hb⟩
  have B2 := Lib.hid (below_on B1.out hb)
  have R1a := Lib.hid (R1.out.below hb)
  have W1a := Lib.hid (W1.out.below hb)
  clear R1 W1
  clear hb B1
  clear R1a W1a
  go_wp2_with (fail)
  refine (some_any _).mono ?_
  rintro e w3 ⟨va2, vb2, rfl, hr, hw, hb⟩
  have B3 := Lib.hid (below_on B2.out hb)
  have R2 := Lib.hid hr
  have W2 := Lib.hid hw
  clear hr hw
  clear hb B2
  go_wp2_with (fail)
  refine (some_any _).mono ?_
  rintro e w4 ⟨va3, vb3, rfl, hr, hw, hb⟩
  have B4 := Lib.hid (below_on B3.out hb)
  have R2a := Lib.hid (R2.out.below hb)
  have W2a := Lib.hid (W2.out.below hb)
  clear R2 W2
  have R3 := Lib.hid hr
  have W3 := Lib.hid hw
  clear hr hw
  clear hb B3
  go_wp2_with (fail)
  refine (inter_any M.someC M.someC R2a.out W2a.out R3.out W3.out F F).mono ?_
  rintro e w5 ⟨rfl, hb⟩
  have B5 := Lib.hid (below_on B4.out hb)
  have R2aa := Lib.hid (R2a.out.below hb)
  have W2aa := Lib.hid (W2a.out.below hb)
  clear R2a W2a
  have R3a := Lib.hid (R3.out.below hb)
  have W3a := Lib.hid (W3.out.below hb)
  clear R3 W3
  clear hb B4
  clear R2aa W2aa R3a W3a
  go_wp2_with (fail)
  refine (some_any _).mono ?_
  rintro e w6 ⟨va4, vb4, rfl, hr, hw, hb⟩
  have B6 := Lib.hid (below_on B5.out hb)
  have R4 := Lib.hid hr
  have W4 := Lib.hid hw
  clear hr hw
  clear hb B5
  go_wp2_with (fail)
  refine (keys_cmd M.someC R4.out W4.out F).mono ?_
  rintro e w7 ⟨v9, rfl, ho, hb⟩
  have B7 := Lib.hid (below_on B6.out hb)
  have R4a := Lib.hid (R4.out.below hb)
  have W4a := Lib.hid (W4.out.below hb)
  clear R4 W4
  obtain ⟨A9, k9, rfl⟩ := ownsRow_slice ho
  clear ho
  rw [HK.out]
  clear hb B6
  clear R4a W4a
  go_wp2_with (fail)
  refine (some_any _).mono ?_
  rintro e w8 ⟨va5, vb5, rfl, hr, hw, hb⟩
  have B8 := Lib.hid (below_on B7.out hb)
  have R5 := Lib.hid hr
  have W5 := Lib.hid hw
  clear hr hw
  clear hb B7
  go_wp2_with (fail)
  refine (some_any _).mono ?_
  rintro e w9 ⟨va6, vb6, rfl, hr, hw, hb⟩
  have B9 := Lib.hid (below_on B8.out hb)
  have R5a := Lib.hid (R5.out.below hb)
  have W5a := Lib.hid (W5.out.below hb)
  clear R5 W5
  have R6 := Lib.hid hr
  have W6 := Lib.hid hw
  clear hr hw
  clear hb B8
  go_wp2_with (fail)
  refine (same_cmd M.someC M.someC R5a.out W5a.out R6.out W6.out F.l F.l').mono ?_
  rintro e w10 ⟨rfl, hb⟩
  have B10 := Lib.hid (below_on B9.out hb)
  have R5aa := Lib.hid (R5a.out.below hb)
  have W5aa := Lib.hid (W5a.out.below hb)
  clear R5a W5a
  have R6a := Lib.hid (R6.out.below hb)
  have W6a := Lib.hid (W6.out.below hb)
  clear R6 W6
  clear hb B9
  go_wp2
  go_ret
  exact ⟨rfl, B10.out⟩
end Go.Proofs.Ytacieiddhkkahaa
