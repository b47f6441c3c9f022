/- A log that is not there: what each call answers, that nothing that lay turns; condition: where it says so, the table of sixteen. -/
import Derived.Test.YtdachohcjpjblaaGreatDoorSrt
import Derived.Test.YtdachohcjpjblaaGreatDoorAwk
import Derived.Test.YtdachohcjpjblaaGreatDoorLawW
namespace Go.Proofs.YtdachohcjpjblaaGreatDoor
open Go.ChangeShapes Go.WideShapes Go.ChangeAt Go.RowKit
open Di (Keeps In below_on below_new)
open Wi (Hold)

namespace No
/-- What look makes of nothing. -/
def Bare (w : World) : World := w.alloc (.cells #[.slice none 0 0, .int .i64 0, .slice none 0 0, .slice none 0 0, .map none] 86)
theorem bare_hold (w : World) : Hold (Bare w) w.heap.size 86 [.slice none 0 0, .int .i64 0, .slice none 0 0, .slice none 0 0, .map none] := Wi.Hold.new w _ 86
theorem bare_below (w : World) : Below w.heap.size w (Bare w) := below_new (Below.refl _ _)
set_option maxRecDepth 100000 in
set_option maxHeartbeats 4000000 in
theorem look_nil (w : World) : Calls Tryz.prog 36 #[.pointer none] w fun e w' => e = .returned (.pointer (some ⟨w.heap.size, 0, none⟩)) ∧ w' = Bare w := by
  go_enter Tryz.func36, Tryz.ntmps36
  go_wp2
  go_ret
  exact ⟨rfl, rfl⟩
set_option maxRecDepth 100000 in
set_option maxHeartbeats 4000000 in
theorem within_nil {w : World} {g : Nat} (n : Int) (h : Hold w g 86 [.slice none 0 0, .int .i64 0, .slice none 0 0, .slice none 0 0, .map none]) : Calls Tryz.prog 39 #[.pointer (some ⟨g, 0, none⟩), .int .i64 n] w fun e w' => e = .returned (.slice none 0 0) ∧ w' = w := by
  have c3 := hold_cell h 3 rfl
  clear h
  go_enter Tryz.func39, Tryz.ntmps39
  go_wp2
  go_loopw [5, 13] (fun a i wr => a = .slice none 0 0 ∧ i = .int .i64 0 ∧ wr = w) (fun _ _ _ => 0)
  case atStart => exact ⟨rfl, rfl, rfl⟩
  case round =>
    obtain ⟨rfl, rfl, rfl⟩ := hrel
    go_wp2
    go_ret
    exact ⟨rfl, rfl⟩
set_option maxHeartbeats 4000000 in
theorem all_nil (w : World) : Calls Tryz.prog 15 #[.pointer none] w fun e w' => e = .returned (.slice none 0 0) ∧ Below w.heap.size w w' := by
  have c0 := hold_cell (bare_hold w) 0 rfl
  have HC := Lib.hid c0
  clear c0
  go_enter Tryz.func15, Tryz.ntmps15
  go_wp2_with (fail)
  refine (look_nil w).mono ?_
  rintro e w1 ⟨rfl, rfl⟩
  have c0 := HC.out
  go_wp2_with (fail)
  refine (within_nil 0 (bare_hold w)).mono ?_
  rintro e w2 ⟨rfl, rfl⟩
  go_wp2
  go_ret
  exact ⟨rfl, bare_below w⟩
set_option maxHeartbeats 4000000 in
theorem firm_nil (w : World) : Calls Tryz.prog 30 #[.pointer none] w fun e w' => e = .returned (.slice none 0 0) ∧ Below w.heap.size w w' := by
  go_enter Tryz.func30, Tryz.ntmps30
  go_wp2_with (fail)
  refine (look_nil w).mono ?_
  rintro e w1 ⟨rfl, rfl⟩
  go_wp2_with (fail)
  refine (disk_none _).mono ?_
  rintro e w2 ⟨rfl, rfl⟩
  go_wp2_with (fail)
  refine (Di.safe_none _).mono ?_
  rintro e w2 ⟨rfl, rfl⟩
  go_wp2_with (fail)
  refine (within_nil 0 (bare_hold w)).mono ?_
  rintro e w2 ⟨rfl, rfl⟩
  go_wp2
  go_ret
  exact ⟨rfl, bare_below w⟩
set_option maxHeartbeats 4000000 in
theorem sync_nil (w : World) : Calls Tryz.prog 28 #[.pointer none] w fun e w' => e = .returned (.tuple #[]) ∧ w = w' := by
  go_enter Tryz.func28, Tryz.ntmps28
  go_wp2_with (fail)
  refine (disk_none _).mono ?_
  rintro e w2 ⟨rfl, rfl⟩
  go_wp2_with (fail)
  refine (Di.sync_none _).mono ?_
  rintro e w2 ⟨rfl, rfl⟩
  go_wp2
  go_end0
  exact ⟨rfl, rfl⟩
set_option maxHeartbeats 4000000 in
theorem synced_nil (w : World) : Calls Tryz.prog 22 #[.pointer none] w fun e w' => e = .returned (.bool false) ∧ w = w' := by
  go_enter Tryz.func22, Tryz.ntmps22
  go_wp2_with (fail)
  refine (disk_none _).mono ?_
  rintro e w2 ⟨rfl, rfl⟩
  go_wp2
  go_ret
  exact ⟨rfl, rfl⟩
set_option maxHeartbeats 4000000 in
theorem insts_nil (w : World) : Calls Tryz.prog 23 #[.pointer none] w fun e w' => ∃ A c, e = .returned (.slice A 0 c) ∧ Below w.heap.size w w' := by
  have c4 := hold_cell (bare_hold w) 4 rfl
  have HC := Lib.hid c4
  clear c4
  go_enter Tryz.func23, Tryz.ntmps23
  go_wp2_with (fail)
  refine (look_nil w).mono ?_
  rintro e w1 ⟨rfl, rfl⟩
  go_wp2_with (fail)
  refine (It.insts0 HC.out).mono ?_
  rintro e w2 ⟨A, c, rfl, hb⟩
  go_wp2
  go_ret
  exact ⟨A, c, rfl, below_on (bare_below w) hb⟩
theorem rows_nil (w : World) : Rows w (.slice none 0 0) [] := ⟨Wi.RowN.of_owns (World.ownsRow_nil w 0 67 25 : w.ownsRow 0 67 25 (.slice none 0 0) 0 []), fun _ h => (List.not_mem_nil h).elim⟩
set_option maxRecDepth 100000 in
set_option maxHeartbeats 8000000 in
theorem append_nil {w : World} (hT : Fr.Tab w) : Calls Tryz.prog 29 #[.pointer none, .slice none 0 0] w fun e w' => e = .returned (.int .i64 1) ∧ Below w.heap.size w w' := by
  have HFR := Lib.hid (frames_any hT (rows_nil w) (fun _ h => (List.not_mem_nil h).elim) (by simp))
  go_enter Tryz.func29, Tryz.ntmps29
  go_wp2_with (fail)
  refine HFR.out.mono ?_
  rintro e w1 ⟨u, rfl, ho, hb⟩
  obtain ⟨A, c, rfl⟩ := bts_slice (Fr.Row.of_owns ho : Fr.Bts w1 u _)
  have e0 : (K.fb (if rgB [] then rcs [] else [])).length = 0 := rfl
  have e1 : rgB [] = true := rfl
  rw [e0, e1]
  simp only [if_true]
  have HB := Lib.hid hb
  have hc1 := hold_cell (bare_hold w1) 1 rfl
  have hc0 := hold_cell (bare_hold w1) 0 rfl
  have HC1 := Lib.hid hc1
  have HC0 := Lib.hid hc0
  clear ho hb HFR e0 e1 hc1 hc0
  go_wp2_with (fail)
  refine (look_nil w1).mono ?_
  rintro e w2 ⟨rfl, hw2⟩
  have hc1 : w2.cell? ⟨w1.heap.size, 1, none⟩ = some (.int .i64 0) := by rw [hw2]; exact HC1.out
  have hc0 : w2.cell? ⟨w1.heap.size, 0, none⟩ = some (.slice none 0 0) := by rw [hw2]; exact HC0.out
  have HB2 := Lib.hid (show Below w1.heap.size w1 w2 by rw [hw2]; exact bare_below w1)
  clear hw2
  go_wp2
  go_region_held3 (fun w' => w'.cell? ⟨w1.heap.size, 1, none⟩ = some (.int .i64 0)) (first | exact hc1 | assumption)
    (first
      | (go_at_call 20; refine Calls.mono (disk_none _) ?_; rintro e w3 ⟨rfl, rfl⟩)
      | (go_at_call 51; refine Calls.mono (Di.room_none _) ?_; rintro e w3 ⟨rfl, rfl⟩))
  have q0 : IntKind.i64.wrap 0 = 0 := by decide
  rw [q0]
  have d0 : w2.drew.cell? ⟨w1.heap.size, 0, none⟩ = some (.slice none 0 0) := by simpa using hc0
  clear hc0 hc1 q0
  go_wp2
  go_region_held3 (fun w' => w'.cell? ⟨w1.heap.size, 0, none⟩ = some (.slice none 0 0)) (first | exact d0 | assumption)
    (first
      | (go_at_call 20; refine Calls.mono (disk_none _) ?_; rintro e w3 ⟨rfl, rfl⟩)
      | (go_at_call 35; refine Calls.mono (Di.cut_none _ _) ?_; rintro e w3 ⟨rfl, rfl⟩))
  go_wp2_with (fail)
  refine (disk_none _).mono ?_
  rintro e w3 ⟨rfl, rfl⟩
  go_wp2_with (fail)
  refine (Di.append_none _ _).mono ?_
  rintro e w3 ⟨rfl, rfl⟩
  go_wp2
  go_ret
  exact ⟨rfl, below_on HB.out (HB2.out.drew.drew)⟩
theorem get_nil {w : World} (k : Ky) : Calls Tryz.prog 25 #[.pointer none, .agg #[.int .i64 k.1, .int .i64 k.2]] w (Gets w K.norec false (fun _ w' => Below w.heap.size w w')) :=
  get_gen (Φ := fun _ w' => Below w.heap.size w w') k K.norec false (fun W hW => (look_nil W).mono (by
    rintro e w' ⟨rfl, rfl⟩
    refine ⟨W.heap.size, .map none, Rv.zero, rfl, hold_cell (bare_hold W) 4 rfl, hold_lt (bare_hold W), fun W' _ => run_look0 k W', rfl, txt_zero _, ⟨Out.nil _ _ _ _, Out.nil _ _ _ _⟩, fun j hj => (bare_below W).block j hj.2, (bare_below W).size, below_on hW (bare_below W)⟩))
    (fun W W1 W2 a b => a.trans (b.below (fun x f => f.1) a.size)) (by simp [K.norec, Rv.zero]) (by simp [K.norec, Rv.zero])
set_option maxRecDepth 100000 in
set_option maxHeartbeats 8000000 in
theorem compact_nil {w : World} (hT : Fr.Tab w) : Calls Tryz.prog 24 #[.pointer none] w fun e w' => e = .returned (.int .i64 1) ∧ Below w.heap.size w w' := by
  have c4 := hold_cell (bare_hold w) 4 rfl
  have HC := Lib.hid c4
  have HT := Lib.hid hT
  clear c4 hT
  go_enter Tryz.func24, Tryz.ntmps24
  go_wp2_with (fail)
  refine (look_nil w).mono ?_
  rintro e w1 ⟨rfl, rfl⟩
  go_wp2_with (fail)
  refine (It.insts0 HC.out).mono ?_
  rintro e w2 ⟨A, c, rfl, hb⟩
  have HB := Lib.hid (below_on (bare_below w) hb)
  clear hb
  go_wp2
  go_loopw [4, 14] (fun a i wr => a = .slice none 0 0 ∧ i = .int .i64 0 ∧ wr = w2) (fun _ _ _ => 0)
  case atStart => exact ⟨rfl, rfl, rfl⟩
  case round =>
    obtain ⟨rfl, rfl, rfl⟩ := hrel
    have HFR := Lib.hid (frames_any (HT.out.below HB.out) (rows_nil _) (fun _ h => (List.not_mem_nil h).elim) (by simp))
    go_wp2_with (fail)
    refine HFR.out.mono ?_
    rintro e w3 ⟨u, rfl, -, hb⟩
    have HB3 := Lib.hid (below_on HB.out hb)
    clear hb HFR
    go_wp2_with (fail)
    refine (disk_none _).mono ?_
    rintro e w4 ⟨rfl, rfl⟩
    go_wp2_with (fail)
    refine (Di.replace_none _ _).mono ?_
    rintro e w4 ⟨rfl, rfl⟩
    go_wp2
    go_ret
    exact ⟨rfl, HB3.out⟩
set_option maxRecDepth 100000 in
set_option maxHeartbeats 8000000 in
theorem nobody_law {w : World} (x y : Int) (hT : Fr.Tab w) : Calls Tryz.prog 6 #[.agg #[.int .i64 x, .int .i64 y]] w fun e w' => e = .returned (.bool true) ∧ Below w.heap.size w w' := by
  have HT := Lib.hid hT
  have HB0 := Lib.hid (show Below w.heap.size w (w.alloc (.cells #[.int .i64 x, .int .i64 y] 53)) from below_new (Below.refl _ _))
  have hh := Hold.new w [.int .i64 x, .int .i64 y] 53
  have c0 := hold_cell hh 0 rfl
  have c1 := hold_cell hh 1 rfl
  clear hT hh
  go_enter Tryz.func6, Tryz.ntmps6
  go_wp2_with (fail)
  refine (open_nil _).mono ?_
  rintro e w1 ⟨rfl, rfl⟩
  go_wp2_with (fail)
  refine (get_nil (x, y)).mono ?_
  rintro e wc ⟨⟨r, va, vb⟩, rfl, hy, ⟨B1, -, o1⟩, ⟨B2, -, o2⟩, W, -, hb⟩
  obtain ⟨A1, k1, hva⟩ : ∃ A1 k1, va = .slice A1 r.c.rs.length k1 := by
    have := Wi.ownsRow_slice o1
    dsimp only at hy
    rwa [← hy] at this
  obtain ⟨A2, k2, hvb⟩ : ∃ A2 k2, vb = .slice A2 r.c.ws.length k2 := by
    have := Wi.ownsRow_slice o2
    dsimp only at hy
    rwa [← hy] at this
  subst hva hvb
  have hv : (⟨r, .slice A1 r.c.rs.length k1, .slice A2 r.c.ws.length k2⟩ : Rv).val = .agg #[.int .i64 r.ir, .int .i64 r.is, .int .i64 r.st, .int .i64 r.pn, .int .i64 r.pr, .int .i64 r.bn, .int .i64 r.br, .int .i64 r.c.k, .int .i64 r.c.tc, .int .i64 r.c.tn, .int .i64 r.c.tt, .int .i64 r.c.tk, .int .i64 r.c.sh, (.slice A1 r.c.rs.length k1), (.slice A2 r.c.ws.length k2), .bool r.c.cm, .int .i64 r.sq, .int .i64 r.d0, .int .i64 r.d1, .int .i64 r.d2, .int .i64 r.d3, .int .i64 r.d4, .int .i64 r.d5, .int .i64 r.d6, .bool r.kp] := rfl
  rw [hv]
  have HBc := Lib.hid (below_on (below_on HB0.out hb) (below_new (Below.refl _ _) : Below wc.heap.size wc (wc.alloc (.cells #[.int .i64 r.ir, .int .i64 r.is, .int .i64 r.st, .int .i64 r.pn, .int .i64 r.pr, .int .i64 r.bn, .int .i64 r.br, .int .i64 r.c.k, .int .i64 r.c.tc, .int .i64 r.c.tn, .int .i64 r.c.tt, .int .i64 r.c.tk, .int .i64 r.c.sh, (.slice A1 r.c.rs.length k1), (.slice A2 r.c.ws.length k2), .bool r.c.cm, .int .i64 r.sq, .int .i64 r.d0, .int .i64 r.d1, .int .i64 r.d2, .int .i64 r.d3, .int .i64 r.d4, .int .i64 r.d5, .int .i64 r.d6, .bool r.kp] 67))))
  clear hy o1 o2 hb hv c0 c1
  go_wp2_with (first
    | (with_reducible refine Wi.wpList_store_fresh rfl 67 _ _ rfl wc.heap.size rfl 67 _ [.int .i64 r.ir, .int .i64 r.is, .int .i64 r.st, .int .i64 r.pn, .int .i64 r.pr, .int .i64 r.bn, .int .i64 r.br, .int .i64 r.c.k, .int .i64 r.c.tc, .int .i64 r.c.tn, .int .i64 r.c.tt, .int .i64 r.c.tk, .int .i64 r.c.sh, (.slice A1 r.c.rs.length k1), (.slice A2 r.c.ws.length k2), .bool r.c.cm, .int .i64 r.sq, .int .i64 r.d0, .int .i64 r.d1, .int .i64 r.d2, .int .i64 r.d3, .int .i64 r.d4, .int .i64 r.d5, .int .i64 r.d6, .bool r.kp] rfl rfl rfl (by kernel_rfl) rfl ?_)
    | (go_at_call 28; refine (sync_nil _).mono ?_; rintro e w2 ⟨rfl, rfl⟩))
  generalize wc.alloc (.cells #[.int .i64 r.ir, .int .i64 r.is, .int .i64 r.st, .int .i64 r.pn, .int .i64 r.pr, .int .i64 r.bn, .int .i64 r.br, .int .i64 r.c.k, .int .i64 r.c.tc, .int .i64 r.c.tn, .int .i64 r.c.tt, .int .i64 r.c.tk, .int .i64 r.c.sh, (.slice A1 r.c.rs.length k1), (.slice A2 r.c.ws.length k2), .bool r.c.cm, .int .i64 r.sq, .int .i64 r.d0, .int .i64 r.d1, .int .i64 r.d2, .int .i64 r.d3, .int .i64 r.d4, .int .i64 r.d5, .int .i64 r.d6, .bool r.kp] 67) = w3 at *
  go_wp2_with (fail)
  refine (append_nil (HT.out.below HBc.out)).mono ?_
  rintro e w4 ⟨rfl, hb⟩
  have HB4 := Lib.hid (below_on HBc.out hb)
  clear hb
  go_wp2_with (fail)
  refine (compact_nil (HT.out.below HB4.out)).mono ?_
  rintro e w5 ⟨rfl, hb⟩
  have HB5 := Lib.hid (below_on HB4.out hb)
  clear hb
  go_wp2_with (fail)
  refine (synced_nil _).mono ?_
  rintro e w6 ⟨rfl, rfl⟩
  go_wp2_with (fail)
  refine (all_nil _).mono ?_
  rintro e w6 ⟨rfl, hb⟩
  have HB6 := Lib.hid (below_on HB5.out hb)
  clear hb
  go_wp2_with (fail)
  refine (firm_nil _).mono ?_
  rintro e w7 ⟨rfl, hb⟩
  have HB7 := Lib.hid (below_on HB6.out hb)
  clear hb
  go_wp2_with (fail)
  refine (insts_nil _).mono ?_
  rintro e w8 ⟨A, c, rfl, hb⟩
  have HB8 := Lib.hid (below_on HB7.out hb)
  clear hb
  go_wp2_with (fail)
  refine (disk_none _).mono ?_
  rintro e w9 ⟨rfl, rfl⟩
  go_wp2_with (fail)
  refine (awake_any (HT.out.below HB8.out)).mono ?_
  rintro e wd ⟨rfl, hb⟩
  have HBd := Lib.hid (below_on HB8.out hb)
  clear hb
  go_wp2
  go_ret
  exact ⟨rfl, HBd.out⟩
end No
end Go.Proofs.YtdachohcjpjblaaGreatDoor
