/- The walk of CommandParts; no conditions. -/
import Derived.Test.YtacieiddhkkahaaDocPA
import Derived.Test.YtacieiddhkkahaaDocPC
import Derived.Test.YtacieiddhkkahaaLawsP
namespace Go.Proofs.Ytacieiddhkkahaa
open Go.ChangeShapes Go.WideShapes Go.ChangeAt Go.RowKit
attribute [local go_sem ↓] run_same_rd run_same_wr run_same_txn run_same_stamp

namespace M
/-- The Decide, and why there is none. -/
def decC (c : Cmd) (cm : Bool) : Cmd := if decB c = true then dec c cm else zero
def decE (c : Cmd) : Int := if decB c = true then 0 else 1
theorem dec_n {c : Cmd} (cm : Bool) (h : decB c = false) : decC c cm = zero ∧ decE c = 1 := by unfold decC decE; simp [h]
theorem dec_y {c : Cmd} (cm : Bool) (h : decB c = true) : decC c cm = dec c cm ∧ decE c = 0 := by unfold decC decE; simp [h]
theorem partC_mod {c : Cmd} (k n : Int) (h : Mod c) : Mod (partC c k n) := by
  unfold partC
  split
  · split
    · exact zero_mod
    · exact mod_cut k n h
  · exact zero_mod
theorem decC_mod {c : Cmd} (cm : Bool) (h : Mod c) : Mod (decC c cm) := by
  unfold decC
  split
  · exact ⟨h.r, h.w, h.rk, h.wk, h.wv⟩
  · exact zero_mod
end M

theorem part_res {w : World} (c : M.Cmd) (k n : Int) {va vb : Value} (h : Rds w va c.rs) (h' : Wrs w vb c.ws) (F : M.Mod c) : Calls Try.prog 10 #[.agg #[.int .i64 c.k, .int .i64 c.tc, .int .i64 c.tn, .int .i64 c.tt, .int .i64 c.tk, .int .i64 c.sh, va, vb, .bool c.cm], .int .i64 k, .int .i64 n] w (Res (M.partC c k n) (M.partE c k n) w) := by
  rcases two (M.pokB c n) with d | d
  · rcases two (M.voidB c k n) with v | v
    · obtain ⟨f1, f2⟩ := M.part_n d v
      rw [f1, f2]
      exact (part_none c k n h h' F.l F.l' d v).mono fun e w1 ⟨he, hb⟩ => ⟨_, _, he, Rds.nil _, Wrs.nil _, hb⟩
    · obtain ⟨f1, f2⟩ := M.part_s d v
      rw [f1, f2]
      exact (part_some c k n h h' F.l F.l' d v).mono fun e w1 ⟨u, v, he, r, s, hb⟩ => ⟨u, v, he, r, s, hb⟩
  · obtain ⟨f1, f2⟩ := M.part_b k d
    rw [f1, f2]
    exact (part_bad c k n h h' F.l F.l' d).mono fun e w1 ⟨he, hb⟩ => ⟨_, _, he, Rds.nil _, Wrs.nil _, hb⟩
theorem dpart_res {w : World} (c : M.Cmd) (k n : Int) {va vb : Value} (h : Rds w va c.rs) (h' : Wrs w vb c.ws) (F : M.Mod c) : Calls Try.prog 11 #[.agg #[.int .i64 c.k, .int .i64 c.tc, .int .i64 c.tn, .int .i64 c.tt, .int .i64 c.tk, .int .i64 c.sh, va, vb, .bool c.cm], .int .i64 k, .int .i64 n] w (Res (M.partC c k n) (M.partE c k n) w) := by
  rcases two (M.pokB c n) with d | d
  · exact dpart_ok c k n h h' F d
  · obtain ⟨f1, f2⟩ := M.part_b k d
    rw [f1, f2]
    exact (dpart_bad c k n h h' F d).mono fun e w1 ⟨he, hb⟩ => ⟨_, _, he, Rds.nil _, Wrs.nil _, hb⟩
theorem dec_res {w : World} (c : M.Cmd) (cm : Bool) {va vb : Value} (h : Rds w va c.rs) (h' : Wrs w vb c.ws) (F : M.Mod c) : Calls Try.prog 12 #[.agg #[.int .i64 c.k, .int .i64 c.tc, .int .i64 c.tn, .int .i64 c.tt, .int .i64 c.tk, .int .i64 c.sh, va, vb, .bool c.cm], .bool cm] w (Res (M.decC c cm) (M.decE c) w) := by
  rcases two (M.decB c) with d | d
  · obtain ⟨f1, f2⟩ := M.dec_y cm d
    rw [f1, f2]
    exact (decided_yes c cm h h' F.l F.l' d).mono fun e w1 ⟨u, v, he, r, s, hb⟩ => ⟨u, v, he, RowN.of_owns r, RowN.of_owns s, hb⟩
  · obtain ⟨f1, f2⟩ := M.dec_n cm d
    rw [f1, f2]
    exact (decided_no c cm h h' F.l F.l' d).mono fun e w1 ⟨he, hb⟩ => ⟨_, _, he, Rds.nil _, Wrs.nil _, hb⟩
theorem ddec_res {w : World} (c : M.Cmd) (cm : Bool) {va vb : Value} (h : Rds w va c.rs) (h' : Wrs w vb c.ws) (F : M.Mod c) : Calls Try.prog 13 #[.agg #[.int .i64 c.k, .int .i64 c.tc, .int .i64 c.tn, .int .i64 c.tt, .int .i64 c.tk, .int .i64 c.sh, va, vb, .bool c.cm], .bool cm] w (Res (M.decC c cm) (M.decE c) w) := by
  rcases two (M.decB c) with d | d
  · obtain ⟨f1, f2⟩ := M.dec_y cm d
    rw [f1, f2]
    exact (ddecided_yes c cm h h' F d).mono fun e w1 ⟨he, hb⟩ => ⟨va, vb, he, h.below hb, h'.below hb, hb⟩
  · obtain ⟨f1, f2⟩ := M.dec_n cm d
    rw [f1, f2]
    exact (ddecided_no c cm h h' F d).mono fun e w1 ⟨he, hb⟩ => ⟨_, _, he, Rds.nil _, Wrs.nil _, hb⟩

set_option maxHeartbeats 8000000 in
set_option maxRecDepth 100000 in
theorem parts_law (c : M.Cmd) (k n : Int) (cm : Bool) {va vb : Value} (w : World) (h : Rds w va c.rs) (h' : Wrs w vb c.ws) : Calls Try.prog 3 #[.agg #[.int .i64 c.k, .int .i64 c.tc, .int .i64 c.tn, .int .i64 c.tt, .int .i64 c.tk, .int .i64 c.sh, va, vb, .bool c.cm], .int .i64 k, .int .i64 n, .bool cm] w (Yes w) := by
  have X0 := Lib.hid ((Box.new w c va vb).push (.cells #[.int .i64 c.k, .int .i64 c.tc, .int .i64 c.tn, .int .i64 c.tt, .int .i64 c.tk, .int .i64 c.sh, va, vb, .bool c.cm] 29))
  have R0 := Lib.hid (h.push (.cells #[.int .i64 c.k, .int .i64 c.tc, .int .i64 c.tn, .int .i64 c.tt, .int .i64 c.tk, .int .i64 c.sh, va, vb, .bool c.cm] 29))
  have W0 := Lib.hid (h'.push (.cells #[.int .i64 c.k, .int .i64 c.tc, .int .i64 c.tn, .int .i64 c.tt, .int .i64 c.tk, .int .i64 c.sh, va, vb, .bool c.cm] 29))
  have B0 := Lib.hid (below_new (o := .cells #[.int .i64 c.k, .int .i64 c.tc, .int .i64 c.tn, .int .i64 c.tt, .int .i64 c.tk, .int .i64 c.sh, va, vb, .bool c.cm] 29) (below_new (o := .cells #[.int .i64 c.k, .int .i64 c.tc, .int .i64 c.tn, .int .i64 c.tt, .int .i64 c.tk, .int .i64 c.sh, va, vb, .bool c.cm] 29) (Below.refl w.heap.size w)))
  clear h h'
  rcases two (M.modB c) with f | f
  · have F := M.modB_iff.1 f
    have FP := M.partC_mod k n F
    have FD := M.decC_mod cm F
    go_enter Try.func3, Try.ntmps3
    go_wp2_with (fail)
    refine (few_one (by simp) c R0.out W0.out).mono ?_
    rintro e w1 ⟨rfl, hb⟩
    have X1 := Lib.hid (X0.out.on hb)
    have R1 := Lib.hid ((R0.out.push _).below hb)
    have W1 := Lib.hid ((W0.out.push _).below hb)
    have B1 := Lib.hid (below_on B0.out hb)
    clear hb X0 R0 W0 B0
    obtain ⟨l0, p0, p1, p2, p3, p4, p5, p6, p7, p8⟩ := X1.out
    have HP := Lib.hid (fun (w : World) (va vb : Value) (h : Rds w va c.rs) (h' : Wrs w vb c.ws) => part_res c k n h h' F)
    have HQ := Lib.hid (fun (w : World) (va vb : Value) (h : Rds w va c.rs) (h' : Wrs w vb c.ws) => dpart_res c k n h h' F)
    have HD := Lib.hid (fun (w : World) (va vb : Value) (h : Rds w va c.rs) (h' : Wrs w vb c.ws) => dec_res c cm h h' F)
    have HX := Lib.hid (fun (w : World) (va vb : Value) (h : Rds w va c.rs) (h' : Wrs w vb c.ws) => ddec_res c cm h h' F)
    generalize M.partC c k n = P at *
    generalize M.partE c k n = E at *
    generalize M.decC c cm = D at *
    generalize M.decE c = G at *
    have sP := M.same_self P
    have sD := M.same_self D
    have sE : (E == E) = true := by simp
    have sG : (G == G) = true := by simp
    go_wp2_with (fail)
    refine (HP.out _ _ _ R1.out W1.out).mono ?_
    rintro e v2 ⟨vx, vy, rfl, rx, sx, hb⟩
    obtain ⟨A1, j1, rfl, -, -⟩ := rx.opened
    obtain ⟨D1, g1, rfl, -, -⟩ := sx.opened
    have X2 := Lib.hid ((X1.out.on hb).push (.cells #[.int .i64 P.k, .int .i64 P.tc, .int .i64 P.tn, .int .i64 P.tt, .int .i64 P.tk, .int .i64 P.sh, .slice A1 P.rs.length j1, .slice D1 P.ws.length g1, .bool P.cm] 29))
    have R2 := Lib.hid ((R1.out.below hb).push (.cells #[.int .i64 P.k, .int .i64 P.tc, .int .i64 P.tn, .int .i64 P.tt, .int .i64 P.tk, .int .i64 P.sh, .slice A1 P.rs.length j1, .slice D1 P.ws.length g1, .bool P.cm] 29))
    have W2 := Lib.hid ((W1.out.below hb).push (.cells #[.int .i64 P.k, .int .i64 P.tc, .int .i64 P.tn, .int .i64 P.tt, .int .i64 P.tk, .int .i64 P.sh, .slice A1 P.rs.length j1, .slice D1 P.ws.length g1, .bool P.cm] 29))
    have B2 := Lib.hid (below_new (o := .cells #[.int .i64 P.k, .int .i64 P.tc, .int .i64 P.tn, .int .i64 P.tt, .int .i64 P.tk, .int .i64 P.sh, .slice A1 P.rs.length j1, .slice D1 P.ws.length g1, .bool P.cm] 29) (below_on B1.out hb))
    have b1X2 := Lib.hid (Box.new v2 P (.slice A1 P.rs.length j1) (.slice D1 P.ws.length g1))
    have b1R2 := Lib.hid (rx.push (.cells #[.int .i64 P.k, .int .i64 P.tc, .int .i64 P.tn, .int .i64 P.tt, .int .i64 P.tk, .int .i64 P.sh, .slice A1 P.rs.length j1, .slice D1 P.ws.length g1, .bool P.cm] 29))
    have b1W2 := Lib.hid (sx.push (.cells #[.int .i64 P.k, .int .i64 P.tc, .int .i64 P.tn, .int .i64 P.tt, .int .i64 P.tk, .int .i64 P.sh, .slice A1 P.rs.length j1, .slice D1 P.ws.length g1, .bool P.cm] 29))
    clear hb rx sx X1 R1 W1 B1
    clear l0 p0 p1 p2 p3 p4 p5 p6 p7 p8
    obtain ⟨l0, p0, p1, p2, p3, p4, p5, p6, p7, p8⟩ := X2.out
    go_wp2_with (fail)
    generalize (v2.alloc (.cells #[.int .i64 P.k, .int .i64 P.tc, .int .i64 P.tn, .int .i64 P.tt, .int .i64 P.tk, .int .i64 P.sh, .slice A1 P.rs.length j1, .slice D1 P.ws.length g1, .bool P.cm] 29)) = w2 at *
    refine (HQ.out _ _ _ R2.out W2.out).mono ?_
    rintro e v3 ⟨vx, vy, rfl, rx, sx, hb⟩
    obtain ⟨A2, j2, rfl, -, -⟩ := rx.opened
    obtain ⟨D2, g2, rfl, -, -⟩ := sx.opened
    have X3 := Lib.hid ((X2.out.on hb).push (.cells #[.int .i64 P.k, .int .i64 P.tc, .int .i64 P.tn, .int .i64 P.tt, .int .i64 P.tk, .int .i64 P.sh, .slice A2 P.rs.length j2, .slice D2 P.ws.length g2, .bool P.cm] 29))
    have R3 := Lib.hid ((R2.out.below hb).push (.cells #[.int .i64 P.k, .int .i64 P.tc, .int .i64 P.tn, .int .i64 P.tt, .int .i64 P.tk, .int .i64 P.sh, .slice A2 P.rs.length j2, .slice D2 P.ws.length g2, .bool P.cm] 29))
    have W3 := Lib.hid ((W2.out.below hb).push (.cells #[.int .i64 P.k, .int .i64 P.tc, .int .i64 P.tn, .int .i64 P.tt, .int .i64 P.tk, .int .i64 P.sh, .slice A2 P.rs.length j2, .slice D2 P.ws.length g2, .bool P.cm] 29))
    have B3 := Lib.hid (below_new (o := .cells #[.int .i64 P.k, .int .i64 P.tc, .int .i64 P.tn, .int .i64 P.tt, .int .i64 P.tk, .int .i64 P.sh, .slice A2 P.rs.length j2, .slice D2 P.ws.length g2, .bool P.cm] 29) (below_on B2.out hb))
    have b1X3 := Lib.hid ((b1X2.out.on hb).push (.cells #[.int .i64 P.k, .int .i64 P.tc, .int .i64 P.tn, .int .i64 P.tt, .int .i64 P.tk, .int .i64 P.sh, .slice A2 P.rs.length j2, .slice D2 P.ws.length g2, .bool P.cm] 29))
    have b1R3 := Lib.hid ((b1R2.out.below hb).push (.cells #[.int .i64 P.k, .int .i64 P.tc, .int .i64 P.tn, .int .i64 P.tt, .int .i64 P.tk, .int .i64 P.sh, .slice A2 P.rs.length j2, .slice D2 P.ws.length g2, .bool P.cm] 29))
    have b1W3 := Lib.hid ((b1W2.out.below hb).push (.cells #[.int .i64 P.k, .int .i64 P.tc, .int .i64 P.tn, .int .i64 P.tt, .int .i64 P.tk, .int .i64 P.sh, .slice A2 P.rs.length j2, .slice D2 P.ws.length g2, .bool P.cm] 29))
    have b2X3 := Lib.hid (Box.new v3 P (.slice A2 P.rs.length j2) (.slice D2 P.ws.length g2))
    have b2R3 := Lib.hid (rx.push (.cells #[.int .i64 P.k, .int .i64 P.tc, .int .i64 P.tn, .int .i64 P.tt, .int .i64 P.tk, .int .i64 P.sh, .slice A2 P.rs.length j2, .slice D2 P.ws.length g2, .bool P.cm] 29))
    have b2W3 := Lib.hid (sx.push (.cells #[.int .i64 P.k, .int .i64 P.tc, .int .i64 P.tn, .int .i64 P.tt, .int .i64 P.tk, .int .i64 P.sh, .slice A2 P.rs.length j2, .slice D2 P.ws.length g2, .bool P.cm] 29))
    clear hb rx sx X2 R2 W2 B2 b1X2 b1R2 b1W2
    clear l0 p0 p1 p2 p3 p4 p5 p6 p7 p8
    obtain ⟨l0, p0, p1, p2, p3, p4, p5, p6, p7, p8⟩ := X3.out
    go_wp2_with (fail)
    generalize (v3.alloc (.cells #[.int .i64 P.k, .int .i64 P.tc, .int .i64 P.tn, .int .i64 P.tt, .int .i64 P.tk, .int .i64 P.sh, .slice A2 P.rs.length j2, .slice D2 P.ws.length g2, .bool P.cm] 29)) = w3 at *
    refine (HD.out _ _ _ R3.out W3.out).mono ?_
    rintro e v4 ⟨vx, vy, rfl, rx, sx, hb⟩
    obtain ⟨A3, j3, rfl, -, -⟩ := rx.opened
    obtain ⟨D3, g3, rfl, -, -⟩ := sx.opened
    have X4 := Lib.hid ((X3.out.on hb).push (.cells #[.int .i64 D.k, .int .i64 D.tc, .int .i64 D.tn, .int .i64 D.tt, .int .i64 D.tk, .int .i64 D.sh, .slice A3 D.rs.length j3, .slice D3 D.ws.length g3, .bool D.cm] 29))
    have R4 := Lib.hid ((R3.out.below hb).push (.cells #[.int .i64 D.k, .int .i64 D.tc, .int .i64 D.tn, .int .i64 D.tt, .int .i64 D.tk, .int .i64 D.sh, .slice A3 D.rs.length j3, .slice D3 D.ws.length g3, .bool D.cm] 29))
    have W4 := Lib.hid ((W3.out.below hb).push (.cells #[.int .i64 D.k, .int .i64 D.tc, .int .i64 D.tn, .int .i64 D.tt, .int .i64 D.tk, .int .i64 D.sh, .slice A3 D.rs.length j3, .slice D3 D.ws.length g3, .bool D.cm] 29))
    have B4 := Lib.hid (below_new (o := .cells #[.int .i64 D.k, .int .i64 D.tc, .int .i64 D.tn, .int .i64 D.tt, .int .i64 D.tk, .int .i64 D.sh, .slice A3 D.rs.length j3, .slice D3 D.ws.length g3, .bool D.cm] 29) (below_on B3.out hb))
    have b1X4 := Lib.hid ((b1X3.out.on hb).push (.cells #[.int .i64 D.k, .int .i64 D.tc, .int .i64 D.tn, .int .i64 D.tt, .int .i64 D.tk, .int .i64 D.sh, .slice A3 D.rs.length j3, .slice D3 D.ws.length g3, .bool D.cm] 29))
    have b1R4 := Lib.hid ((b1R3.out.below hb).push (.cells #[.int .i64 D.k, .int .i64 D.tc, .int .i64 D.tn, .int .i64 D.tt, .int .i64 D.tk, .int .i64 D.sh, .slice A3 D.rs.length j3, .slice D3 D.ws.length g3, .bool D.cm] 29))
    have b1W4 := Lib.hid ((b1W3.out.below hb).push (.cells #[.int .i64 D.k, .int .i64 D.tc, .int .i64 D.tn, .int .i64 D.tt, .int .i64 D.tk, .int .i64 D.sh, .slice A3 D.rs.length j3, .slice D3 D.ws.length g3, .bool D.cm] 29))
    have b2X4 := Lib.hid ((b2X3.out.on hb).push (.cells #[.int .i64 D.k, .int .i64 D.tc, .int .i64 D.tn, .int .i64 D.tt, .int .i64 D.tk, .int .i64 D.sh, .slice A3 D.rs.length j3, .slice D3 D.ws.length g3, .bool D.cm] 29))
    have b2R4 := Lib.hid ((b2R3.out.below hb).push (.cells #[.int .i64 D.k, .int .i64 D.tc, .int .i64 D.tn, .int .i64 D.tt, .int .i64 D.tk, .int .i64 D.sh, .slice A3 D.rs.length j3, .slice D3 D.ws.length g3, .bool D.cm] 29))
    have b2W4 := Lib.hid ((b2W3.out.below hb).push (.cells #[.int .i64 D.k, .int .i64 D.tc, .int .i64 D.tn, .int .i64 D.tt, .int .i64 D.tk, .int .i64 D.sh, .slice A3 D.rs.length j3, .slice D3 D.ws.length g3, .bool D.cm] 29))
    have b3X4 := Lib.hid (Box.new v4 D (.slice A3 D.rs.length j3) (.slice D3 D.ws.length g3))
    have b3R4 := Lib.hid (rx.push (.cells #[.int .i64 D.k, .int .i64 D.tc, .int .i64 D.tn, .int .i64 D.tt, .int .i64 D.tk, .int .i64 D.sh, .slice A3 D.rs.length j3, .slice D3 D.ws.length g3, .bool D.cm] 29))
    have b3W4 := Lib.hid (sx.push (.cells #[.int .i64 D.k, .int .i64 D.tc, .int .i64 D.tn, .int .i64 D.tt, .int .i64 D.tk, .int .i64 D.sh, .slice A3 D.rs.length j3, .slice D3 D.ws.length g3, .bool D.cm] 29))
    clear hb rx sx X3 R3 W3 B3 b1X3 b1R3 b1W3 b2X3 b2R3 b2W3
    clear l0 p0 p1 p2 p3 p4 p5 p6 p7 p8
    obtain ⟨l0, p0, p1, p2, p3, p4, p5, p6, p7, p8⟩ := X4.out
    go_wp2_with (fail)
    generalize (v4.alloc (.cells #[.int .i64 D.k, .int .i64 D.tc, .int .i64 D.tn, .int .i64 D.tt, .int .i64 D.tk, .int .i64 D.sh, .slice A3 D.rs.length j3, .slice D3 D.ws.length g3, .bool D.cm] 29)) = w4 at *
    refine (HX.out _ _ _ R4.out W4.out).mono ?_
    rintro e v5 ⟨vx, vy, rfl, rx, sx, hb⟩
    obtain ⟨A4, j4, rfl, -, -⟩ := rx.opened
    obtain ⟨D4, g4, rfl, -, -⟩ := sx.opened
    have X5 := Lib.hid ((X4.out.on hb).push (.cells #[.int .i64 D.k, .int .i64 D.tc, .int .i64 D.tn, .int .i64 D.tt, .int .i64 D.tk, .int .i64 D.sh, .slice A4 D.rs.length j4, .slice D4 D.ws.length g4, .bool D.cm] 29))
    have R5 := Lib.hid ((R4.out.below hb).push (.cells #[.int .i64 D.k, .int .i64 D.tc, .int .i64 D.tn, .int .i64 D.tt, .int .i64 D.tk, .int .i64 D.sh, .slice A4 D.rs.length j4, .slice D4 D.ws.length g4, .bool D.cm] 29))
    have W5 := Lib.hid ((W4.out.below hb).push (.cells #[.int .i64 D.k, .int .i64 D.tc, .int .i64 D.tn, .int .i64 D.tt, .int .i64 D.tk, .int .i64 D.sh, .slice A4 D.rs.length j4, .slice D4 D.ws.length g4, .bool D.cm] 29))
    have B5 := Lib.hid (below_new (o := .cells #[.int .i64 D.k, .int .i64 D.tc, .int .i64 D.tn, .int .i64 D.tt, .int .i64 D.tk, .int .i64 D.sh, .slice A4 D.rs.length j4, .slice D4 D.ws.length g4, .bool D.cm] 29) (below_on B4.out hb))
    have b1X5 := Lib.hid ((b1X4.out.on hb).push (.cells #[.int .i64 D.k, .int .i64 D.tc, .int .i64 D.tn, .int .i64 D.tt, .int .i64 D.tk, .int .i64 D.sh, .slice A4 D.rs.length j4, .slice D4 D.ws.length g4, .bool D.cm] 29))
    have b1R5 := Lib.hid ((b1R4.out.below hb).push (.cells #[.int .i64 D.k, .int .i64 D.tc, .int .i64 D.tn, .int .i64 D.tt, .int .i64 D.tk, .int .i64 D.sh, .slice A4 D.rs.length j4, .slice D4 D.ws.length g4, .bool D.cm] 29))
    have b1W5 := Lib.hid ((b1W4.out.below hb).push (.cells #[.int .i64 D.k, .int .i64 D.tc, .int .i64 D.tn, .int .i64 D.tt, .int .i64 D.tk, .int .i64 D.sh, .slice A4 D.rs.length j4, .slice D4 D.ws.length g4, .bool D.cm] 29))
    have b2X5 := Lib.hid ((b2X4.out.on hb).push (.cells #[.int .i64 D.k, .int .i64 D.tc, .int .i64 D.tn, .int .i64 D.tt, .int .i64 D.tk, .int .i64 D.sh, .slice A4 D.rs.length j4, .slice D4 D.ws.length g4, .bool D.cm] 29))
    have b2R5 := Lib.hid ((b2R4.out.below hb).push (.cells #[.int .i64 D.k, .int .i64 D.tc, .int .i64 D.tn, .int .i64 D.tt, .int .i64 D.tk, .int .i64 D.sh, .slice A4 D.rs.length j4, .slice D4 D.ws.length g4, .bool D.cm] 29))
    have b2W5 := Lib.hid ((b2W4.out.below hb).push (.cells #[.int .i64 D.k, .int .i64 D.tc, .int .i64 D.tn, .int .i64 D.tt, .int .i64 D.tk, .int .i64 D.sh, .slice A4 D.rs.length j4, .slice D4 D.ws.length g4, .bool D.cm] 29))
    have b3X5 := Lib.hid ((b3X4.out.on hb).push (.cells #[.int .i64 D.k, .int .i64 D.tc, .int .i64 D.tn, .int .i64 D.tt, .int .i64 D.tk, .int .i64 D.sh, .slice A4 D.rs.length j4, .slice D4 D.ws.length g4, .bool D.cm] 29))
    have b3R5 := Lib.hid ((b3R4.out.below hb).push (.cells #[.int .i64 D.k, .int .i64 D.tc, .int .i64 D.tn, .int .i64 D.tt, .int .i64 D.tk, .int .i64 D.sh, .slice A4 D.rs.length j4, .slice D4 D.ws.length g4, .bool D.cm] 29))
    have b3W5 := Lib.hid ((b3W4.out.below hb).push (.cells #[.int .i64 D.k, .int .i64 D.tc, .int .i64 D.tn, .int .i64 D.tt, .int .i64 D.tk, .int .i64 D.sh, .slice A4 D.rs.length j4, .slice D4 D.ws.length g4, .bool D.cm] 29))
    have b4X5 := Lib.hid (Box.new v5 D (.slice A4 D.rs.length j4) (.slice D4 D.ws.length g4))
    have b4R5 := Lib.hid (rx.push (.cells #[.int .i64 D.k, .int .i64 D.tc, .int .i64 D.tn, .int .i64 D.tt, .int .i64 D.tk, .int .i64 D.sh, .slice A4 D.rs.length j4, .slice D4 D.ws.length g4, .bool D.cm] 29))
    have b4W5 := Lib.hid (sx.push (.cells #[.int .i64 D.k, .int .i64 D.tc, .int .i64 D.tn, .int .i64 D.tt, .int .i64 D.tk, .int .i64 D.sh, .slice A4 D.rs.length j4, .slice D4 D.ws.length g4, .bool D.cm] 29))
    clear hb rx sx X4 R4 W4 B4 b1X4 b1R4 b1W4 b2X4 b2R4 b2W4 b3X4 b3R4 b3W4
    clear l0 p0 p1 p2 p3 p4 p5 p6 p7 p8
    obtain ⟨xl, x0, x1, x2, x3, x4, x5, x6, x7, x8⟩ := b1X5.out
    obtain ⟨yl, y0, y1, y2, y3, y4, y5, y6, y7, y8⟩ := b2X5.out
    go_wp2_with (fail)
    generalize (v5.alloc (.cells #[.int .i64 D.k, .int .i64 D.tc, .int .i64 D.tn, .int .i64 D.tt, .int .i64 D.tk, .int .i64 D.sh, .slice A4 D.rs.length j4, .slice D4 D.ws.length g4, .bool D.cm] 29)) = w5 at *
    refine (dsame_cmd P P b1R5.out b1W5.out b2R5.out b2W5.out FP.l FP.l').mono ?_
    rintro e w6 ⟨rfl, hb⟩
    have B6 := Lib.hid (below_on B5.out hb)
    have b3X6 := Lib.hid (b3X5.out.on hb)
    have b3R6 := Lib.hid (b3R5.out.below hb)
    have b3W6 := Lib.hid (b3W5.out.below hb)
    have b4X6 := Lib.hid (b4X5.out.on hb)
    have b4R6 := Lib.hid (b4R5.out.below hb)
    have b4W6 := Lib.hid (b4W5.out.below hb)
    clear hb xl yl x0 y0 x1 y1 x2 y2 x3 y3 x4 y4 x5 y5 x6 y6 x7 y7 x8 y8
    obtain ⟨xl, x0, x1, x2, x3, x4, x5, x6, x7, x8⟩ := b3X6.out
    obtain ⟨yl, y0, y1, y2, y3, y4, y5, y6, y7, y8⟩ := b4X6.out
    go_wp2_with (fail)
    refine (dsame_cmd D D b3R6.out b3W6.out b4R6.out b4W6.out FD.l FD.l').mono ?_
    rintro e w7 ⟨rfl, hb⟩
    have B7 := Lib.hid (below_on B6.out hb)
    clear hb
    go_wp2_with (fail)
    refine (awake_any _).mono ?_
    rintro e w8 ⟨rfl, hb⟩
    have B8 := Lib.hid (below_on B7.out hb)
    clear hb
    go_wp2
    go_ret
    exact ⟨rfl, B8.out⟩
  · go_enter Try.func3, Try.ntmps3
    go_wp2_with (fail)
    refine (few_one (by simp) c R0.out W0.out).mono ?_
    rintro e w1 ⟨rfl, hb⟩
    have X1 := Lib.hid (X0.out.on hb)
    have R1 := Lib.hid ((R0.out.push _).below hb)
    have W1 := Lib.hid ((W0.out.push _).below hb)
    have B1 := Lib.hid (below_on B0.out hb)
    clear hb X0 R0 W0 B0
    obtain ⟨l0, p0, p1, p2, p3, p4, p5, p6, p7, p8⟩ := X1.out
    go_wp2_with (fail)
    refine (awake_any _).mono ?_
    rintro e w2 ⟨rfl, hb⟩
    have B2 := Lib.hid (below_on B1.out hb)
    clear hb
    go_wp2
    go_ret
    exact ⟨rfl, B2.out⟩
end Go.Proofs.Ytacieiddhkkahaa
