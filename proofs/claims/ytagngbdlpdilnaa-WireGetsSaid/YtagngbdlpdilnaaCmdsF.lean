/- Contracts of Same and Right; no conditions but the lengths that they name. -/
import Derived.Test.YtagngbdlpdilnaaCmdsE
namespace Go.Proofs.Ytagngbdlpdilnaa
open Go.ChangeShapes Go.WideShapes Go.ChangeAt Go.RowKit
attribute [local go_sem ↓] run_same_rd run_same_wr run_same_txn run_same_stamp

namespace M
def zero : Cmd := ⟨0, 0, 0, 0, 0, 0, [], [], false⟩
def rightC (c : Cmd) : Bool := if c.k = 0 then sameC c zero else if c.k = 1 then transB c && !c.cm else if c.k = 2 then transB c else false
end M

set_option maxHeartbeats 4000000 in
set_option maxRecDepth 100000 in
theorem same_cmd {w : World} (a b : M.Cmd) {va vb ua ub : Value} (h : Rds w va a.rs) (h' : Wrs w vb a.ws) (g : Rds w ua b.rs) (g' : Wrs w ub b.ws) (hl : a.rs.length ≤ 1000) (hl' : a.ws.length ≤ 1000) : Calls Try.prog 43 #[.agg #[.int .i64 a.k, .int .i64 a.tc, .int .i64 a.tn, .int .i64 a.tt, .int .i64 a.tk, .int .i64 a.sh, va, vb, .bool a.cm], .agg #[.int .i64 b.k, .int .i64 b.tc, .int .i64 b.tn, .int .i64 b.tt, .int .i64 b.tk, .int .i64 b.sh, ua, ub, .bool b.cm]] w fun e w' => e = .returned (.bool (M.sameC a b)) ∧ Below w.heap.size w w' := by
  have X0 := Lib.hid ((Box.new w a va vb).push (.cells #[.int .i64 b.k, .int .i64 b.tc, .int .i64 b.tn, .int .i64 b.tt, .int .i64 b.tk, .int .i64 b.sh, ua, ub, .bool b.cm] 33))
  have Y0 := Lib.hid (Box.new1 w (.cells #[.int .i64 a.k, .int .i64 a.tc, .int .i64 a.tn, .int .i64 a.tt, .int .i64 a.tk, .int .i64 a.sh, va, vb, .bool a.cm] 33) b ua ub)
  have R0 := Lib.hid ((h.push (.cells #[.int .i64 a.k, .int .i64 a.tc, .int .i64 a.tn, .int .i64 a.tt, .int .i64 a.tk, .int .i64 a.sh, va, vb, .bool a.cm] 33)).push (.cells #[.int .i64 b.k, .int .i64 b.tc, .int .i64 b.tn, .int .i64 b.tt, .int .i64 b.tk, .int .i64 b.sh, ua, ub, .bool b.cm] 33))
  have W0 := Lib.hid ((h'.push (.cells #[.int .i64 a.k, .int .i64 a.tc, .int .i64 a.tn, .int .i64 a.tt, .int .i64 a.tk, .int .i64 a.sh, va, vb, .bool a.cm] 33)).push (.cells #[.int .i64 b.k, .int .i64 b.tc, .int .i64 b.tn, .int .i64 b.tt, .int .i64 b.tk, .int .i64 b.sh, ua, ub, .bool b.cm] 33))
  have S0 := Lib.hid ((g.push (.cells #[.int .i64 a.k, .int .i64 a.tc, .int .i64 a.tn, .int .i64 a.tt, .int .i64 a.tk, .int .i64 a.sh, va, vb, .bool a.cm] 33)).push (.cells #[.int .i64 b.k, .int .i64 b.tc, .int .i64 b.tn, .int .i64 b.tt, .int .i64 b.tk, .int .i64 b.sh, ua, ub, .bool b.cm] 33))
  have V0 := Lib.hid ((g'.push (.cells #[.int .i64 a.k, .int .i64 a.tc, .int .i64 a.tn, .int .i64 a.tt, .int .i64 a.tk, .int .i64 a.sh, va, vb, .bool a.cm] 33)).push (.cells #[.int .i64 b.k, .int .i64 b.tc, .int .i64 b.tn, .int .i64 b.tt, .int .i64 b.tk, .int .i64 b.sh, ua, ub, .bool b.cm] 33))
  have B0 := Lib.hid (below_new (o := .cells #[.int .i64 b.k, .int .i64 b.tc, .int .i64 b.tn, .int .i64 b.tt, .int .i64 b.tk, .int .i64 b.sh, ua, ub, .bool b.cm] 33) (below_new (o := .cells #[.int .i64 a.k, .int .i64 a.tc, .int .i64 a.tn, .int .i64 a.tt, .int .i64 a.tk, .int .i64 a.sh, va, vb, .bool a.cm] 33) (Below.refl w.heap.size w)))
  clear h h' g g'
  by_cases e0 : a.k = b.k
  · obtain ⟨q0a, q0b⟩ := eqI e0
    rcases two (M.eq2 a.tc a.tn b.tc b.tn) with e1 | e1
    · rcases two (M.eq2 a.tt a.tk b.tt b.tk) with e2 | e2
      · by_cases e3 : a.sh = b.sh
        · obtain ⟨q3a, q3b⟩ := eqI e3
          rcases two (a.cm == b.cm) with e4 | e4
          · rcases two (M.sameR a.rs b.rs) with e5 | e5
            · have HE := Lib.hid (show M.sameC a b = M.sameW a.ws b.ws by unfold M.sameC; rw [decide_eq_true e0, e1, e2, decide_eq_true e3, e4, e5]; rfl)
              clear e0 e3
              go_enter Try.func43, Try.ntmps43
              go_wp2_with (fail)
              refine (equalR_any R0.out S0.out hl).mono ?_
              rintro e w1 ⟨rfl, hb⟩
              have B1 := Lib.hid (below_on B0.out hb)
              have X1 := Lib.hid (X0.out.on hb)
              have Y1 := Lib.hid (Y0.out.on hb)
              have W1 := Lib.hid (W0.out.below hb)
              have V1 := Lib.hid (V0.out.below hb)
              clear hb B0 X0 Y0 R0 S0 W0 V0
              obtain ⟨l1, p0, p1, p2, p3, p4, p5, p6, p7, p8⟩ := X1.out
              obtain ⟨l2, r0, r1, r2, r3, r4, r5, r6, r7, r8⟩ := Y1.out
              go_wp2_with (fail)
              refine (equalW_any W1.out V1.out hl').mono ?_
              rintro e w2 ⟨rfl, hb⟩
              have B2 := Lib.hid (below_on B1.out hb)
              clear hb
              go_wp2
              go_ret
              exact ⟨ret_bool HE.out.symm, B2.out⟩
            · have HE := Lib.hid (show M.sameC a b = false by unfold M.sameC; rw [decide_eq_true e0, e1, e2, decide_eq_true e3, e4, e5]; rfl)
              clear e0 e3
              go_enter Try.func43, Try.ntmps43
              go_wp2_with (fail)
              refine (equalR_any R0.out S0.out hl).mono ?_
              rintro e w1 ⟨rfl, hb⟩
              have B1 := Lib.hid (below_on B0.out hb)
              have X1 := Lib.hid (X0.out.on hb)
              have Y1 := Lib.hid (Y0.out.on hb)
              have W1 := Lib.hid (W0.out.below hb)
              have V1 := Lib.hid (V0.out.below hb)
              clear hb B0 X0 Y0 R0 S0 W0 V0
              obtain ⟨l1, p0, p1, p2, p3, p4, p5, p6, p7, p8⟩ := X1.out
              obtain ⟨l2, r0, r1, r2, r3, r4, r5, r6, r7, r8⟩ := Y1.out
              go_wp2
              go_ret
              exact ⟨ret_bool HE.out.symm, B1.out⟩
          · have HE := Lib.hid (show M.sameC a b = false by unfold M.sameC; rw [decide_eq_true e0, e1, e2, decide_eq_true e3, e4]; rfl)
            clear e0 e3
            go_enter Try.func43, Try.ntmps43
            go_wp2
            go_ret
            exact ⟨ret_bool HE.out.symm, B0.out⟩
        · obtain ⟨q3a, q3b⟩ := neI e3
          have HE := Lib.hid (show M.sameC a b = false by unfold M.sameC; rw [decide_eq_true e0, e1, e2, decide_eq_false e3]; rfl)
          clear e0 e3
          go_enter Try.func43, Try.ntmps43
          go_wp2
          go_ret
          exact ⟨ret_bool HE.out.symm, B0.out⟩
      · have HE := Lib.hid (show M.sameC a b = false by unfold M.sameC; rw [decide_eq_true e0, e1, e2]; rfl)
        clear e0
        go_enter Try.func43, Try.ntmps43
        go_wp2
        go_ret
        exact ⟨ret_bool HE.out.symm, B0.out⟩
    · have HE := Lib.hid (show M.sameC a b = false by unfold M.sameC; rw [decide_eq_true e0, e1]; rfl)
      clear e0
      go_enter Try.func43, Try.ntmps43
      go_wp2
      go_ret
      exact ⟨ret_bool HE.out.symm, B0.out⟩
  · obtain ⟨q0a, q0b⟩ := neI e0
    have HE := Lib.hid (show M.sameC a b = false by unfold M.sameC; rw [decide_eq_false e0]; rfl)
    clear e0
    go_enter Try.func43, Try.ntmps43
    go_wp2
    go_ret
    exact ⟨ret_bool HE.out.symm, B0.out⟩

set_option maxHeartbeats 4000000 in
set_option maxRecDepth 100000 in
theorem right_cmd {w : World} (c : M.Cmd) {va vb : Value} (h : Rds w va c.rs) (h' : Wrs w vb c.ws) (hl : c.rs.length ≤ 1000) (hl' : c.ws.length ≤ 1000) : Calls Try.prog 34 #[.agg #[.int .i64 c.k, .int .i64 c.tc, .int .i64 c.tn, .int .i64 c.tt, .int .i64 c.tk, .int .i64 c.sh, va, vb, .bool c.cm]] w fun e w' => e = .returned (.bool (M.rightC c)) ∧ Below w.heap.size w w' := by
  have X0 := Lib.hid (Box.new w c va vb)
  have R0 := Lib.hid (h.push (.cells #[.int .i64 c.k, .int .i64 c.tc, .int .i64 c.tn, .int .i64 c.tt, .int .i64 c.tk, .int .i64 c.sh, va, vb, .bool c.cm] 33))
  have W0 := Lib.hid (h'.push (.cells #[.int .i64 c.k, .int .i64 c.tc, .int .i64 c.tn, .int .i64 c.tt, .int .i64 c.tk, .int .i64 c.sh, va, vb, .bool c.cm] 33))
  have B0 := Lib.hid (below_new (o := .cells #[.int .i64 c.k, .int .i64 c.tc, .int .i64 c.tn, .int .i64 c.tt, .int .i64 c.tk, .int .i64 c.sh, va, vb, .bool c.cm] 33) (Below.refl w.heap.size w))
  clear h h'
  by_cases e0 : c.k = 0
  · have HE := Lib.hid (show M.rightC c = M.sameC c M.zero by unfold M.rightC; rw [if_pos e0])
    obtain ⟨q1, q2⟩ := eqI e0
    clear e0
    go_enter Try.func34, Try.ntmps34
    go_wp2_with (fail)
    refine (same_cmd c M.zero R0.out W0.out (Rds.nil _) (Wrs.nil _) hl hl').mono ?_
    rintro e w1 ⟨rfl, hb⟩
    have B1 := Lib.hid (below_on B0.out hb)
    clear hb
    go_wp2
    go_ret
    exact ⟨ret_bool HE.out.symm, B1.out⟩
  · by_cases e1 : c.k = 1
    · have HE := Lib.hid (show M.rightC c = (M.transB c && !c.cm) by unfold M.rightC; rw [if_neg e0, if_pos e1])
      obtain ⟨q1, q2⟩ := neI e0
      obtain ⟨q3, q4⟩ := eqI e1
      clear e0 e1
      rcases two (M.transB c) with e | e
      · go_enter Try.func34, Try.ntmps34
        go_wp2_with (fail)
        refine (isTransaction_any c R0.out W0.out hl hl').mono ?_
        rintro e w1 ⟨rfl, hb⟩
        have B1 := Lib.hid (below_on B0.out hb)
        obtain ⟨l1, p0, p1, p2, p3, p4, p5, p6, p7, p8⟩ := X0.out.on hb
        clear hb
        go_wp2
        go_ret
        exact ⟨ret_bool (by rw [HE.out]; simp_all), B1.out⟩
      · go_enter Try.func34, Try.ntmps34
        go_wp2_with (fail)
        refine (isTransaction_any c R0.out W0.out hl hl').mono ?_
        rintro e w1 ⟨rfl, hb⟩
        have B1 := Lib.hid (below_on B0.out hb)
        clear hb
        go_wp2
        go_ret
        exact ⟨ret_bool (by rw [HE.out]; simp_all), B1.out⟩
    · by_cases e2 : c.k = 2
      · have HE := Lib.hid (show M.rightC c = M.transB c by unfold M.rightC; rw [if_neg e0, if_neg e1, if_pos e2])
        obtain ⟨q1, q2⟩ := neI e0
        obtain ⟨q3, q4⟩ := neI e1
        obtain ⟨q5, q6⟩ := eqI e2
        clear e0 e1 e2
        go_enter Try.func34, Try.ntmps34
        go_wp2_with (fail)
        refine (isTransaction_any c R0.out W0.out hl hl').mono ?_
        rintro e w1 ⟨rfl, hb⟩
        have B1 := Lib.hid (below_on B0.out hb)
        clear hb
        go_wp2
        go_ret
        exact ⟨ret_bool HE.out.symm, B1.out⟩
      · have HE := Lib.hid (show M.rightC c = false by unfold M.rightC; rw [if_neg e0, if_neg e1, if_neg e2])
        obtain ⟨q1, q2⟩ := neI e0
        obtain ⟨q3, q4⟩ := neI e1
        obtain ⟨q5, q6⟩ := neI e2
        clear e0 e1 e2
        go_enter Try.func34, Try.ntmps34
        go_wp2
        go_ret
        exact ⟨ret_bool HE.out.symm, B0.out⟩
end Go.Proofs.Ytagngbdlpdilnaa
