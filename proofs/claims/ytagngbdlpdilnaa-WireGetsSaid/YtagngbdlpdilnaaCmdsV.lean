/- Contracts of the document's Before, and of its Right at a Noop; no conditions. -/
import Derived.Test.YtagngbdlpdilnaaCmdsJ
namespace Go.Proofs.Ytagngbdlpdilnaa
open Go.ChangeShapes Go.WideShapes Go.ChangeAt Go.RowKit
attribute [local go_sem ↓] run_same_rd run_same_wr run_same_txn run_same_stamp

set_option maxHeartbeats 1000000 in
theorem dbefore_any (a b c d : Int) (w : World) : Calls Try.prog 48 #[.agg #[.int .i64 a, .int .i64 b], .agg #[.int .i64 c, .int .i64 d]] w fun e w' => e = .returned (.bool (decide (M.ord a b c d < 0))) ∧ Below w.heap.size w w' := by
  go_enter Try.func48, Try.ntmps48
  go_wp2_with (go_at_call 71; refine (order_any _ _ _ _ _).mono ?_; rintro e w' ⟨rfl, rfl⟩)
  go_ret
  exact ⟨rfl, below_new (below_new (Below.refl _ _))⟩

set_option maxHeartbeats 4000000 in
set_option maxRecDepth 100000 in
theorem dright_noop {w : World} (c : M.Cmd) {va vb : Value} (h : Rds w va c.rs) (h' : Wrs w vb c.ws) (hk : c.k = 0) : Calls Try.prog 19 #[.agg #[.int .i64 c.k, .int .i64 c.tc, .int .i64 c.tn, .int .i64 c.tt, .int .i64 c.tk, .int .i64 c.sh, va, vb, .bool c.cm]] w fun e w' => e = .returned (.bool (M.rightC c)) ∧ Below w.heap.size w w' := by
  have B0 := Lib.hid (below_new (o := .cells #[.int .i64 c.k, .int .i64 c.tc, .int .i64 c.tn, .int .i64 c.tt, .int .i64 c.tk, .int .i64 c.sh, va, vb, .bool c.cm] 33) (Below.refl w.heap.size w))
  obtain ⟨A1, c1, rfl, g1, -⟩ := h.opened
  obtain ⟨A2, c2, rfl, g2, -⟩ := h'.opened
  clear h h'
  have HR := Lib.hid (show M.rightC c = M.sameC c M.zero by unfold M.rightC; rw [if_pos hk])
  obtain ⟨q0, q0'⟩ := eqI hk
  have HS := Lib.hid (show M.sameC c M.zero = (M.eq2 c.tc c.tn 0 0 && (M.eq2 c.tt c.tk 0 0 && (decide (c.sh = 0) && ((c.cm == false) && (M.sameR c.rs [] && M.sameW c.ws []))))) by unfold M.sameC; rw [show decide (c.k = M.zero.k) = true from decide_eq_true hk]; rfl)
  clear hk
  rcases two (M.eq2 c.tc c.tn 0 0) with e0 | e0
  · rcases two (M.eq2 c.tt c.tk 0 0) with e1 | e1
    · by_cases e2 : c.sh = 0
      · obtain ⟨q2a, q2b⟩ := eqI e2
        by_cases e3 : c.rs.length = 0
        · obtain ⟨q3a, q3b⟩ := zz e3
          have s3 : M.sameR c.rs [] = true := decide_eq_true (List.length_eq_zero_iff.1 e3)
          by_cases e4 : c.ws.length = 0
          · obtain ⟨q4a, q4b⟩ := zz e4
            have s4 : M.sameW c.ws [] = true := decide_eq_true (List.length_eq_zero_iff.1 e4)
            have HE := Lib.hid (show M.rightC c = !c.cm by rw [HR.out, HS.out, e0, e1, decide_eq_true e2, s3, s4]; cases c.cm <;> rfl)
            clear e2 e3 e4 s3 s4
            go_enter Try.func19, Try.ntmps19
            go_wp2
            go_ret
            exact ⟨ret_bool HE.out.symm, B0.out⟩
          · obtain ⟨q4a, q4b⟩ := nz e4
            have s4 : M.sameW c.ws [] = false := decide_eq_false (fun e => e4 (by rw [e]; rfl))
            have HE := Lib.hid (show M.rightC c = false by rw [HR.out, HS.out, e0, e1, decide_eq_true e2, s3, s4]; simp)
            clear e2 e3 s3 e4 s4
            go_enter Try.func19, Try.ntmps19
            go_wp2
            go_ret
            exact ⟨ret_bool HE.out.symm, B0.out⟩
        · obtain ⟨q3a, q3b⟩ := nz e3
          have s3 : M.sameR c.rs [] = false := decide_eq_false (fun e => e3 (by rw [e]; rfl))
          have HE := Lib.hid (show M.rightC c = false by rw [HR.out, HS.out, e0, e1, decide_eq_true e2, s3]; simp)
          clear e2 e3 s3
          go_enter Try.func19, Try.ntmps19
          go_wp2
          go_ret
          exact ⟨ret_bool HE.out.symm, B0.out⟩
      · obtain ⟨q2a, q2b⟩ := neI e2
        have HE := Lib.hid (show M.rightC c = false by rw [HR.out, HS.out, e0, e1, decide_eq_false e2]; simp)
        clear e2
        go_enter Try.func19, Try.ntmps19
        go_wp2
        go_ret
        exact ⟨ret_bool HE.out.symm, B0.out⟩
    · have HE := Lib.hid (show M.rightC c = false by rw [HR.out, HS.out, e0, e1]; simp)
      go_enter Try.func19, Try.ntmps19
      go_wp2
      go_ret
      exact ⟨ret_bool HE.out.symm, B0.out⟩
  · have HE := Lib.hid (show M.rightC c = false by rw [HR.out, HS.out, e0]; simp)
    go_enter Try.func19, Try.ntmps19
    go_wp2
    go_ret
    exact ⟨ret_bool HE.out.symm, B0.out⟩
end Go.Proofs.Ytagngbdlpdilnaa
