/- Contract of the document's Same; no conditions but the lengths that it names. -/
import Derived.Test.YtagngbdlpdilnaaCmdsF
namespace Go.Proofs.Ytagngbdlpdilnaa
open Go.ChangeShapes Go.WideShapes Go.ChangeAt Go.RowKit
attribute [local go_sem ↓] run_same_rd run_same_wr run_same_txn run_same_stamp

theorem eqN {n m : Nat} (h : n = m) : ((n : Int) == (m : Int)) = true ∧ ((n : Int) != (m : Int)) = false ∧ (n == m) = true ∧ (n != m) = false := by subst h; simp
theorem neN {n m : Nat} (h : ¬ n = m) : ((n : Int) == (m : Int)) = false ∧ ((n : Int) != (m : Int)) = true ∧ (n == m) = false ∧ (n != m) = true := by
  have q1 : ((n : Int) == (m : Int)) = false := by rw [beq_eq_false_iff_ne]; omega
  have q3 : (n == m) = false := by rw [beq_eq_false_iff_ne]; exact h
  exact ⟨q1, by rw [bne, q1]; rfl, q3, by rw [bne, q3]; rfl⟩
theorem eqB {x y : Bool} (h : (x == y) = true) : (x != y) = false := by rw [bne, h]; rfl
theorem neB {x y : Bool} (h : (x == y) = false) : (x != y) = true := by rw [bne, h]; rfl
namespace M
theorem sameR_len {l m : List (List UInt8 × Int × Int)} (h : ¬ l.length = m.length) : sameR l m = false := decide_eq_false (eq_len h)
theorem sameW_len {l m : List (List UInt8 × List UInt8)} (h : ¬ l.length = m.length) : sameW l m = false := decide_eq_false (eq_len h)
end M

set_option maxHeartbeats 8000000 in
set_option maxRecDepth 100000 in
theorem dsame_cmd {w : World} (a b : M.Cmd) {va vb ua ub : Value} (h : Rds w va a.rs) (h' : Wrs w vb a.ws) (g : Rds w ua b.rs) (g' : Wrs w ub b.ws) (hl : a.rs.length ≤ 1000) (hl' : a.ws.length ≤ 1000) : Calls Try.prog 40 #[.agg #[.int .i64 a.k, .int .i64 a.tc, .int .i64 a.tn, .int .i64 a.tt, .int .i64 a.tk, .int .i64 a.sh, va, vb, .bool a.cm], .agg #[.int .i64 b.k, .int .i64 b.tc, .int .i64 b.tn, .int .i64 b.tt, .int .i64 b.tk, .int .i64 b.sh, ua, ub, .bool b.cm]] w fun e w' => e = .returned (.bool (M.sameC a b)) ∧ Below w.heap.size w w' := by
  have X0 := Lib.hid ((Box.new w a va vb).push (.cells #[.int .i64 b.k, .int .i64 b.tc, .int .i64 b.tn, .int .i64 b.tt, .int .i64 b.tk, .int .i64 b.sh, ua, ub, .bool b.cm] 33))
  have Y0 := Lib.hid (Box.new1 w (.cells #[.int .i64 a.k, .int .i64 a.tc, .int .i64 a.tn, .int .i64 a.tt, .int .i64 a.tk, .int .i64 a.sh, va, vb, .bool a.cm] 33) b ua ub)
  have R0 := Lib.hid ((h.push (.cells #[.int .i64 a.k, .int .i64 a.tc, .int .i64 a.tn, .int .i64 a.tt, .int .i64 a.tk, .int .i64 a.sh, va, vb, .bool a.cm] 33)).push (.cells #[.int .i64 b.k, .int .i64 b.tc, .int .i64 b.tn, .int .i64 b.tt, .int .i64 b.tk, .int .i64 b.sh, ua, ub, .bool b.cm] 33))
  have W0 := Lib.hid ((h'.push (.cells #[.int .i64 a.k, .int .i64 a.tc, .int .i64 a.tn, .int .i64 a.tt, .int .i64 a.tk, .int .i64 a.sh, va, vb, .bool a.cm] 33)).push (.cells #[.int .i64 b.k, .int .i64 b.tc, .int .i64 b.tn, .int .i64 b.tt, .int .i64 b.tk, .int .i64 b.sh, ua, ub, .bool b.cm] 33))
  have S0 := Lib.hid ((g.push (.cells #[.int .i64 a.k, .int .i64 a.tc, .int .i64 a.tn, .int .i64 a.tt, .int .i64 a.tk, .int .i64 a.sh, va, vb, .bool a.cm] 33)).push (.cells #[.int .i64 b.k, .int .i64 b.tc, .int .i64 b.tn, .int .i64 b.tt, .int .i64 b.tk, .int .i64 b.sh, ua, ub, .bool b.cm] 33))
  have V0 := Lib.hid ((g'.push (.cells #[.int .i64 a.k, .int .i64 a.tc, .int .i64 a.tn, .int .i64 a.tt, .int .i64 a.tk, .int .i64 a.sh, va, vb, .bool a.cm] 33)).push (.cells #[.int .i64 b.k, .int .i64 b.tc, .int .i64 b.tn, .int .i64 b.tt, .int .i64 b.tk, .int .i64 b.sh, ua, ub, .bool b.cm] 33))
  have B0 := Lib.hid (below_new (o := .cells #[.int .i64 b.k, .int .i64 b.tc, .int .i64 b.tn, .int .i64 b.tt, .int .i64 b.tk, .int .i64 b.sh, ua, ub, .bool b.cm] 33) (below_new (o := .cells #[.int .i64 a.k, .int .i64 a.tc, .int .i64 a.tn, .int .i64 a.tt, .int .i64 a.tk, .int .i64 a.sh, va, vb, .bool a.cm] 33) (Below.refl w.heap.size w)))
  obtain ⟨A1, c1, rfl, g1, -⟩ := h.opened
  obtain ⟨A2, c2, rfl, g2, -⟩ := h'.opened
  obtain ⟨A3, c3, rfl, g3, -⟩ := g.opened
  obtain ⟨A4, c4, rfl, g4, -⟩ := g'.opened
  clear h h' g g'
  by_cases e0 : a.k = b.k
  · obtain ⟨q0a, q0b⟩ := eqI e0
    rcases two (M.eq2 a.tc a.tn b.tc b.tn) with e1 | e1
    · rcases two (M.eq2 a.tt a.tk b.tt b.tk) with e2 | e2
      · by_cases e3 : a.sh = b.sh
        · obtain ⟨q3a, q3b⟩ := eqI e3
          rcases two (a.cm == b.cm) with e4 | e4
          · have q4 := eqB e4
            by_cases e5 : a.rs.length = b.rs.length
            · obtain ⟨q5a, q5b, q5c, q5d⟩ := eqN e5
              by_cases e6 : a.ws.length = b.ws.length
              · obtain ⟨q6a, q6b, q6c, q6d⟩ := eqN e6
                have HE := Lib.hid (show M.sameC a b = (M.sameR a.rs b.rs && M.sameW a.ws b.ws) by unfold M.sameC; rw [decide_eq_true e0, e1, e2, decide_eq_true e3, e4]; rfl)
                have N1 := Lib.hid e5
                have N2 := Lib.hid e6
                clear e0 e3 e5 e6
                go_enter Try.func40, Try.ntmps40
                go_wp2
                generalize ((w.alloc (.cells #[.int .i64 a.k, .int .i64 a.tc, .int .i64 a.tn, .int .i64 a.tt, .int .i64 a.tk, .int .i64 a.sh, .slice A1 a.rs.length c1, .slice A2 a.ws.length c2, .bool a.cm] 33)).alloc (.cells #[.int .i64 b.k, .int .i64 b.tc, .int .i64 b.tn, .int .i64 b.tt, .int .i64 b.tk, .int .i64 b.sh, .slice A3 b.rs.length c3, .slice A4 b.ws.length c4, .bool b.cm] 33)) = w0 at *
                obtain ⟨l0, p0, p1, p2, p3, p4, p5, p6, p7, p8⟩ := X0.out
                obtain ⟨l1, r0, r1, r2, r3, r4, r5, r6, r7, r8⟩ := Y0.out
                go_loopw [5] (fun i wr => ∃ k n : Nat, k ≤ a.rs.length ∧ i = .int .i64 k ∧ wr = w0.drewN n ∧ a.rs.take k = b.rs.take k) (fun i _ => a.rs.length - (intOf i).toNat)
                case atStart => exact ⟨0, 0, Nat.zero_le _, rfl, rfl, rfl⟩
                case round =>
                  obtain ⟨k, n, hk, rfl, rfl, htk⟩ := hrel
                  have HS := Lib.hid htk
                  clear htk
                  by_cases hlt : k < a.rs.length
                  · obtain ⟨A1x, c1x, ea, -, hx⟩ := R0.out.opened
                    obtain ⟨A3x, c3x, eb, -, hx2⟩ := S0.out.opened
                    simp only [Value.slice.injEq, true_and] at ea eb
                    obtain ⟨rfl, rfl⟩ := ea
                    obtain ⟨rfl, rfl⟩ := eb
                    have hlt2 : k < b.rs.length := by have := N1.out; omega
                    obtain ⟨bx, o, rfl, hb, hy⟩ := hx (by omega)
                    obtain ⟨by2, o2, rfl, hb2, hy2⟩ := hx2 (by omega)
                    obtain ⟨z1, z2, z3⟩ := hy k hlt
                    obtain ⟨y1, y2, y3⟩ := hy2 k hlt2
                    have HQ := Lib.hid (M.eqRd_iff (p := a.rs.getD k rd0) (q := b.rs.getD k rd0))
                    clear hy hy2 hx hx2
                    generalize (a.rs.getD k rd0).1 = p_0 at *
                    generalize (a.rs.getD k rd0).2.1 = p_1 at *
                    generalize (a.rs.getD k rd0).2.2 = p_2 at *
                    generalize (b.rs.getD k rd0).1 = q_0 at *
                    generalize (b.rs.getD k rd0).2.1 = q_1 at *
                    generalize (b.rs.getD k rd0).2.2 = q_2 at *
                    have hi1 : (k : Int) < (a.rs.length : Int) := by omega
                    have hi2 : (k : Int) < (b.rs.length : Int) := by omega
                    rcases two (M.eqRd p_0 p_1 p_2 q_0 q_1 q_2) with e | e
                    · go_wp2
                      go_quiet (fail)
                      go_wp2
                      go_roundw
                      case rel => exact ⟨k + 1, _, by omega, by go_num, rfl, M.eq_take rd0 hlt N1.out HS.out (HQ.out.1 e)⟩
                      case measure => simp [intOf]; omega
                    · have HF := Lib.hid (show false = M.sameC a b by rw [HE.out, show M.sameR a.rs b.rs = false from decide_eq_false (M.eq_not rd0 (fun q => by rw [HQ.out.2 q] at e; cases e))]; rfl)
                      go_wp2
                      go_quiet (fail)
                      go_wp2
                      go_ret
                      exact ⟨ret_bool HF.out, below_drewN (below_drewN B0.out _) _⟩
                  · have HR := Lib.hid (M.eq_end hlt N1.out HS.out)
                    go_wp2
                    go_loopw [6] (fun i wr => ∃ k n : Nat, k ≤ a.ws.length ∧ i = .int .i64 k ∧ wr = w0.drewN n ∧ a.ws.take k = b.ws.take k) (fun i _ => a.ws.length - (intOf i).toNat)
                    case atStart => exact ⟨0, n, Nat.zero_le _, rfl, rfl, rfl⟩
                    case round =>
                      obtain ⟨j, n2, hj, rfl, rfl, htj⟩ := hrel
                      have HT := Lib.hid htj
                      clear htj
                      by_cases hlt3 : j < a.ws.length
                      · obtain ⟨A1x, c1x, ea, -, hx⟩ := W0.out.opened
                        obtain ⟨A3x, c3x, eb, -, hx2⟩ := V0.out.opened
                        simp only [Value.slice.injEq, true_and] at ea eb
                        obtain ⟨rfl, rfl⟩ := ea
                        obtain ⟨rfl, rfl⟩ := eb
                        have hlt2 : j < b.ws.length := by have := N2.out; omega
                        obtain ⟨bx, o, rfl, hb, hy⟩ := hx (by omega)
                        obtain ⟨by2, o2, rfl, hb2, hy2⟩ := hx2 (by omega)
                        obtain ⟨z1, z2⟩ := hy j hlt3
                        obtain ⟨y1, y2⟩ := hy2 j hlt2
                        have HQ := Lib.hid (M.eqWr_iff (p := a.ws.getD j wr0) (q := b.ws.getD j wr0))
                        clear hy hy2 hx hx2
                        generalize (a.ws.getD j wr0).1 = p_0 at *
                        generalize (a.ws.getD j wr0).2 = p_1 at *
                        generalize (b.ws.getD j wr0).1 = q_0 at *
                        generalize (b.ws.getD j wr0).2 = q_1 at *
                        have hi1 : (j : Int) < (a.ws.length : Int) := by omega
                        have hi2 : (j : Int) < (b.ws.length : Int) := by omega
                        rcases two (M.eqWr p_0 p_1 q_0 q_1) with e | e
                        · go_wp2
                          go_quiet (fail)
                          go_wp2
                          go_roundw
                          case rel => exact ⟨j + 1, _, by omega, by go_num, rfl, M.eq_take wr0 hlt3 N2.out HT.out (HQ.out.1 e)⟩
                          case measure => simp [intOf]; omega
                        · have HF := Lib.hid (show false = M.sameC a b by rw [HE.out, show M.sameW a.ws b.ws = false from decide_eq_false (M.eq_not wr0 (fun q => by rw [HQ.out.2 q] at e; cases e)), Bool.and_false])
                          go_wp2
                          go_quiet (fail)
                          go_wp2
                          go_ret
                          exact ⟨ret_bool HF.out, below_drewN (below_drewN B0.out _) _⟩
                      · have HF := Lib.hid (show true = M.sameC a b by rw [HE.out, show M.sameR a.rs b.rs = true from decide_eq_true HR.out, show M.sameW a.ws b.ws = true from decide_eq_true (M.eq_end hlt3 N2.out HT.out)]; rfl)
                        go_wp2
                        go_ret
                        exact ⟨ret_bool HF.out, below_drewN B0.out _⟩
              · obtain ⟨q6a, q6b, q6c, q6d⟩ := neN e6
                have HE := Lib.hid (show M.sameC a b = false by unfold M.sameC; rw [M.sameW_len e6]; simp)
                clear e0 e3 e5 e6
                go_enter Try.func40, Try.ntmps40
                go_wp2
                go_ret
                exact ⟨ret_bool HE.out.symm, B0.out⟩
            · obtain ⟨q5a, q5b, q5c, q5d⟩ := neN e5
              have HE := Lib.hid (show M.sameC a b = false by unfold M.sameC; rw [M.sameR_len e5]; simp)
              clear e0 e3 e5
              go_enter Try.func40, Try.ntmps40
              go_wp2
              go_ret
              exact ⟨ret_bool HE.out.symm, B0.out⟩
          · have q4 := neB e4
            have HE := Lib.hid (show M.sameC a b = false by unfold M.sameC; rw [decide_eq_true e0, e1, e2, decide_eq_true e3, e4]; rfl)
            clear e0 e3
            go_enter Try.func40, Try.ntmps40
            go_wp2
            go_ret
            exact ⟨ret_bool HE.out.symm, B0.out⟩
        · obtain ⟨q3a, q3b⟩ := neI e3
          have HE := Lib.hid (show M.sameC a b = false by unfold M.sameC; rw [decide_eq_true e0, e1, e2, decide_eq_false e3]; rfl)
          clear e0 e3
          go_enter Try.func40, Try.ntmps40
          go_wp2
          go_ret
          exact ⟨ret_bool HE.out.symm, B0.out⟩
      · have HE := Lib.hid (show M.sameC a b = false by unfold M.sameC; rw [decide_eq_true e0, e1, e2]; rfl)
        clear e0
        go_enter Try.func40, Try.ntmps40
        go_wp2
        go_ret
        exact ⟨ret_bool HE.out.symm, B0.out⟩
    · have HE := Lib.hid (show M.sameC a b = false by unfold M.sameC; rw [decide_eq_true e0, e1]; rfl)
      clear e0
      go_enter Try.func40, Try.ntmps40
      go_wp2
      go_ret
      exact ⟨ret_bool HE.out.symm, B0.out⟩
  · obtain ⟨q0a, q0b⟩ := neI e0
    have HE := Lib.hid (show M.sameC a b = false by unfold M.sameC; rw [decide_eq_false e0]; rfl)
    clear e0
    go_enter Try.func40, Try.ntmps40
    go_wp2
    go_ret
    exact ⟨ret_bool HE.out.symm, B0.out⟩
end Go.Proofs.Ytagngbdlpdilnaa
