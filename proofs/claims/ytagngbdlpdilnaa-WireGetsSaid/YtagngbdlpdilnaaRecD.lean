/- Contract of the document's RightRecord; no conditions but those that it names. -/
import Derived.Test.YtagngbdlpdilnaaRecR
import Derived.Test.YtagngbdlpdilnaaCmdsY
namespace Go.Proofs.Ytagngbdlpdilnaa
open Go.ChangeShapes Go.WideShapes Go.ChangeAt Go.RowKit
attribute [local go_sem ↓] run_same7 run_same_inst run_same_ballot

theorem dlower_any (a b c d : Int) (w : World) : Calls Try.prog 39 #[.agg #[.int .i64 a, .int .i64 b], .agg #[.int .i64 c, .int .i64 d]] w fun e w' => e = .returned (.bool (decide (M.ord a b c d < 0))) ∧ Below w.heap.size w w' := by
  go_enter Try.func39, Try.ntmps39
  go_wp2_with (go_at_call 71; refine (order_any _ _ _ _ _).mono ?_; rintro e w' ⟨rfl, rfl⟩)
  go_ret
  exact ⟨rfl, below_new (below_new (Below.refl _ _))⟩
theorem ddeps7_any (r : M.Rec) (w : World) : Calls Try.prog 41 #[.agg #[.int .i64 r.d0, .int .i64 r.d1, .int .i64 r.d2, .int .i64 r.d3, .int .i64 r.d4, .int .i64 r.d5, .int .i64 r.d6]] w fun e w' => e = .returned (.bool (V7.right (M.dep r))) ∧ Below w.heap.size w w' := refDeps_any (M.dep r) w

namespace M
def zero7 (r : Rec) : Bool := V7.same7 r.d0 r.d1 r.d2 r.d3 r.d4 r.d5 r.d6 0 0 0 0 0 0 0
def dtail (r : Rec) : Bool := if r.st = 0 then eq2 r.bn r.br 0 0 && (decide (r.sq = 0) && (zero7 r && sameC r.c zero)) else decide (1 ≤ r.st) && (decide (r.st ≤ 3) && (rightC r.c && (decide (1 ≤ r.sq) && (decide (r.sq ≤ 1099511627776) && V7.right (dep r)))))
def drightR (r : Rec) : Bool := pairB r.ir r.is 0 6 1 1048576 && (pairB r.pn r.pr 0 1099511627776 0 6 && (pairB r.bn r.br 0 1099511627776 0 6 && (!decide (ord r.pn r.pr r.bn r.br < 0) && ((!r.kp || decide (r.st = 1)) && dtail r))))
end M

set_option maxHeartbeats 8000000 in
set_option maxRecDepth 100000 in
theorem dright_rec {w : World} (r : M.Rec) {va vb : Value} (h : Rds w va r.c.rs) (h' : Wrs w vb r.c.ws) (F : M.Mod r.c) :
    Calls Try.prog 13 #[.agg #[.int .i64 r.ir, .int .i64 r.is, .int .i64 r.st, .int .i64 r.pn, .int .i64 r.pr, .int .i64 r.bn, .int .i64 r.br, .int .i64 r.c.k, .int .i64 r.c.tc, .int .i64 r.c.tn, .int .i64 r.c.tt, .int .i64 r.c.tk, .int .i64 r.c.sh, va, vb, .bool r.c.cm, .int .i64 r.sq, .int .i64 r.d0, .int .i64 r.d1, .int .i64 r.d2, .int .i64 r.d3, .int .i64 r.d4, .int .i64 r.d5, .int .i64 r.d6, .bool r.kp]] w fun e w' => e = .returned (.bool (M.drightR r)) ∧ Below w.heap.size w w' := by
  have X0 := Lib.hid (Cel.new w [.int .i64 r.ir, .int .i64 r.is, .int .i64 r.st, .int .i64 r.pn, .int .i64 r.pr, .int .i64 r.bn, .int .i64 r.br, .int .i64 r.c.k, .int .i64 r.c.tc, .int .i64 r.c.tn, .int .i64 r.c.tt, .int .i64 r.c.tk, .int .i64 r.c.sh, va, vb, .bool r.c.cm, .int .i64 r.sq, .int .i64 r.d0, .int .i64 r.d1, .int .i64 r.d2, .int .i64 r.d3, .int .i64 r.d4, .int .i64 r.d5, .int .i64 r.d6, .bool r.kp] 37)
  have R0 := Lib.hid (h.push (.cells #[.int .i64 r.ir, .int .i64 r.is, .int .i64 r.st, .int .i64 r.pn, .int .i64 r.pr, .int .i64 r.bn, .int .i64 r.br, .int .i64 r.c.k, .int .i64 r.c.tc, .int .i64 r.c.tn, .int .i64 r.c.tt, .int .i64 r.c.tk, .int .i64 r.c.sh, va, vb, .bool r.c.cm, .int .i64 r.sq, .int .i64 r.d0, .int .i64 r.d1, .int .i64 r.d2, .int .i64 r.d3, .int .i64 r.d4, .int .i64 r.d5, .int .i64 r.d6, .bool r.kp] 37))
  have W0 := Lib.hid (h'.push (.cells #[.int .i64 r.ir, .int .i64 r.is, .int .i64 r.st, .int .i64 r.pn, .int .i64 r.pr, .int .i64 r.bn, .int .i64 r.br, .int .i64 r.c.k, .int .i64 r.c.tc, .int .i64 r.c.tn, .int .i64 r.c.tt, .int .i64 r.c.tk, .int .i64 r.c.sh, va, vb, .bool r.c.cm, .int .i64 r.sq, .int .i64 r.d0, .int .i64 r.d1, .int .i64 r.d2, .int .i64 r.d3, .int .i64 r.d4, .int .i64 r.d5, .int .i64 r.d6, .bool r.kp] 37))
  have B0 := Lib.hid (below_new (o := .cells #[.int .i64 r.ir, .int .i64 r.is, .int .i64 r.st, .int .i64 r.pn, .int .i64 r.pr, .int .i64 r.bn, .int .i64 r.br, .int .i64 r.c.k, .int .i64 r.c.tc, .int .i64 r.c.tn, .int .i64 r.c.tt, .int .i64 r.c.tk, .int .i64 r.c.sh, va, vb, .bool r.c.cm, .int .i64 r.sq, .int .i64 r.d0, .int .i64 r.d1, .int .i64 r.d2, .int .i64 r.d3, .int .i64 r.d4, .int .i64 r.d5, .int .i64 r.d6, .bool r.kp] 37) (Below.refl w.heap.size w))
  clear h h'
  rcases two (M.pairB r.ir r.is 0 6 1 1048576) with e0 | e0
  · skip
    rcases two (M.pairB r.pn r.pr 0 1099511627776 0 6) with e1 | e1
    · skip
      rcases two (M.pairB r.bn r.br 0 1099511627776 0 6) with e2 | e2
      · skip
        rcases two (decide (M.ord r.pn r.pr r.bn r.br < 0)) with e3 | e3
        · skip
          have HE := Lib.hid (show M.drightR r = false by unfold M.drightR M.dtail M.zero7; simp [*])
          go_enter Try.func13, Try.ntmps13
          go_wp2_with (fail)
          refine (refInst_any _ _ _).mono ?_
          rintro e w1 ⟨rfl, hb⟩
          have B1 := Lib.hid (below_on B0.out hb)
          have X1 := Lib.hid (X0.out.on hb)
          have R1 := Lib.hid (R0.out.below hb)
          have W1 := Lib.hid (W0.out.below hb)
          clear hb
          have fX3 := X1.out.get 3 _ rfl
          have fX4 := X1.out.get 4 _ rfl
          go_wp2_with (fail)
          refine (refBallot_any _ _ _).mono ?_
          rintro e w2 ⟨rfl, hb⟩
          have B2 := Lib.hid (below_on B1.out hb)
          have X2 := Lib.hid (X1.out.on hb)
          have R2 := Lib.hid (R1.out.below hb)
          have W2 := Lib.hid (W1.out.below hb)
          clear hb fX3 fX4
          have fX5 := X2.out.get 5 _ rfl
          have fX6 := X2.out.get 6 _ rfl
          go_wp2_with (fail)
          refine (refBallot_any _ _ _).mono ?_
          rintro e w3 ⟨rfl, hb⟩
          have B3 := Lib.hid (below_on B2.out hb)
          have X3 := Lib.hid (X2.out.on hb)
          have R3 := Lib.hid (R2.out.below hb)
          have W3 := Lib.hid (W2.out.below hb)
          clear hb fX5 fX6
          have fX3 := X3.out.get 3 _ rfl
          have fX4 := X3.out.get 4 _ rfl
          have fX5 := X3.out.get 5 _ rfl
          have fX6 := X3.out.get 6 _ rfl
          go_wp2_with (fail)
          refine (dlower_any _ _ _ _ _).mono ?_
          rintro e w4 ⟨rfl, hb⟩
          have B4 := Lib.hid (below_on B3.out hb)
          have X4 := Lib.hid (X3.out.on hb)
          have R4 := Lib.hid (R3.out.below hb)
          have W4 := Lib.hid (W3.out.below hb)
          clear hb fX3 fX4 fX5 fX6
          go_wp2
          go_ret
          exact ⟨ret_bool HE.out.symm, B4.out⟩
        · skip
          rcases two (r.kp) with e4 | e4
          · skip
            by_cases e5 : r.st = 1
            · obtain ⟨q5a, q5b⟩ := eqI e5
              obtain ⟨x0, x1⟩ := neI (show ¬ r.st = 0 by omega)
              have x2 : 1 ≤ r.st := by omega
              have x3 : r.st ≤ 3 := by omega
              rcases two (M.rightC r.c) with e6 | e6
              · skip
                by_cases e7 : 1 ≤ r.sq
                · skip
                  by_cases e8 : r.sq ≤ 1099511627776
                  · skip
                    have HE := Lib.hid (show M.drightR r = V7.right (M.dep r) by unfold M.drightR M.dtail M.zero7; simp [*])
                    clear e5
                    have E4 := Lib.hid e4
                    clear e4
                    go_enter Try.func13, Try.ntmps13
                    go_wp2_with (fail)
                    refine (refInst_any _ _ _).mono ?_
                    rintro e w1 ⟨rfl, hb⟩
                    have B1 := Lib.hid (below_on B0.out hb)
                    have X1 := Lib.hid (X0.out.on hb)
                    have R1 := Lib.hid (R0.out.below hb)
                    have W1 := Lib.hid (W0.out.below hb)
                    clear hb
                    have e4 := E4.out
                    have fX3 := X1.out.get 3 _ rfl
                    have fX4 := X1.out.get 4 _ rfl
                    go_wp2_with (fail)
                    refine (refBallot_any _ _ _).mono ?_
                    rintro e w2 ⟨rfl, hb⟩
                    have B2 := Lib.hid (below_on B1.out hb)
                    have X2 := Lib.hid (X1.out.on hb)
                    have R2 := Lib.hid (R1.out.below hb)
                    have W2 := Lib.hid (W1.out.below hb)
                    clear hb fX3 fX4
                    have fX5 := X2.out.get 5 _ rfl
                    have fX6 := X2.out.get 6 _ rfl
                    go_wp2_with (fail)
                    refine (refBallot_any _ _ _).mono ?_
                    rintro e w3 ⟨rfl, hb⟩
                    have B3 := Lib.hid (below_on B2.out hb)
                    have X3 := Lib.hid (X2.out.on hb)
                    have R3 := Lib.hid (R2.out.below hb)
                    have W3 := Lib.hid (W2.out.below hb)
                    clear hb fX5 fX6
                    have fX3 := X3.out.get 3 _ rfl
                    have fX4 := X3.out.get 4 _ rfl
                    have fX5 := X3.out.get 5 _ rfl
                    have fX6 := X3.out.get 6 _ rfl
                    go_wp2_with (fail)
                    refine (dlower_any _ _ _ _ _).mono ?_
                    rintro e w4 ⟨rfl, hb⟩
                    have B4 := Lib.hid (below_on B3.out hb)
                    have X4 := Lib.hid (X3.out.on hb)
                    have R4 := Lib.hid (R3.out.below hb)
                    have W4 := Lib.hid (W3.out.below hb)
                    clear hb fX3 fX4 fX5 fX6
                    have fX2 := X4.out.get 2 _ rfl
                    have fX7 := X4.out.get 7 _ rfl
                    have fX8 := X4.out.get 8 _ rfl
                    have fX9 := X4.out.get 9 _ rfl
                    have fX10 := X4.out.get 10 _ rfl
                    have fX11 := X4.out.get 11 _ rfl
                    have fX12 := X4.out.get 12 _ rfl
                    have fX13 := X4.out.get 13 _ rfl
                    have fX14 := X4.out.get 14 _ rfl
                    have fX15 := X4.out.get 15 _ rfl
                    have fX24 := X4.out.get 24 _ rfl
                    go_wp2_with (fail)
                    refine (drightC r.c R4.out W4.out F).mono ?_
                    rintro e w5 ⟨rfl, hb⟩
                    have B5 := Lib.hid (below_on B4.out hb)
                    have X5 := Lib.hid (X4.out.on hb)
                    have R5 := Lib.hid (R4.out.below hb)
                    have W5 := Lib.hid (W4.out.below hb)
                    clear hb fX2 fX7 fX8 fX9 fX10 fX11 fX12 fX13 fX14 fX15 fX24
                    have fX16 := X5.out.get 16 _ rfl
                    have fX17 := X5.out.get 17 _ rfl
                    have fX18 := X5.out.get 18 _ rfl
                    have fX19 := X5.out.get 19 _ rfl
                    have fX20 := X5.out.get 20 _ rfl
                    have fX21 := X5.out.get 21 _ rfl
                    have fX22 := X5.out.get 22 _ rfl
                    have fX23 := X5.out.get 23 _ rfl
                    go_wp2_with (fail)
                    refine (ddeps7_any r _).mono ?_
                    rintro e w6 ⟨rfl, hb⟩
                    have B6 := Lib.hid (below_on B5.out hb)
                    have X6 := Lib.hid (X5.out.on hb)
                    have R6 := Lib.hid (R5.out.below hb)
                    have W6 := Lib.hid (W5.out.below hb)
                    clear hb fX16 fX17 fX18 fX19 fX20 fX21 fX22 fX23
                    go_wp2
                    go_ret
                    exact ⟨ret_bool HE.out.symm, B6.out⟩
                  · skip
                    have HE := Lib.hid (show M.drightR r = false by unfold M.drightR M.dtail M.zero7; simp [*])
                    clear e5
                    have E4 := Lib.hid e4
                    clear e4
                    go_enter Try.func13, Try.ntmps13
                    go_wp2_with (fail)
                    refine (refInst_any _ _ _).mono ?_
                    rintro e w1 ⟨rfl, hb⟩
                    have B1 := Lib.hid (below_on B0.out hb)
                    have X1 := Lib.hid (X0.out.on hb)
                    have R1 := Lib.hid (R0.out.below hb)
                    have W1 := Lib.hid (W0.out.below hb)
                    clear hb
                    have e4 := E4.out
                    have fX3 := X1.out.get 3 _ rfl
                    have fX4 := X1.out.get 4 _ rfl
                    go_wp2_with (fail)
                    refine (refBallot_any _ _ _).mono ?_
                    rintro e w2 ⟨rfl, hb⟩
                    have B2 := Lib.hid (below_on B1.out hb)
                    have X2 := Lib.hid (X1.out.on hb)
                    have R2 := Lib.hid (R1.out.below hb)
                    have W2 := Lib.hid (W1.out.below hb)
                    clear hb fX3 fX4
                    have fX5 := X2.out.get 5 _ rfl
                    have fX6 := X2.out.get 6 _ rfl
                    go_wp2_with (fail)
                    refine (refBallot_any _ _ _).mono ?_
                    rintro e w3 ⟨rfl, hb⟩
                    have B3 := Lib.hid (below_on B2.out hb)
                    have X3 := Lib.hid (X2.out.on hb)
                    have R3 := Lib.hid (R2.out.below hb)
                    have W3 := Lib.hid (W2.out.below hb)
                    clear hb fX5 fX6
                    have fX3 := X3.out.get 3 _ rfl
                    have fX4 := X3.out.get 4 _ rfl
                    have fX5 := X3.out.get 5 _ rfl
                    have fX6 := X3.out.get 6 _ rfl
                    go_wp2_with (fail)
                    refine (dlower_any _ _ _ _ _).mono ?_
                    rintro e w4 ⟨rfl, hb⟩
                    have B4 := Lib.hid (below_on B3.out hb)
                    have X4 := Lib.hid (X3.out.on hb)
                    have R4 := Lib.hid (R3.out.below hb)
                    have W4 := Lib.hid (W3.out.below hb)
                    clear hb fX3 fX4 fX5 fX6
                    have fX2 := X4.out.get 2 _ rfl
                    have fX7 := X4.out.get 7 _ rfl
                    have fX8 := X4.out.get 8 _ rfl
                    have fX9 := X4.out.get 9 _ rfl
                    have fX10 := X4.out.get 10 _ rfl
                    have fX11 := X4.out.get 11 _ rfl
                    have fX12 := X4.out.get 12 _ rfl
                    have fX13 := X4.out.get 13 _ rfl
                    have fX14 := X4.out.get 14 _ rfl
                    have fX15 := X4.out.get 15 _ rfl
                    have fX24 := X4.out.get 24 _ rfl
                    go_wp2_with (fail)
                    refine (drightC r.c R4.out W4.out F).mono ?_
                    rintro e w5 ⟨rfl, hb⟩
                    have B5 := Lib.hid (below_on B4.out hb)
                    have X5 := Lib.hid (X4.out.on hb)
                    have R5 := Lib.hid (R4.out.below hb)
                    have W5 := Lib.hid (W4.out.below hb)
                    clear hb fX2 fX7 fX8 fX9 fX10 fX11 fX12 fX13 fX14 fX15 fX24
                    have fX16 := X5.out.get 16 _ rfl
                    go_wp2
                    go_ret
                    exact ⟨ret_bool HE.out.symm, B5.out⟩
                · skip
                  have HE := Lib.hid (show M.drightR r = false by unfold M.drightR M.dtail M.zero7; simp [*])
                  clear e5
                  have E4 := Lib.hid e4
                  clear e4
                  go_enter Try.func13, Try.ntmps13
                  go_wp2_with (fail)
                  refine (refInst_any _ _ _).mono ?_
                  rintro e w1 ⟨rfl, hb⟩
                  have B1 := Lib.hid (below_on B0.out hb)
                  have X1 := Lib.hid (X0.out.on hb)
                  have R1 := Lib.hid (R0.out.below hb)
                  have W1 := Lib.hid (W0.out.below hb)
                  clear hb
                  have e4 := E4.out
                  have fX3 := X1.out.get 3 _ rfl
                  have fX4 := X1.out.get 4 _ rfl
                  go_wp2_with (fail)
                  refine (refBallot_any _ _ _).mono ?_
                  rintro e w2 ⟨rfl, hb⟩
                  have B2 := Lib.hid (below_on B1.out hb)
                  have X2 := Lib.hid (X1.out.on hb)
                  have R2 := Lib.hid (R1.out.below hb)
                  have W2 := Lib.hid (W1.out.below hb)
                  clear hb fX3 fX4
                  have fX5 := X2.out.get 5 _ rfl
                  have fX6 := X2.out.get 6 _ rfl
                  go_wp2_with (fail)
                  refine (refBallot_any _ _ _).mono ?_
                  rintro e w3 ⟨rfl, hb⟩
                  have B3 := Lib.hid (below_on B2.out hb)
                  have X3 := Lib.hid (X2.out.on hb)
                  have R3 := Lib.hid (R2.out.below hb)
                  have W3 := Lib.hid (W2.out.below hb)
                  clear hb fX5 fX6
                  have fX3 := X3.out.get 3 _ rfl
                  have fX4 := X3.out.get 4 _ rfl
                  have fX5 := X3.out.get 5 _ rfl
                  have fX6 := X3.out.get 6 _ rfl
                  go_wp2_with (fail)
                  refine (dlower_any _ _ _ _ _).mono ?_
                  rintro e w4 ⟨rfl, hb⟩
                  have B4 := Lib.hid (below_on B3.out hb)
                  have X4 := Lib.hid (X3.out.on hb)
                  have R4 := Lib.hid (R3.out.below hb)
                  have W4 := Lib.hid (W3.out.below hb)
                  clear hb fX3 fX4 fX5 fX6
                  have fX2 := X4.out.get 2 _ rfl
                  have fX7 := X4.out.get 7 _ rfl
                  have fX8 := X4.out.get 8 _ rfl
                  have fX9 := X4.out.get 9 _ rfl
                  have fX10 := X4.out.get 10 _ rfl
                  have fX11 := X4.out.get 11 _ rfl
                  have fX12 := X4.out.get 12 _ rfl
                  have fX13 := X4.out.get 13 _ rfl
                  have fX14 := X4.out.get 14 _ rfl
                  have fX15 := X4.out.get 15 _ rfl
                  have fX24 := X4.out.get 24 _ rfl
                  go_wp2_with (fail)
                  refine (drightC r.c R4.out W4.out F).mono ?_
                  rintro e w5 ⟨rfl, hb⟩
                  have B5 := Lib.hid (below_on B4.out hb)
                  have X5 := Lib.hid (X4.out.on hb)
                  have R5 := Lib.hid (R4.out.below hb)
                  have W5 := Lib.hid (W4.out.below hb)
                  clear hb fX2 fX7 fX8 fX9 fX10 fX11 fX12 fX13 fX14 fX15 fX24
                  have fX16 := X5.out.get 16 _ rfl
                  go_wp2
                  go_ret
                  exact ⟨ret_bool HE.out.symm, B5.out⟩
              · skip
                have HE := Lib.hid (show M.drightR r = false by unfold M.drightR M.dtail M.zero7; simp [*])
                clear e5
                have E4 := Lib.hid e4
                clear e4
                go_enter Try.func13, Try.ntmps13
                go_wp2_with (fail)
                refine (refInst_any _ _ _).mono ?_
                rintro e w1 ⟨rfl, hb⟩
                have B1 := Lib.hid (below_on B0.out hb)
                have X1 := Lib.hid (X0.out.on hb)
                have R1 := Lib.hid (R0.out.below hb)
                have W1 := Lib.hid (W0.out.below hb)
                clear hb
                have e4 := E4.out
                have fX3 := X1.out.get 3 _ rfl
                have fX4 := X1.out.get 4 _ rfl
                go_wp2_with (fail)
                refine (refBallot_any _ _ _).mono ?_
                rintro e w2 ⟨rfl, hb⟩
                have B2 := Lib.hid (below_on B1.out hb)
                have X2 := Lib.hid (X1.out.on hb)
                have R2 := Lib.hid (R1.out.below hb)
                have W2 := Lib.hid (W1.out.below hb)
                clear hb fX3 fX4
                have fX5 := X2.out.get 5 _ rfl
                have fX6 := X2.out.get 6 _ rfl
                go_wp2_with (fail)
                refine (refBallot_any _ _ _).mono ?_
                rintro e w3 ⟨rfl, hb⟩
                have B3 := Lib.hid (below_on B2.out hb)
                have X3 := Lib.hid (X2.out.on hb)
                have R3 := Lib.hid (R2.out.below hb)
                have W3 := Lib.hid (W2.out.below hb)
                clear hb fX5 fX6
                have fX3 := X3.out.get 3 _ rfl
                have fX4 := X3.out.get 4 _ rfl
                have fX5 := X3.out.get 5 _ rfl
                have fX6 := X3.out.get 6 _ rfl
                go_wp2_with (fail)
                refine (dlower_any _ _ _ _ _).mono ?_
                rintro e w4 ⟨rfl, hb⟩
                have B4 := Lib.hid (below_on B3.out hb)
                have X4 := Lib.hid (X3.out.on hb)
                have R4 := Lib.hid (R3.out.below hb)
                have W4 := Lib.hid (W3.out.below hb)
                clear hb fX3 fX4 fX5 fX6
                have fX2 := X4.out.get 2 _ rfl
                have fX7 := X4.out.get 7 _ rfl
                have fX8 := X4.out.get 8 _ rfl
                have fX9 := X4.out.get 9 _ rfl
                have fX10 := X4.out.get 10 _ rfl
                have fX11 := X4.out.get 11 _ rfl
                have fX12 := X4.out.get 12 _ rfl
                have fX13 := X4.out.get 13 _ rfl
                have fX14 := X4.out.get 14 _ rfl
                have fX15 := X4.out.get 15 _ rfl
                have fX24 := X4.out.get 24 _ rfl
                go_wp2_with (fail)
                refine (drightC r.c R4.out W4.out F).mono ?_
                rintro e w5 ⟨rfl, hb⟩
                have B5 := Lib.hid (below_on B4.out hb)
                have X5 := Lib.hid (X4.out.on hb)
                have R5 := Lib.hid (R4.out.below hb)
                have W5 := Lib.hid (W4.out.below hb)
                clear hb fX2 fX7 fX8 fX9 fX10 fX11 fX12 fX13 fX14 fX15 fX24
                go_wp2
                go_ret
                exact ⟨ret_bool HE.out.symm, B5.out⟩
            · obtain ⟨q5a, q5b⟩ := neI e5
              have HE := Lib.hid (show M.drightR r = false by unfold M.drightR M.dtail M.zero7; simp [*])
              clear e5
              have E4 := Lib.hid e4
              clear e4
              go_enter Try.func13, Try.ntmps13
              go_wp2_with (fail)
              refine (refInst_any _ _ _).mono ?_
              rintro e w1 ⟨rfl, hb⟩
              have B1 := Lib.hid (below_on B0.out hb)
              have X1 := Lib.hid (X0.out.on hb)
              have R1 := Lib.hid (R0.out.below hb)
              have W1 := Lib.hid (W0.out.below hb)
              clear hb
              have e4 := E4.out
              have fX3 := X1.out.get 3 _ rfl
              have fX4 := X1.out.get 4 _ rfl
              go_wp2_with (fail)
              refine (refBallot_any _ _ _).mono ?_
              rintro e w2 ⟨rfl, hb⟩
              have B2 := Lib.hid (below_on B1.out hb)
              have X2 := Lib.hid (X1.out.on hb)
              have R2 := Lib.hid (R1.out.below hb)
              have W2 := Lib.hid (W1.out.below hb)
              clear hb fX3 fX4
              have fX5 := X2.out.get 5 _ rfl
              have fX6 := X2.out.get 6 _ rfl
              go_wp2_with (fail)
              refine (refBallot_any _ _ _).mono ?_
              rintro e w3 ⟨rfl, hb⟩
              have B3 := Lib.hid (below_on B2.out hb)
              have X3 := Lib.hid (X2.out.on hb)
              have R3 := Lib.hid (R2.out.below hb)
              have W3 := Lib.hid (W2.out.below hb)
              clear hb fX5 fX6
              have fX3 := X3.out.get 3 _ rfl
              have fX4 := X3.out.get 4 _ rfl
              have fX5 := X3.out.get 5 _ rfl
              have fX6 := X3.out.get 6 _ rfl
              go_wp2_with (fail)
              refine (dlower_any _ _ _ _ _).mono ?_
              rintro e w4 ⟨rfl, hb⟩
              have B4 := Lib.hid (below_on B3.out hb)
              have X4 := Lib.hid (X3.out.on hb)
              have R4 := Lib.hid (R3.out.below hb)
              have W4 := Lib.hid (W3.out.below hb)
              clear hb fX3 fX4 fX5 fX6
              have fX2 := X4.out.get 2 _ rfl
              have fX24 := X4.out.get 24 _ rfl
              go_wp2
              go_ret
              exact ⟨ret_bool HE.out.symm, B4.out⟩
          · skip
            by_cases e5 : r.st = 0
            · obtain ⟨q5a, q5b⟩ := eqI e5
              rcases two (M.eq2 r.bn r.br 0 0) with e6 | e6
              · skip
                by_cases e7 : r.sq = 0
                · obtain ⟨q7a, q7b⟩ := eqI e7
                  rcases two (V7.same7 r.d0 r.d1 r.d2 r.d3 r.d4 r.d5 r.d6 0 0 0 0 0 0 0) with e8 | e8
                  · skip
                    have HE := Lib.hid (show M.drightR r = M.sameC r.c M.zero by unfold M.drightR M.dtail M.zero7; simp [*])
                    clear e5 e7
                    have E4 := Lib.hid e4
                    clear e4
                    go_enter Try.func13, Try.ntmps13
                    go_wp2_with (fail)
                    refine (refInst_any _ _ _).mono ?_
                    rintro e w1 ⟨rfl, hb⟩
                    have B1 := Lib.hid (below_on B0.out hb)
                    have X1 := Lib.hid (X0.out.on hb)
                    have R1 := Lib.hid (R0.out.below hb)
                    have W1 := Lib.hid (W0.out.below hb)
                    clear hb
                    have e4 := E4.out
                    have fX3 := X1.out.get 3 _ rfl
                    have fX4 := X1.out.get 4 _ rfl
                    go_wp2_with (fail)
                    refine (refBallot_any _ _ _).mono ?_
                    rintro e w2 ⟨rfl, hb⟩
                    have B2 := Lib.hid (below_on B1.out hb)
                    have X2 := Lib.hid (X1.out.on hb)
                    have R2 := Lib.hid (R1.out.below hb)
                    have W2 := Lib.hid (W1.out.below hb)
                    clear hb fX3 fX4
                    have fX5 := X2.out.get 5 _ rfl
                    have fX6 := X2.out.get 6 _ rfl
                    go_wp2_with (fail)
                    refine (refBallot_any _ _ _).mono ?_
                    rintro e w3 ⟨rfl, hb⟩
                    have B3 := Lib.hid (below_on B2.out hb)
                    have X3 := Lib.hid (X2.out.on hb)
                    have R3 := Lib.hid (R2.out.below hb)
                    have W3 := Lib.hid (W2.out.below hb)
                    clear hb fX5 fX6
                    have fX3 := X3.out.get 3 _ rfl
                    have fX4 := X3.out.get 4 _ rfl
                    have fX5 := X3.out.get 5 _ rfl
                    have fX6 := X3.out.get 6 _ rfl
                    go_wp2_with (fail)
                    refine (dlower_any _ _ _ _ _).mono ?_
                    rintro e w4 ⟨rfl, hb⟩
                    have B4 := Lib.hid (below_on B3.out hb)
                    have X4 := Lib.hid (X3.out.on hb)
                    have R4 := Lib.hid (R3.out.below hb)
                    have W4 := Lib.hid (W3.out.below hb)
                    clear hb fX3 fX4 fX5 fX6
                    have fX2 := X4.out.get 2 _ rfl
                    have fX5 := X4.out.get 5 _ rfl
                    have fX6 := X4.out.get 6 _ rfl
                    have fX7 := X4.out.get 7 _ rfl
                    have fX8 := X4.out.get 8 _ rfl
                    have fX9 := X4.out.get 9 _ rfl
                    have fX10 := X4.out.get 10 _ rfl
                    have fX11 := X4.out.get 11 _ rfl
                    have fX12 := X4.out.get 12 _ rfl
                    have fX13 := X4.out.get 13 _ rfl
                    have fX14 := X4.out.get 14 _ rfl
                    have fX15 := X4.out.get 15 _ rfl
                    have fX16 := X4.out.get 16 _ rfl
                    have fX17 := X4.out.get 17 _ rfl
                    have fX18 := X4.out.get 18 _ rfl
                    have fX19 := X4.out.get 19 _ rfl
                    have fX20 := X4.out.get 20 _ rfl
                    have fX21 := X4.out.get 21 _ rfl
                    have fX22 := X4.out.get 22 _ rfl
                    have fX23 := X4.out.get 23 _ rfl
                    have fX24 := X4.out.get 24 _ rfl
                    go_wp2_with (fail)
                    refine (dsame_cmd r.c M.zero R4.out W4.out (Rds.nil _) (Wrs.nil _) F.l F.l').mono ?_
                    rintro e w5 ⟨rfl, hb⟩
                    have B5 := Lib.hid (below_on B4.out hb)
                    have X5 := Lib.hid (X4.out.on hb)
                    have R5 := Lib.hid (R4.out.below hb)
                    have W5 := Lib.hid (W4.out.below hb)
                    clear hb fX2 fX5 fX6 fX7 fX8 fX9 fX10 fX11 fX12 fX13 fX14 fX15 fX16 fX17 fX18 fX19 fX20 fX21 fX22 fX23 fX24
                    go_wp2
                    go_ret
                    exact ⟨ret_bool HE.out.symm, B5.out⟩
                  · skip
                    have HE := Lib.hid (show M.drightR r = false by unfold M.drightR M.dtail M.zero7; simp [*])
                    clear e5 e7
                    have E4 := Lib.hid e4
                    clear e4
                    go_enter Try.func13, Try.ntmps13
                    go_wp2_with (fail)
                    refine (refInst_any _ _ _).mono ?_
                    rintro e w1 ⟨rfl, hb⟩
                    have B1 := Lib.hid (below_on B0.out hb)
                    have X1 := Lib.hid (X0.out.on hb)
                    have R1 := Lib.hid (R0.out.below hb)
                    have W1 := Lib.hid (W0.out.below hb)
                    clear hb
                    have e4 := E4.out
                    have fX3 := X1.out.get 3 _ rfl
                    have fX4 := X1.out.get 4 _ rfl
                    go_wp2_with (fail)
                    refine (refBallot_any _ _ _).mono ?_
                    rintro e w2 ⟨rfl, hb⟩
                    have B2 := Lib.hid (below_on B1.out hb)
                    have X2 := Lib.hid (X1.out.on hb)
                    have R2 := Lib.hid (R1.out.below hb)
                    have W2 := Lib.hid (W1.out.below hb)
                    clear hb fX3 fX4
                    have fX5 := X2.out.get 5 _ rfl
                    have fX6 := X2.out.get 6 _ rfl
                    go_wp2_with (fail)
                    refine (refBallot_any _ _ _).mono ?_
                    rintro e w3 ⟨rfl, hb⟩
                    have B3 := Lib.hid (below_on B2.out hb)
                    have X3 := Lib.hid (X2.out.on hb)
                    have R3 := Lib.hid (R2.out.below hb)
                    have W3 := Lib.hid (W2.out.below hb)
                    clear hb fX5 fX6
                    have fX3 := X3.out.get 3 _ rfl
                    have fX4 := X3.out.get 4 _ rfl
                    have fX5 := X3.out.get 5 _ rfl
                    have fX6 := X3.out.get 6 _ rfl
                    go_wp2_with (fail)
                    refine (dlower_any _ _ _ _ _).mono ?_
                    rintro e w4 ⟨rfl, hb⟩
                    have B4 := Lib.hid (below_on B3.out hb)
                    have X4 := Lib.hid (X3.out.on hb)
                    have R4 := Lib.hid (R3.out.below hb)
                    have W4 := Lib.hid (W3.out.below hb)
                    clear hb fX3 fX4 fX5 fX6
                    have fX2 := X4.out.get 2 _ rfl
                    have fX5 := X4.out.get 5 _ rfl
                    have fX6 := X4.out.get 6 _ rfl
                    have fX16 := X4.out.get 16 _ rfl
                    have fX17 := X4.out.get 17 _ rfl
                    have fX18 := X4.out.get 18 _ rfl
                    have fX19 := X4.out.get 19 _ rfl
                    have fX20 := X4.out.get 20 _ rfl
                    have fX21 := X4.out.get 21 _ rfl
                    have fX22 := X4.out.get 22 _ rfl
                    have fX23 := X4.out.get 23 _ rfl
                    have fX24 := X4.out.get 24 _ rfl
                    go_wp2
                    go_ret
                    exact ⟨ret_bool HE.out.symm, B4.out⟩
                · obtain ⟨q7a, q7b⟩ := neI e7
                  have HE := Lib.hid (show M.drightR r = false by unfold M.drightR M.dtail M.zero7; simp [*])
                  clear e5 e7
                  have E4 := Lib.hid e4
                  clear e4
                  go_enter Try.func13, Try.ntmps13
                  go_wp2_with (fail)
                  refine (refInst_any _ _ _).mono ?_
                  rintro e w1 ⟨rfl, hb⟩
                  have B1 := Lib.hid (below_on B0.out hb)
                  have X1 := Lib.hid (X0.out.on hb)
                  have R1 := Lib.hid (R0.out.below hb)
                  have W1 := Lib.hid (W0.out.below hb)
                  clear hb
                  have e4 := E4.out
                  have fX3 := X1.out.get 3 _ rfl
                  have fX4 := X1.out.get 4 _ rfl
                  go_wp2_with (fail)
                  refine (refBallot_any _ _ _).mono ?_
                  rintro e w2 ⟨rfl, hb⟩
                  have B2 := Lib.hid (below_on B1.out hb)
                  have X2 := Lib.hid (X1.out.on hb)
                  have R2 := Lib.hid (R1.out.below hb)
                  have W2 := Lib.hid (W1.out.below hb)
                  clear hb fX3 fX4
                  have fX5 := X2.out.get 5 _ rfl
                  have fX6 := X2.out.get 6 _ rfl
                  go_wp2_with (fail)
                  refine (refBallot_any _ _ _).mono ?_
                  rintro e w3 ⟨rfl, hb⟩
                  have B3 := Lib.hid (below_on B2.out hb)
                  have X3 := Lib.hid (X2.out.on hb)
                  have R3 := Lib.hid (R2.out.below hb)
                  have W3 := Lib.hid (W2.out.below hb)
                  clear hb fX5 fX6
                  have fX3 := X3.out.get 3 _ rfl
                  have fX4 := X3.out.get 4 _ rfl
                  have fX5 := X3.out.get 5 _ rfl
                  have fX6 := X3.out.get 6 _ rfl
                  go_wp2_with (fail)
                  refine (dlower_any _ _ _ _ _).mono ?_
                  rintro e w4 ⟨rfl, hb⟩
                  have B4 := Lib.hid (below_on B3.out hb)
                  have X4 := Lib.hid (X3.out.on hb)
                  have R4 := Lib.hid (R3.out.below hb)
                  have W4 := Lib.hid (W3.out.below hb)
                  clear hb fX3 fX4 fX5 fX6
                  have fX2 := X4.out.get 2 _ rfl
                  have fX5 := X4.out.get 5 _ rfl
                  have fX6 := X4.out.get 6 _ rfl
                  have fX16 := X4.out.get 16 _ rfl
                  have fX24 := X4.out.get 24 _ rfl
                  go_wp2
                  go_ret
                  exact ⟨ret_bool HE.out.symm, B4.out⟩
              · skip
                have HE := Lib.hid (show M.drightR r = false by unfold M.drightR M.dtail M.zero7; simp [*])
                clear e5
                have E4 := Lib.hid e4
                clear e4
                go_enter Try.func13, Try.ntmps13
                go_wp2_with (fail)
                refine (refInst_any _ _ _).mono ?_
                rintro e w1 ⟨rfl, hb⟩
                have B1 := Lib.hid (below_on B0.out hb)
                have X1 := Lib.hid (X0.out.on hb)
                have R1 := Lib.hid (R0.out.below hb)
                have W1 := Lib.hid (W0.out.below hb)
                clear hb
                have e4 := E4.out
                have fX3 := X1.out.get 3 _ rfl
                have fX4 := X1.out.get 4 _ rfl
                go_wp2_with (fail)
                refine (refBallot_any _ _ _).mono ?_
                rintro e w2 ⟨rfl, hb⟩
                have B2 := Lib.hid (below_on B1.out hb)
                have X2 := Lib.hid (X1.out.on hb)
                have R2 := Lib.hid (R1.out.below hb)
                have W2 := Lib.hid (W1.out.below hb)
                clear hb fX3 fX4
                have fX5 := X2.out.get 5 _ rfl
                have fX6 := X2.out.get 6 _ rfl
                go_wp2_with (fail)
                refine (refBallot_any _ _ _).mono ?_
                rintro e w3 ⟨rfl, hb⟩
                have B3 := Lib.hid (below_on B2.out hb)
                have X3 := Lib.hid (X2.out.on hb)
                have R3 := Lib.hid (R2.out.below hb)
                have W3 := Lib.hid (W2.out.below hb)
                clear hb fX5 fX6
                have fX3 := X3.out.get 3 _ rfl
                have fX4 := X3.out.get 4 _ rfl
                have fX5 := X3.out.get 5 _ rfl
                have fX6 := X3.out.get 6 _ rfl
                go_wp2_with (fail)
                refine (dlower_any _ _ _ _ _).mono ?_
                rintro e w4 ⟨rfl, hb⟩
                have B4 := Lib.hid (below_on B3.out hb)
                have X4 := Lib.hid (X3.out.on hb)
                have R4 := Lib.hid (R3.out.below hb)
                have W4 := Lib.hid (W3.out.below hb)
                clear hb fX3 fX4 fX5 fX6
                have fX2 := X4.out.get 2 _ rfl
                have fX5 := X4.out.get 5 _ rfl
                have fX6 := X4.out.get 6 _ rfl
                have fX24 := X4.out.get 24 _ rfl
                go_wp2
                go_ret
                exact ⟨ret_bool HE.out.symm, B4.out⟩
            · obtain ⟨q5a, q5b⟩ := neI e5
              by_cases e6 : 1 ≤ r.st
              · skip
                by_cases e7 : r.st ≤ 3
                · skip
                  rcases two (M.rightC r.c) with e8 | e8
                  · skip
                    by_cases e9 : 1 ≤ r.sq
                    · skip
                      by_cases e10 : r.sq ≤ 1099511627776
                      · skip
                        have HE := Lib.hid (show M.drightR r = V7.right (M.dep r) by unfold M.drightR M.dtail M.zero7; simp [*])
                        clear e5
                        have E4 := Lib.hid e4
                        clear e4
                        go_enter Try.func13, Try.ntmps13
                        go_wp2_with (fail)
                        refine (refInst_any _ _ _).mono ?_
                        rintro e w1 ⟨rfl, hb⟩
                        have B1 := Lib.hid (below_on B0.out hb)
                        have X1 := Lib.hid (X0.out.on hb)
                        have R1 := Lib.hid (R0.out.below hb)
                        have W1 := Lib.hid (W0.out.below hb)
                        clear hb
                        have e4 := E4.out
                        have fX3 := X1.out.get 3 _ rfl
                        have fX4 := X1.out.get 4 _ rfl
                        go_wp2_with (fail)
                        refine (refBallot_any _ _ _).mono ?_
                        rintro e w2 ⟨rfl, hb⟩
                        have B2 := Lib.hid (below_on B1.out hb)
                        have X2 := Lib.hid (X1.out.on hb)
                        have R2 := Lib.hid (R1.out.below hb)
                        have W2 := Lib.hid (W1.out.below hb)
                        clear hb fX3 fX4
                        have fX5 := X2.out.get 5 _ rfl
                        have fX6 := X2.out.get 6 _ rfl
                        go_wp2_with (fail)
                        refine (refBallot_any _ _ _).mono ?_
                        rintro e w3 ⟨rfl, hb⟩
                        have B3 := Lib.hid (below_on B2.out hb)
                        have X3 := Lib.hid (X2.out.on hb)
                        have R3 := Lib.hid (R2.out.below hb)
                        have W3 := Lib.hid (W2.out.below hb)
                        clear hb fX5 fX6
                        have fX3 := X3.out.get 3 _ rfl
                        have fX4 := X3.out.get 4 _ rfl
                        have fX5 := X3.out.get 5 _ rfl
                        have fX6 := X3.out.get 6 _ rfl
                        go_wp2_with (fail)
                        refine (dlower_any _ _ _ _ _).mono ?_
                        rintro e w4 ⟨rfl, hb⟩
                        have B4 := Lib.hid (below_on B3.out hb)
                        have X4 := Lib.hid (X3.out.on hb)
                        have R4 := Lib.hid (R3.out.below hb)
                        have W4 := Lib.hid (W3.out.below hb)
                        clear hb fX3 fX4 fX5 fX6
                        have fX2 := X4.out.get 2 _ rfl
                        have fX7 := X4.out.get 7 _ rfl
                        have fX8 := X4.out.get 8 _ rfl
                        have fX9 := X4.out.get 9 _ rfl
                        have fX10 := X4.out.get 10 _ rfl
                        have fX11 := X4.out.get 11 _ rfl
                        have fX12 := X4.out.get 12 _ rfl
                        have fX13 := X4.out.get 13 _ rfl
                        have fX14 := X4.out.get 14 _ rfl
                        have fX15 := X4.out.get 15 _ rfl
                        have fX24 := X4.out.get 24 _ rfl
                        go_wp2_with (fail)
                        refine (drightC r.c R4.out W4.out F).mono ?_
                        rintro e w5 ⟨rfl, hb⟩
                        have B5 := Lib.hid (below_on B4.out hb)
                        have X5 := Lib.hid (X4.out.on hb)
                        have R5 := Lib.hid (R4.out.below hb)
                        have W5 := Lib.hid (W4.out.below hb)
                        clear hb fX2 fX7 fX8 fX9 fX10 fX11 fX12 fX13 fX14 fX15 fX24
                        have fX16 := X5.out.get 16 _ rfl
                        have fX17 := X5.out.get 17 _ rfl
                        have fX18 := X5.out.get 18 _ rfl
                        have fX19 := X5.out.get 19 _ rfl
                        have fX20 := X5.out.get 20 _ rfl
                        have fX21 := X5.out.get 21 _ rfl
                        have fX22 := X5.out.get 22 _ rfl
                        have fX23 := X5.out.get 23 _ rfl
                        go_wp2_with (fail)
                        refine (ddeps7_any r _).mono ?_
                        rintro e w6 ⟨rfl, hb⟩
                        have B6 := Lib.hid (below_on B5.out hb)
                        have X6 := Lib.hid (X5.out.on hb)
                        have R6 := Lib.hid (R5.out.below hb)
                        have W6 := Lib.hid (W5.out.below hb)
                        clear hb fX16 fX17 fX18 fX19 fX20 fX21 fX22 fX23
                        go_wp2
                        go_ret
                        exact ⟨ret_bool HE.out.symm, B6.out⟩
                      · skip
                        have HE := Lib.hid (show M.drightR r = false by unfold M.drightR M.dtail M.zero7; simp [*])
                        clear e5
                        have E4 := Lib.hid e4
                        clear e4
                        go_enter Try.func13, Try.ntmps13
                        go_wp2_with (fail)
                        refine (refInst_any _ _ _).mono ?_
                        rintro e w1 ⟨rfl, hb⟩
                        have B1 := Lib.hid (below_on B0.out hb)
                        have X1 := Lib.hid (X0.out.on hb)
                        have R1 := Lib.hid (R0.out.below hb)
                        have W1 := Lib.hid (W0.out.below hb)
                        clear hb
                        have e4 := E4.out
                        have fX3 := X1.out.get 3 _ rfl
                        have fX4 := X1.out.get 4 _ rfl
                        go_wp2_with (fail)
                        refine (refBallot_any _ _ _).mono ?_
                        rintro e w2 ⟨rfl, hb⟩
                        have B2 := Lib.hid (below_on B1.out hb)
                        have X2 := Lib.hid (X1.out.on hb)
                        have R2 := Lib.hid (R1.out.below hb)
                        have W2 := Lib.hid (W1.out.below hb)
                        clear hb fX3 fX4
                        have fX5 := X2.out.get 5 _ rfl
                        have fX6 := X2.out.get 6 _ rfl
                        go_wp2_with (fail)
                        refine (refBallot_any _ _ _).mono ?_
                        rintro e w3 ⟨rfl, hb⟩
                        have B3 := Lib.hid (below_on B2.out hb)
                        have X3 := Lib.hid (X2.out.on hb)
                        have R3 := Lib.hid (R2.out.below hb)
                        have W3 := Lib.hid (W2.out.below hb)
                        clear hb fX5 fX6
                        have fX3 := X3.out.get 3 _ rfl
                        have fX4 := X3.out.get 4 _ rfl
                        have fX5 := X3.out.get 5 _ rfl
                        have fX6 := X3.out.get 6 _ rfl
                        go_wp2_with (fail)
                        refine (dlower_any _ _ _ _ _).mono ?_
                        rintro e w4 ⟨rfl, hb⟩
                        have B4 := Lib.hid (below_on B3.out hb)
                        have X4 := Lib.hid (X3.out.on hb)
                        have R4 := Lib.hid (R3.out.below hb)
                        have W4 := Lib.hid (W3.out.below hb)
                        clear hb fX3 fX4 fX5 fX6
                        have fX2 := X4.out.get 2 _ rfl
                        have fX7 := X4.out.get 7 _ rfl
                        have fX8 := X4.out.get 8 _ rfl
                        have fX9 := X4.out.get 9 _ rfl
                        have fX10 := X4.out.get 10 _ rfl
                        have fX11 := X4.out.get 11 _ rfl
                        have fX12 := X4.out.get 12 _ rfl
                        have fX13 := X4.out.get 13 _ rfl
                        have fX14 := X4.out.get 14 _ rfl
                        have fX15 := X4.out.get 15 _ rfl
                        have fX24 := X4.out.get 24 _ rfl
                        go_wp2_with (fail)
                        refine (drightC r.c R4.out W4.out F).mono ?_
                        rintro e w5 ⟨rfl, hb⟩
                        have B5 := Lib.hid (below_on B4.out hb)
                        have X5 := Lib.hid (X4.out.on hb)
                        have R5 := Lib.hid (R4.out.below hb)
                        have W5 := Lib.hid (W4.out.below hb)
                        clear hb fX2 fX7 fX8 fX9 fX10 fX11 fX12 fX13 fX14 fX15 fX24
                        have fX16 := X5.out.get 16 _ rfl
                        go_wp2
                        go_ret
                        exact ⟨ret_bool HE.out.symm, B5.out⟩
                    · skip
                      have HE := Lib.hid (show M.drightR r = false by unfold M.drightR M.dtail M.zero7; simp [*])
                      clear e5
                      have E4 := Lib.hid e4
                      clear e4
                      go_enter Try.func13, Try.ntmps13
                      go_wp2_with (fail)
                      refine (refInst_any _ _ _).mono ?_
                      rintro e w1 ⟨rfl, hb⟩
                      have B1 := Lib.hid (below_on B0.out hb)
                      have X1 := Lib.hid (X0.out.on hb)
                      have R1 := Lib.hid (R0.out.below hb)
                      have W1 := Lib.hid (W0.out.below hb)
                      clear hb
                      have e4 := E4.out
                      have fX3 := X1.out.get 3 _ rfl
                      have fX4 := X1.out.get 4 _ rfl
                      go_wp2_with (fail)
                      refine (refBallot_any _ _ _).mono ?_
                      rintro e w2 ⟨rfl, hb⟩
                      have B2 := Lib.hid (below_on B1.out hb)
                      have X2 := Lib.hid (X1.out.on hb)
                      have R2 := Lib.hid (R1.out.below hb)
                      have W2 := Lib.hid (W1.out.below hb)
                      clear hb fX3 fX4
                      have fX5 := X2.out.get 5 _ rfl
                      have fX6 := X2.out.get 6 _ rfl
                      go_wp2_with (fail)
                      refine (refBallot_any _ _ _).mono ?_
                      rintro e w3 ⟨rfl, hb⟩
                      have B3 := Lib.hid (below_on B2.out hb)
                      have X3 := Lib.hid (X2.out.on hb)
                      have R3 := Lib.hid (R2.out.below hb)
                      have W3 := Lib.hid (W2.out.below hb)
                      clear hb fX5 fX6
                      have fX3 := X3.out.get 3 _ rfl
                      have fX4 := X3.out.get 4 _ rfl
                      have fX5 := X3.out.get 5 _ rfl
                      have fX6 := X3.out.get 6 _ rfl
                      go_wp2_with (fail)
                      refine (dlower_any _ _ _ _ _).mono ?_
                      rintro e w4 ⟨rfl, hb⟩
                      have B4 := Lib.hid (below_on B3.out hb)
                      have X4 := Lib.hid (X3.out.on hb)
                      have R4 := Lib.hid (R3.out.below hb)
                      have W4 := Lib.hid (W3.out.below hb)
                      clear hb fX3 fX4 fX5 fX6
                      have fX2 := X4.out.get 2 _ rfl
                      have fX7 := X4.out.get 7 _ rfl
                      have fX8 := X4.out.get 8 _ rfl
                      have fX9 := X4.out.get 9 _ rfl
                      have fX10 := X4.out.get 10 _ rfl
                      have fX11 := X4.out.get 11 _ rfl
                      have fX12 := X4.out.get 12 _ rfl
                      have fX13 := X4.out.get 13 _ rfl
                      have fX14 := X4.out.get 14 _ rfl
                      have fX15 := X4.out.get 15 _ rfl
                      have fX24 := X4.out.get 24 _ rfl
                      go_wp2_with (fail)
                      refine (drightC r.c R4.out W4.out F).mono ?_
                      rintro e w5 ⟨rfl, hb⟩
                      have B5 := Lib.hid (below_on B4.out hb)
                      have X5 := Lib.hid (X4.out.on hb)
                      have R5 := Lib.hid (R4.out.below hb)
                      have W5 := Lib.hid (W4.out.below hb)
                      clear hb fX2 fX7 fX8 fX9 fX10 fX11 fX12 fX13 fX14 fX15 fX24
                      have fX16 := X5.out.get 16 _ rfl
                      go_wp2
                      go_ret
                      exact ⟨ret_bool HE.out.symm, B5.out⟩
                  · skip
                    have HE := Lib.hid (show M.drightR r = false by unfold M.drightR M.dtail M.zero7; simp [*])
                    clear e5
                    have E4 := Lib.hid e4
                    clear e4
                    go_enter Try.func13, Try.ntmps13
                    go_wp2_with (fail)
                    refine (refInst_any _ _ _).mono ?_
                    rintro e w1 ⟨rfl, hb⟩
                    have B1 := Lib.hid (below_on B0.out hb)
                    have X1 := Lib.hid (X0.out.on hb)
                    have R1 := Lib.hid (R0.out.below hb)
                    have W1 := Lib.hid (W0.out.below hb)
                    clear hb
                    have e4 := E4.out
                    have fX3 := X1.out.get 3 _ rfl
                    have fX4 := X1.out.get 4 _ rfl
                    go_wp2_with (fail)
                    refine (refBallot_any _ _ _).mono ?_
                    rintro e w2 ⟨rfl, hb⟩
                    have B2 := Lib.hid (below_on B1.out hb)
                    have X2 := Lib.hid (X1.out.on hb)
                    have R2 := Lib.hid (R1.out.below hb)
                    have W2 := Lib.hid (W1.out.below hb)
                    clear hb fX3 fX4
                    have fX5 := X2.out.get 5 _ rfl
                    have fX6 := X2.out.get 6 _ rfl
                    go_wp2_with (fail)
                    refine (refBallot_any _ _ _).mono ?_
                    rintro e w3 ⟨rfl, hb⟩
                    have B3 := Lib.hid (below_on B2.out hb)
                    have X3 := Lib.hid (X2.out.on hb)
                    have R3 := Lib.hid (R2.out.below hb)
                    have W3 := Lib.hid (W2.out.below hb)
                    clear hb fX5 fX6
                    have fX3 := X3.out.get 3 _ rfl
                    have fX4 := X3.out.get 4 _ rfl
                    have fX5 := X3.out.get 5 _ rfl
                    have fX6 := X3.out.get 6 _ rfl
                    go_wp2_with (fail)
                    refine (dlower_any _ _ _ _ _).mono ?_
                    rintro e w4 ⟨rfl, hb⟩
                    have B4 := Lib.hid (below_on B3.out hb)
                    have X4 := Lib.hid (X3.out.on hb)
                    have R4 := Lib.hid (R3.out.below hb)
                    have W4 := Lib.hid (W3.out.below hb)
                    clear hb fX3 fX4 fX5 fX6
                    have fX2 := X4.out.get 2 _ rfl
                    have fX7 := X4.out.get 7 _ rfl
                    have fX8 := X4.out.get 8 _ rfl
                    have fX9 := X4.out.get 9 _ rfl
                    have fX10 := X4.out.get 10 _ rfl
                    have fX11 := X4.out.get 11 _ rfl
                    have fX12 := X4.out.get 12 _ rfl
                    have fX13 := X4.out.get 13 _ rfl
                    have fX14 := X4.out.get 14 _ rfl
                    have fX15 := X4.out.get 15 _ rfl
                    have fX24 := X4.out.get 24 _ rfl
                    go_wp2_with (fail)
                    refine (drightC r.c R4.out W4.out F).mono ?_
                    rintro e w5 ⟨rfl, hb⟩
                    have B5 := Lib.hid (below_on B4.out hb)
                    have X5 := Lib.hid (X4.out.on hb)
                    have R5 := Lib.hid (R4.out.below hb)
                    have W5 := Lib.hid (W4.out.below hb)
                    clear hb fX2 fX7 fX8 fX9 fX10 fX11 fX12 fX13 fX14 fX15 fX24
                    go_wp2
                    go_ret
                    exact ⟨ret_bool HE.out.symm, B5.out⟩
                · skip
                  have HE := Lib.hid (show M.drightR r = false by unfold M.drightR M.dtail M.zero7; simp [*])
                  clear e5
                  have E4 := Lib.hid e4
                  clear e4
                  go_enter Try.func13, Try.ntmps13
                  go_wp2_with (fail)
                  refine (refInst_any _ _ _).mono ?_
                  rintro e w1 ⟨rfl, hb⟩
                  have B1 := Lib.hid (below_on B0.out hb)
                  have X1 := Lib.hid (X0.out.on hb)
                  have R1 := Lib.hid (R0.out.below hb)
                  have W1 := Lib.hid (W0.out.below hb)
                  clear hb
                  have e4 := E4.out
                  have fX3 := X1.out.get 3 _ rfl
                  have fX4 := X1.out.get 4 _ rfl
                  go_wp2_with (fail)
                  refine (refBallot_any _ _ _).mono ?_
                  rintro e w2 ⟨rfl, hb⟩
                  have B2 := Lib.hid (below_on B1.out hb)
                  have X2 := Lib.hid (X1.out.on hb)
                  have R2 := Lib.hid (R1.out.below hb)
                  have W2 := Lib.hid (W1.out.below hb)
                  clear hb fX3 fX4
                  have fX5 := X2.out.get 5 _ rfl
                  have fX6 := X2.out.get 6 _ rfl
                  go_wp2_with (fail)
                  refine (refBallot_any _ _ _).mono ?_
                  rintro e w3 ⟨rfl, hb⟩
                  have B3 := Lib.hid (below_on B2.out hb)
                  have X3 := Lib.hid (X2.out.on hb)
                  have R3 := Lib.hid (R2.out.below hb)
                  have W3 := Lib.hid (W2.out.below hb)
                  clear hb fX5 fX6
                  have fX3 := X3.out.get 3 _ rfl
                  have fX4 := X3.out.get 4 _ rfl
                  have fX5 := X3.out.get 5 _ rfl
                  have fX6 := X3.out.get 6 _ rfl
                  go_wp2_with (fail)
                  refine (dlower_any _ _ _ _ _).mono ?_
                  rintro e w4 ⟨rfl, hb⟩
                  have B4 := Lib.hid (below_on B3.out hb)
                  have X4 := Lib.hid (X3.out.on hb)
                  have R4 := Lib.hid (R3.out.below hb)
                  have W4 := Lib.hid (W3.out.below hb)
                  clear hb fX3 fX4 fX5 fX6
                  have fX2 := X4.out.get 2 _ rfl
                  have fX24 := X4.out.get 24 _ rfl
                  go_wp2
                  go_ret
                  exact ⟨ret_bool HE.out.symm, B4.out⟩
              · skip
                have HE := Lib.hid (show M.drightR r = false by unfold M.drightR M.dtail M.zero7; simp [*])
                clear e5
                have E4 := Lib.hid e4
                clear e4
                go_enter Try.func13, Try.ntmps13
                go_wp2_with (fail)
                refine (refInst_any _ _ _).mono ?_
                rintro e w1 ⟨rfl, hb⟩
                have B1 := Lib.hid (below_on B0.out hb)
                have X1 := Lib.hid (X0.out.on hb)
                have R1 := Lib.hid (R0.out.below hb)
                have W1 := Lib.hid (W0.out.below hb)
                clear hb
                have e4 := E4.out
                have fX3 := X1.out.get 3 _ rfl
                have fX4 := X1.out.get 4 _ rfl
                go_wp2_with (fail)
                refine (refBallot_any _ _ _).mono ?_
                rintro e w2 ⟨rfl, hb⟩
                have B2 := Lib.hid (below_on B1.out hb)
                have X2 := Lib.hid (X1.out.on hb)
                have R2 := Lib.hid (R1.out.below hb)
                have W2 := Lib.hid (W1.out.below hb)
                clear hb fX3 fX4
                have fX5 := X2.out.get 5 _ rfl
                have fX6 := X2.out.get 6 _ rfl
                go_wp2_with (fail)
                refine (refBallot_any _ _ _).mono ?_
                rintro e w3 ⟨rfl, hb⟩
                have B3 := Lib.hid (below_on B2.out hb)
                have X3 := Lib.hid (X2.out.on hb)
                have R3 := Lib.hid (R2.out.below hb)
                have W3 := Lib.hid (W2.out.below hb)
                clear hb fX5 fX6
                have fX3 := X3.out.get 3 _ rfl
                have fX4 := X3.out.get 4 _ rfl
                have fX5 := X3.out.get 5 _ rfl
                have fX6 := X3.out.get 6 _ rfl
                go_wp2_with (fail)
                refine (dlower_any _ _ _ _ _).mono ?_
                rintro e w4 ⟨rfl, hb⟩
                have B4 := Lib.hid (below_on B3.out hb)
                have X4 := Lib.hid (X3.out.on hb)
                have R4 := Lib.hid (R3.out.below hb)
                have W4 := Lib.hid (W3.out.below hb)
                clear hb fX3 fX4 fX5 fX6
                have fX2 := X4.out.get 2 _ rfl
                have fX24 := X4.out.get 24 _ rfl
                go_wp2
                go_ret
                exact ⟨ret_bool HE.out.symm, B4.out⟩
      · skip
        have HE := Lib.hid (show M.drightR r = false by unfold M.drightR M.dtail M.zero7; simp [*])
        go_enter Try.func13, Try.ntmps13
        go_wp2_with (fail)
        refine (refInst_any _ _ _).mono ?_
        rintro e w1 ⟨rfl, hb⟩
        have B1 := Lib.hid (below_on B0.out hb)
        have X1 := Lib.hid (X0.out.on hb)
        have R1 := Lib.hid (R0.out.below hb)
        have W1 := Lib.hid (W0.out.below hb)
        clear hb
        have fX3 := X1.out.get 3 _ rfl
        have fX4 := X1.out.get 4 _ rfl
        go_wp2_with (fail)
        refine (refBallot_any _ _ _).mono ?_
        rintro e w2 ⟨rfl, hb⟩
        have B2 := Lib.hid (below_on B1.out hb)
        have X2 := Lib.hid (X1.out.on hb)
        have R2 := Lib.hid (R1.out.below hb)
        have W2 := Lib.hid (W1.out.below hb)
        clear hb fX3 fX4
        have fX5 := X2.out.get 5 _ rfl
        have fX6 := X2.out.get 6 _ rfl
        go_wp2_with (fail)
        refine (refBallot_any _ _ _).mono ?_
        rintro e w3 ⟨rfl, hb⟩
        have B3 := Lib.hid (below_on B2.out hb)
        have X3 := Lib.hid (X2.out.on hb)
        have R3 := Lib.hid (R2.out.below hb)
        have W3 := Lib.hid (W2.out.below hb)
        clear hb fX5 fX6
        go_wp2
        go_ret
        exact ⟨ret_bool HE.out.symm, B3.out⟩
    · skip
      have HE := Lib.hid (show M.drightR r = false by unfold M.drightR M.dtail M.zero7; simp [*])
      go_enter Try.func13, Try.ntmps13
      go_wp2_with (fail)
      refine (refInst_any _ _ _).mono ?_
      rintro e w1 ⟨rfl, hb⟩
      have B1 := Lib.hid (below_on B0.out hb)
      have X1 := Lib.hid (X0.out.on hb)
      have R1 := Lib.hid (R0.out.below hb)
      have W1 := Lib.hid (W0.out.below hb)
      clear hb
      have fX3 := X1.out.get 3 _ rfl
      have fX4 := X1.out.get 4 _ rfl
      go_wp2_with (fail)
      refine (refBallot_any _ _ _).mono ?_
      rintro e w2 ⟨rfl, hb⟩
      have B2 := Lib.hid (below_on B1.out hb)
      have X2 := Lib.hid (X1.out.on hb)
      have R2 := Lib.hid (R1.out.below hb)
      have W2 := Lib.hid (W1.out.below hb)
      clear hb fX3 fX4
      go_wp2
      go_ret
      exact ⟨ret_bool HE.out.symm, B2.out⟩
  · skip
    have HE := Lib.hid (show M.drightR r = false by unfold M.drightR M.dtail M.zero7; simp [*])
    go_enter Try.func13, Try.ntmps13
    go_wp2_with (fail)
    refine (refInst_any _ _ _).mono ?_
    rintro e w1 ⟨rfl, hb⟩
    have B1 := Lib.hid (below_on B0.out hb)
    have X1 := Lib.hid (X0.out.on hb)
    have R1 := Lib.hid (R0.out.below hb)
    have W1 := Lib.hid (W0.out.below hb)
    clear hb
    go_wp2
    go_ret
    exact ⟨ret_bool HE.out.symm, B1.out⟩

namespace M
theorem ord_anti {a b c d : Int} : decide (ord a b c d ≤ 0) = !decide (ord c d a b < 0) := by
  unfold ord
  by_cases h1 : a < c
  · have : ¬ c < a := by omega
    simp [h1, this]
  · by_cases h2 : c < a
    · simp [h1, h2]
    · by_cases h3 : b < d
      · have : ¬ d < b := by omega
        simp [h1, h2, h3, this]
      · by_cases h4 : d < b
        · simp [h1, h2, h3, h4]
        · simp [h1, h2, h3, h4]
end M
end Go.Proofs.Ytagngbdlpdilnaa
