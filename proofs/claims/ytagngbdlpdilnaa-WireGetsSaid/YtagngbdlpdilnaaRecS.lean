/- Contracts of SameRecord and of the document's Same and SameMessage; no conditions but the lengths that they name. -/
import Derived.Test.YtagngbdlpdilnaaFresh
import Derived.Test.YtagngbdlpdilnaaBase
import Derived.Test.YtagngbdlpdilnaaCmdsO
namespace Go.Proofs.Ytagngbdlpdilnaa
open Go.ChangeShapes Go.WideShapes Go.ChangeAt Go.RowKit

theorem run_same_inst (w : World) (t c a d : Int) : (Op.equalIn 10000 23 (.agg #[.int .i64 t, .int .i64 c]) (.agg #[.int .i64 a, .int .i64 d])).run Try.prog w = .ok (M.eq2 t c a d) w := by
  unfold M.eq2
  by_cases h2 : t = a <;> by_cases h3 : c = d <;> go_simp
theorem run_same_ballot (w : World) (t c a d : Int) : (Op.equalIn 10000 25 (.agg #[.int .i64 t, .int .i64 c]) (.agg #[.int .i64 a, .int .i64 d])).run Try.prog w = .ok (M.eq2 t c a d) w := by
  unfold M.eq2
  by_cases h2 : t = a <;> by_cases h3 : c = d <;> go_simp
attribute [local go_sem ↓] run_same7 run_same_inst run_same_ballot

namespace M
def sameRec (a b : Rec) : Bool := eq2 a.ir a.is b.ir b.is && (decide (a.st = b.st) && (eq2 a.pn a.pr b.pn b.pr && (eq2 a.bn a.br b.bn b.br && (sameC a.c b.c && (decide (a.sq = b.sq) && (V7.same7 a.d0 a.d1 a.d2 a.d3 a.d4 a.d5 a.d6 b.d0 b.d1 b.d2 b.d3 b.d4 b.d5 b.d6 && (a.kp == b.kp)))))))
def sameMsg (a b : Msg) : Bool := decide (a.k = b.k) && (decide (a.fr = b.fr) && (decide (a.to = b.to) && (eq2 a.bn a.br b.bn b.br && sameRec a.r b.r)))
end M

set_option maxHeartbeats 4000000 in
set_option maxRecDepth 100000 in
theorem same_rec {w : World} (a b : M.Rec) {va vb ua ub : Value} (h : Rds w va a.c.rs) (h' : Wrs w vb a.c.ws) (g : Rds w ua b.c.rs) (g' : Wrs w ub b.c.ws) (hl : a.c.rs.length ≤ 1000) (hl' : a.c.ws.length ≤ 1000) :
    Calls Try.prog 16 #[.agg #[.int .i64 a.ir, .int .i64 a.is, .int .i64 a.st, .int .i64 a.pn, .int .i64 a.pr, .int .i64 a.bn, .int .i64 a.br, .int .i64 a.c.k, .int .i64 a.c.tc, .int .i64 a.c.tn, .int .i64 a.c.tt, .int .i64 a.c.tk, .int .i64 a.c.sh, va, vb, .bool a.c.cm, .int .i64 a.sq, .int .i64 a.d0, .int .i64 a.d1, .int .i64 a.d2, .int .i64 a.d3, .int .i64 a.d4, .int .i64 a.d5, .int .i64 a.d6, .bool a.kp], .agg #[.int .i64 b.ir, .int .i64 b.is, .int .i64 b.st, .int .i64 b.pn, .int .i64 b.pr, .int .i64 b.bn, .int .i64 b.br, .int .i64 b.c.k, .int .i64 b.c.tc, .int .i64 b.c.tn, .int .i64 b.c.tt, .int .i64 b.c.tk, .int .i64 b.c.sh, ua, ub, .bool b.c.cm, .int .i64 b.sq, .int .i64 b.d0, .int .i64 b.d1, .int .i64 b.d2, .int .i64 b.d3, .int .i64 b.d4, .int .i64 b.d5, .int .i64 b.d6, .bool b.kp]] w fun e w' => e = .returned (.bool (M.sameRec a b)) ∧ Below w.heap.size w w' := by
  have X0 := Lib.hid ((Cel.new w [.int .i64 a.ir, .int .i64 a.is, .int .i64 a.st, .int .i64 a.pn, .int .i64 a.pr, .int .i64 a.bn, .int .i64 a.br, .int .i64 a.c.k, .int .i64 a.c.tc, .int .i64 a.c.tn, .int .i64 a.c.tt, .int .i64 a.c.tk, .int .i64 a.c.sh, va, vb, .bool a.c.cm, .int .i64 a.sq, .int .i64 a.d0, .int .i64 a.d1, .int .i64 a.d2, .int .i64 a.d3, .int .i64 a.d4, .int .i64 a.d5, .int .i64 a.d6, .bool a.kp] 37).push (.cells #[.int .i64 b.ir, .int .i64 b.is, .int .i64 b.st, .int .i64 b.pn, .int .i64 b.pr, .int .i64 b.bn, .int .i64 b.br, .int .i64 b.c.k, .int .i64 b.c.tc, .int .i64 b.c.tn, .int .i64 b.c.tt, .int .i64 b.c.tk, .int .i64 b.c.sh, ua, ub, .bool b.c.cm, .int .i64 b.sq, .int .i64 b.d0, .int .i64 b.d1, .int .i64 b.d2, .int .i64 b.d3, .int .i64 b.d4, .int .i64 b.d5, .int .i64 b.d6, .bool b.kp] 37))
  have Y0 := Lib.hid (Cel.new1 w (.cells #[.int .i64 a.ir, .int .i64 a.is, .int .i64 a.st, .int .i64 a.pn, .int .i64 a.pr, .int .i64 a.bn, .int .i64 a.br, .int .i64 a.c.k, .int .i64 a.c.tc, .int .i64 a.c.tn, .int .i64 a.c.tt, .int .i64 a.c.tk, .int .i64 a.c.sh, va, vb, .bool a.c.cm, .int .i64 a.sq, .int .i64 a.d0, .int .i64 a.d1, .int .i64 a.d2, .int .i64 a.d3, .int .i64 a.d4, .int .i64 a.d5, .int .i64 a.d6, .bool a.kp] 37) [.int .i64 b.ir, .int .i64 b.is, .int .i64 b.st, .int .i64 b.pn, .int .i64 b.pr, .int .i64 b.bn, .int .i64 b.br, .int .i64 b.c.k, .int .i64 b.c.tc, .int .i64 b.c.tn, .int .i64 b.c.tt, .int .i64 b.c.tk, .int .i64 b.c.sh, ua, ub, .bool b.c.cm, .int .i64 b.sq, .int .i64 b.d0, .int .i64 b.d1, .int .i64 b.d2, .int .i64 b.d3, .int .i64 b.d4, .int .i64 b.d5, .int .i64 b.d6, .bool b.kp] 37)
  have R0 := Lib.hid ((h.push (.cells #[.int .i64 a.ir, .int .i64 a.is, .int .i64 a.st, .int .i64 a.pn, .int .i64 a.pr, .int .i64 a.bn, .int .i64 a.br, .int .i64 a.c.k, .int .i64 a.c.tc, .int .i64 a.c.tn, .int .i64 a.c.tt, .int .i64 a.c.tk, .int .i64 a.c.sh, va, vb, .bool a.c.cm, .int .i64 a.sq, .int .i64 a.d0, .int .i64 a.d1, .int .i64 a.d2, .int .i64 a.d3, .int .i64 a.d4, .int .i64 a.d5, .int .i64 a.d6, .bool a.kp] 37)).push (.cells #[.int .i64 b.ir, .int .i64 b.is, .int .i64 b.st, .int .i64 b.pn, .int .i64 b.pr, .int .i64 b.bn, .int .i64 b.br, .int .i64 b.c.k, .int .i64 b.c.tc, .int .i64 b.c.tn, .int .i64 b.c.tt, .int .i64 b.c.tk, .int .i64 b.c.sh, ua, ub, .bool b.c.cm, .int .i64 b.sq, .int .i64 b.d0, .int .i64 b.d1, .int .i64 b.d2, .int .i64 b.d3, .int .i64 b.d4, .int .i64 b.d5, .int .i64 b.d6, .bool b.kp] 37))
  have W0 := Lib.hid ((h'.push (.cells #[.int .i64 a.ir, .int .i64 a.is, .int .i64 a.st, .int .i64 a.pn, .int .i64 a.pr, .int .i64 a.bn, .int .i64 a.br, .int .i64 a.c.k, .int .i64 a.c.tc, .int .i64 a.c.tn, .int .i64 a.c.tt, .int .i64 a.c.tk, .int .i64 a.c.sh, va, vb, .bool a.c.cm, .int .i64 a.sq, .int .i64 a.d0, .int .i64 a.d1, .int .i64 a.d2, .int .i64 a.d3, .int .i64 a.d4, .int .i64 a.d5, .int .i64 a.d6, .bool a.kp] 37)).push (.cells #[.int .i64 b.ir, .int .i64 b.is, .int .i64 b.st, .int .i64 b.pn, .int .i64 b.pr, .int .i64 b.bn, .int .i64 b.br, .int .i64 b.c.k, .int .i64 b.c.tc, .int .i64 b.c.tn, .int .i64 b.c.tt, .int .i64 b.c.tk, .int .i64 b.c.sh, ua, ub, .bool b.c.cm, .int .i64 b.sq, .int .i64 b.d0, .int .i64 b.d1, .int .i64 b.d2, .int .i64 b.d3, .int .i64 b.d4, .int .i64 b.d5, .int .i64 b.d6, .bool b.kp] 37))
  have S0 := Lib.hid ((g.push (.cells #[.int .i64 a.ir, .int .i64 a.is, .int .i64 a.st, .int .i64 a.pn, .int .i64 a.pr, .int .i64 a.bn, .int .i64 a.br, .int .i64 a.c.k, .int .i64 a.c.tc, .int .i64 a.c.tn, .int .i64 a.c.tt, .int .i64 a.c.tk, .int .i64 a.c.sh, va, vb, .bool a.c.cm, .int .i64 a.sq, .int .i64 a.d0, .int .i64 a.d1, .int .i64 a.d2, .int .i64 a.d3, .int .i64 a.d4, .int .i64 a.d5, .int .i64 a.d6, .bool a.kp] 37)).push (.cells #[.int .i64 b.ir, .int .i64 b.is, .int .i64 b.st, .int .i64 b.pn, .int .i64 b.pr, .int .i64 b.bn, .int .i64 b.br, .int .i64 b.c.k, .int .i64 b.c.tc, .int .i64 b.c.tn, .int .i64 b.c.tt, .int .i64 b.c.tk, .int .i64 b.c.sh, ua, ub, .bool b.c.cm, .int .i64 b.sq, .int .i64 b.d0, .int .i64 b.d1, .int .i64 b.d2, .int .i64 b.d3, .int .i64 b.d4, .int .i64 b.d5, .int .i64 b.d6, .bool b.kp] 37))
  have V0 := Lib.hid ((g'.push (.cells #[.int .i64 a.ir, .int .i64 a.is, .int .i64 a.st, .int .i64 a.pn, .int .i64 a.pr, .int .i64 a.bn, .int .i64 a.br, .int .i64 a.c.k, .int .i64 a.c.tc, .int .i64 a.c.tn, .int .i64 a.c.tt, .int .i64 a.c.tk, .int .i64 a.c.sh, va, vb, .bool a.c.cm, .int .i64 a.sq, .int .i64 a.d0, .int .i64 a.d1, .int .i64 a.d2, .int .i64 a.d3, .int .i64 a.d4, .int .i64 a.d5, .int .i64 a.d6, .bool a.kp] 37)).push (.cells #[.int .i64 b.ir, .int .i64 b.is, .int .i64 b.st, .int .i64 b.pn, .int .i64 b.pr, .int .i64 b.bn, .int .i64 b.br, .int .i64 b.c.k, .int .i64 b.c.tc, .int .i64 b.c.tn, .int .i64 b.c.tt, .int .i64 b.c.tk, .int .i64 b.c.sh, ua, ub, .bool b.c.cm, .int .i64 b.sq, .int .i64 b.d0, .int .i64 b.d1, .int .i64 b.d2, .int .i64 b.d3, .int .i64 b.d4, .int .i64 b.d5, .int .i64 b.d6, .bool b.kp] 37))
  have B0 := Lib.hid (below_new (o := .cells #[.int .i64 b.ir, .int .i64 b.is, .int .i64 b.st, .int .i64 b.pn, .int .i64 b.pr, .int .i64 b.bn, .int .i64 b.br, .int .i64 b.c.k, .int .i64 b.c.tc, .int .i64 b.c.tn, .int .i64 b.c.tt, .int .i64 b.c.tk, .int .i64 b.c.sh, ua, ub, .bool b.c.cm, .int .i64 b.sq, .int .i64 b.d0, .int .i64 b.d1, .int .i64 b.d2, .int .i64 b.d3, .int .i64 b.d4, .int .i64 b.d5, .int .i64 b.d6, .bool b.kp] 37) (below_new (o := .cells #[.int .i64 a.ir, .int .i64 a.is, .int .i64 a.st, .int .i64 a.pn, .int .i64 a.pr, .int .i64 a.bn, .int .i64 a.br, .int .i64 a.c.k, .int .i64 a.c.tc, .int .i64 a.c.tn, .int .i64 a.c.tt, .int .i64 a.c.tk, .int .i64 a.c.sh, va, vb, .bool a.c.cm, .int .i64 a.sq, .int .i64 a.d0, .int .i64 a.d1, .int .i64 a.d2, .int .i64 a.d3, .int .i64 a.d4, .int .i64 a.d5, .int .i64 a.d6, .bool a.kp] 37) (Below.refl w.heap.size w)))
  clear h h' g g'
  rcases two (M.eq2 a.ir a.is b.ir b.is) with e0 | e0
  · skip
    by_cases e1 : a.st = b.st
    · obtain ⟨q1a, q1b⟩ := eqI e1
      rcases two (M.eq2 a.pn a.pr b.pn b.pr) with e2 | e2
      · skip
        rcases two (M.eq2 a.bn a.br b.bn b.br) with e3 | e3
        · skip
          rcases two (M.sameC a.c b.c) with e4 | e4
          · skip
            by_cases e5 : a.sq = b.sq
            · obtain ⟨q5a, q5b⟩ := eqI e5
              rcases two (V7.same7 a.d0 a.d1 a.d2 a.d3 a.d4 a.d5 a.d6 b.d0 b.d1 b.d2 b.d3 b.d4 b.d5 b.d6) with e6 | e6
              · skip
                have HE := Lib.hid (show M.sameRec a b = (a.kp == b.kp) by simp [M.sameRec, e0, e1, e2, e3, e4, e5, e6])
                clear e1 e5
                go_enter Try.func16, Try.ntmps16
                go_wp2_with (fail)
                refine (same_cmd a.c b.c R0.out W0.out S0.out V0.out hl hl').mono ?_
                rintro e w1 ⟨rfl, hb⟩
                have B1 := Lib.hid (below_on B0.out hb)
                have X1 := Lib.hid (X0.out.on hb)
                have Y1 := Lib.hid (Y0.out.on hb)
                have R1 := Lib.hid (R0.out.below hb)
                have W1 := Lib.hid (W0.out.below hb)
                have S1 := Lib.hid (S0.out.below hb)
                have V1 := Lib.hid (V0.out.below hb)
                clear hb
                have fX16 := X1.out.get 16 _ rfl
                have fX17 := X1.out.get 17 _ rfl
                have fX18 := X1.out.get 18 _ rfl
                have fX19 := X1.out.get 19 _ rfl
                have fX20 := X1.out.get 20 _ rfl
                have fX21 := X1.out.get 21 _ rfl
                have fX22 := X1.out.get 22 _ rfl
                have fX23 := X1.out.get 23 _ rfl
                have fX24 := X1.out.get 24 _ rfl
                have fY16 := Y1.out.get 16 _ rfl
                have fY17 := Y1.out.get 17 _ rfl
                have fY18 := Y1.out.get 18 _ rfl
                have fY19 := Y1.out.get 19 _ rfl
                have fY20 := Y1.out.get 20 _ rfl
                have fY21 := Y1.out.get 21 _ rfl
                have fY22 := Y1.out.get 22 _ rfl
                have fY23 := Y1.out.get 23 _ rfl
                have fY24 := Y1.out.get 24 _ rfl
                go_wp2
                go_ret
                exact ⟨ret_bool HE.out.symm, B1.out⟩
              · skip
                have HE := Lib.hid (show M.sameRec a b = false by simp [M.sameRec, e0, e1, e2, e3, e4, e5, e6])
                clear e1 e5
                go_enter Try.func16, Try.ntmps16
                go_wp2_with (fail)
                refine (same_cmd a.c b.c R0.out W0.out S0.out V0.out hl hl').mono ?_
                rintro e w1 ⟨rfl, hb⟩
                have B1 := Lib.hid (below_on B0.out hb)
                have X1 := Lib.hid (X0.out.on hb)
                have Y1 := Lib.hid (Y0.out.on hb)
                have R1 := Lib.hid (R0.out.below hb)
                have W1 := Lib.hid (W0.out.below hb)
                have S1 := Lib.hid (S0.out.below hb)
                have V1 := Lib.hid (V0.out.below hb)
                clear hb
                have fX16 := X1.out.get 16 _ rfl
                have fX17 := X1.out.get 17 _ rfl
                have fX18 := X1.out.get 18 _ rfl
                have fX19 := X1.out.get 19 _ rfl
                have fX20 := X1.out.get 20 _ rfl
                have fX21 := X1.out.get 21 _ rfl
                have fX22 := X1.out.get 22 _ rfl
                have fX23 := X1.out.get 23 _ rfl
                have fY16 := Y1.out.get 16 _ rfl
                have fY17 := Y1.out.get 17 _ rfl
                have fY18 := Y1.out.get 18 _ rfl
                have fY19 := Y1.out.get 19 _ rfl
                have fY20 := Y1.out.get 20 _ rfl
                have fY21 := Y1.out.get 21 _ rfl
                have fY22 := Y1.out.get 22 _ rfl
                have fY23 := Y1.out.get 23 _ rfl
                go_wp2
                go_ret
                exact ⟨ret_bool HE.out.symm, B1.out⟩
            · obtain ⟨q5a, q5b⟩ := neI e5
              have HE := Lib.hid (show M.sameRec a b = false by simp [M.sameRec, e0, e1, e2, e3, e4, e5])
              clear e1 e5
              go_enter Try.func16, Try.ntmps16
              go_wp2_with (fail)
              refine (same_cmd a.c b.c R0.out W0.out S0.out V0.out hl hl').mono ?_
              rintro e w1 ⟨rfl, hb⟩
              have B1 := Lib.hid (below_on B0.out hb)
              have X1 := Lib.hid (X0.out.on hb)
              have Y1 := Lib.hid (Y0.out.on hb)
              have R1 := Lib.hid (R0.out.below hb)
              have W1 := Lib.hid (W0.out.below hb)
              have S1 := Lib.hid (S0.out.below hb)
              have V1 := Lib.hid (V0.out.below hb)
              clear hb
              have fX16 := X1.out.get 16 _ rfl
              have fY16 := Y1.out.get 16 _ rfl
              go_wp2
              go_ret
              exact ⟨ret_bool HE.out.symm, B1.out⟩
          · skip
            have HE := Lib.hid (show M.sameRec a b = false by simp [M.sameRec, e0, e1, e2, e3, e4])
            clear e1
            go_enter Try.func16, Try.ntmps16
            go_wp2_with (fail)
            refine (same_cmd a.c b.c R0.out W0.out S0.out V0.out hl hl').mono ?_
            rintro e w1 ⟨rfl, hb⟩
            have B1 := Lib.hid (below_on B0.out hb)
            have X1 := Lib.hid (X0.out.on hb)
            have Y1 := Lib.hid (Y0.out.on hb)
            have R1 := Lib.hid (R0.out.below hb)
            have W1 := Lib.hid (W0.out.below hb)
            have S1 := Lib.hid (S0.out.below hb)
            have V1 := Lib.hid (V0.out.below hb)
            clear hb
            go_wp2
            go_ret
            exact ⟨ret_bool HE.out.symm, B1.out⟩
        · skip
          have HE := Lib.hid (show M.sameRec a b = false by simp [M.sameRec, e0, e1, e2, e3])
          clear e1
          go_enter Try.func16, Try.ntmps16
          go_wp2
          go_ret
          exact ⟨ret_bool HE.out.symm, B0.out⟩
      · skip
        have HE := Lib.hid (show M.sameRec a b = false by simp [M.sameRec, e0, e1, e2])
        clear e1
        go_enter Try.func16, Try.ntmps16
        go_wp2
        go_ret
        exact ⟨ret_bool HE.out.symm, B0.out⟩
    · obtain ⟨q1a, q1b⟩ := neI e1
      have HE := Lib.hid (show M.sameRec a b = false by simp [M.sameRec, e0, e1])
      clear e1
      go_enter Try.func16, Try.ntmps16
      go_wp2
      go_ret
      exact ⟨ret_bool HE.out.symm, B0.out⟩
  · skip
    have HE := Lib.hid (show M.sameRec a b = false by simp [M.sameRec, e0])
    go_enter Try.func16, Try.ntmps16
    go_wp2
    go_ret
    exact ⟨ret_bool HE.out.symm, B0.out⟩

set_option maxHeartbeats 4000000 in
set_option maxRecDepth 100000 in
theorem dsame_rec {w : World} (a b : M.Rec) {va vb ua ub : Value} (h : Rds w va a.c.rs) (h' : Wrs w vb a.c.ws) (g : Rds w ua b.c.rs) (g' : Wrs w ub b.c.ws) (hl : a.c.rs.length ≤ 1000) (hl' : a.c.ws.length ≤ 1000) :
    Calls Try.prog 17 #[.agg #[.int .i64 a.ir, .int .i64 a.is, .int .i64 a.st, .int .i64 a.pn, .int .i64 a.pr, .int .i64 a.bn, .int .i64 a.br, .int .i64 a.c.k, .int .i64 a.c.tc, .int .i64 a.c.tn, .int .i64 a.c.tt, .int .i64 a.c.tk, .int .i64 a.c.sh, va, vb, .bool a.c.cm, .int .i64 a.sq, .int .i64 a.d0, .int .i64 a.d1, .int .i64 a.d2, .int .i64 a.d3, .int .i64 a.d4, .int .i64 a.d5, .int .i64 a.d6, .bool a.kp], .agg #[.int .i64 b.ir, .int .i64 b.is, .int .i64 b.st, .int .i64 b.pn, .int .i64 b.pr, .int .i64 b.bn, .int .i64 b.br, .int .i64 b.c.k, .int .i64 b.c.tc, .int .i64 b.c.tn, .int .i64 b.c.tt, .int .i64 b.c.tk, .int .i64 b.c.sh, ua, ub, .bool b.c.cm, .int .i64 b.sq, .int .i64 b.d0, .int .i64 b.d1, .int .i64 b.d2, .int .i64 b.d3, .int .i64 b.d4, .int .i64 b.d5, .int .i64 b.d6, .bool b.kp]] w fun e w' => e = .returned (.bool (M.sameRec a b)) ∧ Below w.heap.size w w' := by
  have X0 := Lib.hid ((Cel.new w [.int .i64 a.ir, .int .i64 a.is, .int .i64 a.st, .int .i64 a.pn, .int .i64 a.pr, .int .i64 a.bn, .int .i64 a.br, .int .i64 a.c.k, .int .i64 a.c.tc, .int .i64 a.c.tn, .int .i64 a.c.tt, .int .i64 a.c.tk, .int .i64 a.c.sh, va, vb, .bool a.c.cm, .int .i64 a.sq, .int .i64 a.d0, .int .i64 a.d1, .int .i64 a.d2, .int .i64 a.d3, .int .i64 a.d4, .int .i64 a.d5, .int .i64 a.d6, .bool a.kp] 37).push (.cells #[.int .i64 b.ir, .int .i64 b.is, .int .i64 b.st, .int .i64 b.pn, .int .i64 b.pr, .int .i64 b.bn, .int .i64 b.br, .int .i64 b.c.k, .int .i64 b.c.tc, .int .i64 b.c.tn, .int .i64 b.c.tt, .int .i64 b.c.tk, .int .i64 b.c.sh, ua, ub, .bool b.c.cm, .int .i64 b.sq, .int .i64 b.d0, .int .i64 b.d1, .int .i64 b.d2, .int .i64 b.d3, .int .i64 b.d4, .int .i64 b.d5, .int .i64 b.d6, .bool b.kp] 37))
  have Y0 := Lib.hid (Cel.new1 w (.cells #[.int .i64 a.ir, .int .i64 a.is, .int .i64 a.st, .int .i64 a.pn, .int .i64 a.pr, .int .i64 a.bn, .int .i64 a.br, .int .i64 a.c.k, .int .i64 a.c.tc, .int .i64 a.c.tn, .int .i64 a.c.tt, .int .i64 a.c.tk, .int .i64 a.c.sh, va, vb, .bool a.c.cm, .int .i64 a.sq, .int .i64 a.d0, .int .i64 a.d1, .int .i64 a.d2, .int .i64 a.d3, .int .i64 a.d4, .int .i64 a.d5, .int .i64 a.d6, .bool a.kp] 37) [.int .i64 b.ir, .int .i64 b.is, .int .i64 b.st, .int .i64 b.pn, .int .i64 b.pr, .int .i64 b.bn, .int .i64 b.br, .int .i64 b.c.k, .int .i64 b.c.tc, .int .i64 b.c.tn, .int .i64 b.c.tt, .int .i64 b.c.tk, .int .i64 b.c.sh, ua, ub, .bool b.c.cm, .int .i64 b.sq, .int .i64 b.d0, .int .i64 b.d1, .int .i64 b.d2, .int .i64 b.d3, .int .i64 b.d4, .int .i64 b.d5, .int .i64 b.d6, .bool b.kp] 37)
  have R0 := Lib.hid ((h.push (.cells #[.int .i64 a.ir, .int .i64 a.is, .int .i64 a.st, .int .i64 a.pn, .int .i64 a.pr, .int .i64 a.bn, .int .i64 a.br, .int .i64 a.c.k, .int .i64 a.c.tc, .int .i64 a.c.tn, .int .i64 a.c.tt, .int .i64 a.c.tk, .int .i64 a.c.sh, va, vb, .bool a.c.cm, .int .i64 a.sq, .int .i64 a.d0, .int .i64 a.d1, .int .i64 a.d2, .int .i64 a.d3, .int .i64 a.d4, .int .i64 a.d5, .int .i64 a.d6, .bool a.kp] 37)).push (.cells #[.int .i64 b.ir, .int .i64 b.is, .int .i64 b.st, .int .i64 b.pn, .int .i64 b.pr, .int .i64 b.bn, .int .i64 b.br, .int .i64 b.c.k, .int .i64 b.c.tc, .int .i64 b.c.tn, .int .i64 b.c.tt, .int .i64 b.c.tk, .int .i64 b.c.sh, ua, ub, .bool b.c.cm, .int .i64 b.sq, .int .i64 b.d0, .int .i64 b.d1, .int .i64 b.d2, .int .i64 b.d3, .int .i64 b.d4, .int .i64 b.d5, .int .i64 b.d6, .bool b.kp] 37))
  have W0 := Lib.hid ((h'.push (.cells #[.int .i64 a.ir, .int .i64 a.is, .int .i64 a.st, .int .i64 a.pn, .int .i64 a.pr, .int .i64 a.bn, .int .i64 a.br, .int .i64 a.c.k, .int .i64 a.c.tc, .int .i64 a.c.tn, .int .i64 a.c.tt, .int .i64 a.c.tk, .int .i64 a.c.sh, va, vb, .bool a.c.cm, .int .i64 a.sq, .int .i64 a.d0, .int .i64 a.d1, .int .i64 a.d2, .int .i64 a.d3, .int .i64 a.d4, .int .i64 a.d5, .int .i64 a.d6, .bool a.kp] 37)).push (.cells #[.int .i64 b.ir, .int .i64 b.is, .int .i64 b.st, .int .i64 b.pn, .int .i64 b.pr, .int .i64 b.bn, .int .i64 b.br, .int .i64 b.c.k, .int .i64 b.c.tc, .int .i64 b.c.tn, .int .i64 b.c.tt, .int .i64 b.c.tk, .int .i64 b.c.sh, ua, ub, .bool b.c.cm, .int .i64 b.sq, .int .i64 b.d0, .int .i64 b.d1, .int .i64 b.d2, .int .i64 b.d3, .int .i64 b.d4, .int .i64 b.d5, .int .i64 b.d6, .bool b.kp] 37))
  have S0 := Lib.hid ((g.push (.cells #[.int .i64 a.ir, .int .i64 a.is, .int .i64 a.st, .int .i64 a.pn, .int .i64 a.pr, .int .i64 a.bn, .int .i64 a.br, .int .i64 a.c.k, .int .i64 a.c.tc, .int .i64 a.c.tn, .int .i64 a.c.tt, .int .i64 a.c.tk, .int .i64 a.c.sh, va, vb, .bool a.c.cm, .int .i64 a.sq, .int .i64 a.d0, .int .i64 a.d1, .int .i64 a.d2, .int .i64 a.d3, .int .i64 a.d4, .int .i64 a.d5, .int .i64 a.d6, .bool a.kp] 37)).push (.cells #[.int .i64 b.ir, .int .i64 b.is, .int .i64 b.st, .int .i64 b.pn, .int .i64 b.pr, .int .i64 b.bn, .int .i64 b.br, .int .i64 b.c.k, .int .i64 b.c.tc, .int .i64 b.c.tn, .int .i64 b.c.tt, .int .i64 b.c.tk, .int .i64 b.c.sh, ua, ub, .bool b.c.cm, .int .i64 b.sq, .int .i64 b.d0, .int .i64 b.d1, .int .i64 b.d2, .int .i64 b.d3, .int .i64 b.d4, .int .i64 b.d5, .int .i64 b.d6, .bool b.kp] 37))
  have V0 := Lib.hid ((g'.push (.cells #[.int .i64 a.ir, .int .i64 a.is, .int .i64 a.st, .int .i64 a.pn, .int .i64 a.pr, .int .i64 a.bn, .int .i64 a.br, .int .i64 a.c.k, .int .i64 a.c.tc, .int .i64 a.c.tn, .int .i64 a.c.tt, .int .i64 a.c.tk, .int .i64 a.c.sh, va, vb, .bool a.c.cm, .int .i64 a.sq, .int .i64 a.d0, .int .i64 a.d1, .int .i64 a.d2, .int .i64 a.d3, .int .i64 a.d4, .int .i64 a.d5, .int .i64 a.d6, .bool a.kp] 37)).push (.cells #[.int .i64 b.ir, .int .i64 b.is, .int .i64 b.st, .int .i64 b.pn, .int .i64 b.pr, .int .i64 b.bn, .int .i64 b.br, .int .i64 b.c.k, .int .i64 b.c.tc, .int .i64 b.c.tn, .int .i64 b.c.tt, .int .i64 b.c.tk, .int .i64 b.c.sh, ua, ub, .bool b.c.cm, .int .i64 b.sq, .int .i64 b.d0, .int .i64 b.d1, .int .i64 b.d2, .int .i64 b.d3, .int .i64 b.d4, .int .i64 b.d5, .int .i64 b.d6, .bool b.kp] 37))
  have B0 := Lib.hid (below_new (o := .cells #[.int .i64 b.ir, .int .i64 b.is, .int .i64 b.st, .int .i64 b.pn, .int .i64 b.pr, .int .i64 b.bn, .int .i64 b.br, .int .i64 b.c.k, .int .i64 b.c.tc, .int .i64 b.c.tn, .int .i64 b.c.tt, .int .i64 b.c.tk, .int .i64 b.c.sh, ua, ub, .bool b.c.cm, .int .i64 b.sq, .int .i64 b.d0, .int .i64 b.d1, .int .i64 b.d2, .int .i64 b.d3, .int .i64 b.d4, .int .i64 b.d5, .int .i64 b.d6, .bool b.kp] 37) (below_new (o := .cells #[.int .i64 a.ir, .int .i64 a.is, .int .i64 a.st, .int .i64 a.pn, .int .i64 a.pr, .int .i64 a.bn, .int .i64 a.br, .int .i64 a.c.k, .int .i64 a.c.tc, .int .i64 a.c.tn, .int .i64 a.c.tt, .int .i64 a.c.tk, .int .i64 a.c.sh, va, vb, .bool a.c.cm, .int .i64 a.sq, .int .i64 a.d0, .int .i64 a.d1, .int .i64 a.d2, .int .i64 a.d3, .int .i64 a.d4, .int .i64 a.d5, .int .i64 a.d6, .bool a.kp] 37) (Below.refl w.heap.size w)))
  clear h h' g g'
  rcases two (M.eq2 a.ir a.is b.ir b.is) with e0 | e0
  · skip
    by_cases e1 : a.st = b.st
    · obtain ⟨q1a, q1b⟩ := eqI e1
      rcases two (M.eq2 a.pn a.pr b.pn b.pr) with e2 | e2
      · skip
        rcases two (M.eq2 a.bn a.br b.bn b.br) with e3 | e3
        · skip
          by_cases e4 : a.sq = b.sq
          · obtain ⟨q4a, q4b⟩ := eqI e4
            rcases two (V7.same7 a.d0 a.d1 a.d2 a.d3 a.d4 a.d5 a.d6 b.d0 b.d1 b.d2 b.d3 b.d4 b.d5 b.d6) with e5 | e5
            · skip
              rcases two (a.kp == b.kp) with e6 | e6
              · skip
                have HE := Lib.hid (show M.sameRec a b = M.sameC a.c b.c by simp [M.sameRec, e0, e1, e2, e3, e4, e5, e6])
                clear e1 e4
                go_enter Try.func17, Try.ntmps17
                go_wp2_with (fail)
                refine (dsame_cmd a.c b.c R0.out W0.out S0.out V0.out hl hl').mono ?_
                rintro e w1 ⟨rfl, hb⟩
                have B1 := Lib.hid (below_on B0.out hb)
                have X1 := Lib.hid (X0.out.on hb)
                have Y1 := Lib.hid (Y0.out.on hb)
                have R1 := Lib.hid (R0.out.below hb)
                have W1 := Lib.hid (W0.out.below hb)
                have S1 := Lib.hid (S0.out.below hb)
                have V1 := Lib.hid (V0.out.below hb)
                clear hb
                go_wp2
                go_ret
                exact ⟨ret_bool HE.out.symm, B1.out⟩
              · skip
                have HE := Lib.hid (show M.sameRec a b = false by simp [M.sameRec, e0, e1, e2, e3, e4, e5, e6])
                clear e1 e4
                go_enter Try.func17, Try.ntmps17
                go_wp2
                go_ret
                exact ⟨ret_bool HE.out.symm, B0.out⟩
            · skip
              have HE := Lib.hid (show M.sameRec a b = false by simp [M.sameRec, e0, e1, e2, e3, e4, e5])
              clear e1 e4
              go_enter Try.func17, Try.ntmps17
              go_wp2
              go_ret
              exact ⟨ret_bool HE.out.symm, B0.out⟩
          · obtain ⟨q4a, q4b⟩ := neI e4
            have HE := Lib.hid (show M.sameRec a b = false by simp [M.sameRec, e0, e1, e2, e3, e4])
            clear e1 e4
            go_enter Try.func17, Try.ntmps17
            go_wp2
            go_ret
            exact ⟨ret_bool HE.out.symm, B0.out⟩
        · skip
          have HE := Lib.hid (show M.sameRec a b = false by simp [M.sameRec, e0, e1, e2, e3])
          clear e1
          go_enter Try.func17, Try.ntmps17
          go_wp2
          go_ret
          exact ⟨ret_bool HE.out.symm, B0.out⟩
      · skip
        have HE := Lib.hid (show M.sameRec a b = false by simp [M.sameRec, e0, e1, e2])
        clear e1
        go_enter Try.func17, Try.ntmps17
        go_wp2
        go_ret
        exact ⟨ret_bool HE.out.symm, B0.out⟩
    · obtain ⟨q1a, q1b⟩ := neI e1
      have HE := Lib.hid (show M.sameRec a b = false by simp [M.sameRec, e0, e1])
      clear e1
      go_enter Try.func17, Try.ntmps17
      go_wp2
      go_ret
      exact ⟨ret_bool HE.out.symm, B0.out⟩
  · skip
    have HE := Lib.hid (show M.sameRec a b = false by simp [M.sameRec, e0])
    go_enter Try.func17, Try.ntmps17
    go_wp2
    go_ret
    exact ⟨ret_bool HE.out.symm, B0.out⟩

end Go.Proofs.Ytagngbdlpdilnaa
