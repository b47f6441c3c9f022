/- The walk of WireRights; no conditions. -/
import Derived.Test.YtagngbdlpdilnaaFewN
namespace Go.Proofs.Ytagngbdlpdilnaa
open Go.ChangeShapes Go.WideShapes Go.ChangeAt Go.RowKit

namespace M
theorem sameC_refl (c : Cmd) : sameC c c = true := by simp [sameC, eq2, sameR, sameW]
theorem sameRec_refl (r : Rec) : sameRec r r = true := by simp [sameRec, eq2, sameC_refl, V7.same7]
theorem sameMsg_refl (m : Msg) : sameMsg m m = true := by simp [sameMsg, eq2, sameRec_refl]
end M
theorem dright_rec' {w : World} (r : M.Rec) {va vb : Value} (h : Rds w va r.c.rs) (h' : Wrs w vb r.c.ws) (F : M.Mod r.c) : Calls Try.prog 13 #[.agg #[.int .i64 r.ir, .int .i64 r.is, .int .i64 r.st, .int .i64 r.pn, .int .i64 r.pr, .int .i64 r.bn, .int .i64 r.br, .int .i64 r.c.k, .int .i64 r.c.tc, .int .i64 r.c.tn, .int .i64 r.c.tt, .int .i64 r.c.tk, .int .i64 r.c.sh, va, vb, .bool r.c.cm, .int .i64 r.sq, .int .i64 r.d0, .int .i64 r.d1, .int .i64 r.d2, .int .i64 r.d3, .int .i64 r.d4, .int .i64 r.d5, .int .i64 r.d6, .bool r.kp]] w fun e w' => e = .returned (.bool (M.rightR r)) ∧ Below w.heap.size w w' := by
  rw [← M.right_eq]; exact dright_rec r h h' F
theorem dright_msg' {w : World} (m : M.Msg) {va vb : Value} (h : Rds w va m.r.c.rs) (h' : Wrs w vb m.r.c.ws) (F : M.Mod m.r.c) : Calls Try.prog 15 #[.agg #[.int .i64 m.k, .int .i64 m.fr, .int .i64 m.to, .int .i64 m.bn, .int .i64 m.br, .int .i64 m.r.ir, .int .i64 m.r.is, .int .i64 m.r.st, .int .i64 m.r.pn, .int .i64 m.r.pr, .int .i64 m.r.bn, .int .i64 m.r.br, .int .i64 m.r.c.k, .int .i64 m.r.c.tc, .int .i64 m.r.c.tn, .int .i64 m.r.c.tt, .int .i64 m.r.c.tk, .int .i64 m.r.c.sh, va, vb, .bool m.r.c.cm, .int .i64 m.r.sq, .int .i64 m.r.d0, .int .i64 m.r.d1, .int .i64 m.r.d2, .int .i64 m.r.d3, .int .i64 m.r.d4, .int .i64 m.r.d5, .int .i64 m.r.d6, .bool m.r.kp]] w fun e w' => e = .returned (.bool (M.rightM m)) ∧ Below w.heap.size w w' := by
  rw [← M.rightM_eq]; exact dright_msg m h h' F

set_option maxHeartbeats 8000000 in
set_option maxRecDepth 100000 in
theorem rights_law (r s : M.Rec) (m : M.Msg) {va vb ua ub ta tb : Value} (w : World) (h : Rds w va r.c.rs) (h' : Wrs w vb r.c.ws) (g : Rds w ua s.c.rs) (g' : Wrs w ub s.c.ws) (k : Rds w ta m.r.c.rs) (k' : Wrs w tb m.r.c.ws) : Calls Try.prog 3 #[.agg #[.int .i64 r.ir, .int .i64 r.is, .int .i64 r.st, .int .i64 r.pn, .int .i64 r.pr, .int .i64 r.bn, .int .i64 r.br, .int .i64 r.c.k, .int .i64 r.c.tc, .int .i64 r.c.tn, .int .i64 r.c.tt, .int .i64 r.c.tk, .int .i64 r.c.sh, va, vb, .bool r.c.cm, .int .i64 r.sq, .int .i64 r.d0, .int .i64 r.d1, .int .i64 r.d2, .int .i64 r.d3, .int .i64 r.d4, .int .i64 r.d5, .int .i64 r.d6, .bool r.kp], .agg #[.int .i64 s.ir, .int .i64 s.is, .int .i64 s.st, .int .i64 s.pn, .int .i64 s.pr, .int .i64 s.bn, .int .i64 s.br, .int .i64 s.c.k, .int .i64 s.c.tc, .int .i64 s.c.tn, .int .i64 s.c.tt, .int .i64 s.c.tk, .int .i64 s.c.sh, ua, ub, .bool s.c.cm, .int .i64 s.sq, .int .i64 s.d0, .int .i64 s.d1, .int .i64 s.d2, .int .i64 s.d3, .int .i64 s.d4, .int .i64 s.d5, .int .i64 s.d6, .bool s.kp], .agg #[.int .i64 m.k, .int .i64 m.fr, .int .i64 m.to, .int .i64 m.bn, .int .i64 m.br, .int .i64 m.r.ir, .int .i64 m.r.is, .int .i64 m.r.st, .int .i64 m.r.pn, .int .i64 m.r.pr, .int .i64 m.r.bn, .int .i64 m.r.br, .int .i64 m.r.c.k, .int .i64 m.r.c.tc, .int .i64 m.r.c.tn, .int .i64 m.r.c.tt, .int .i64 m.r.c.tk, .int .i64 m.r.c.sh, ta, tb, .bool m.r.c.cm, .int .i64 m.r.sq, .int .i64 m.r.d0, .int .i64 m.r.d1, .int .i64 m.r.d2, .int .i64 m.r.d3, .int .i64 m.r.d4, .int .i64 m.r.d5, .int .i64 m.r.d6, .bool m.r.kp]] w (Yes w) := by
  have N1 := below_new (o := .cells #[.int .i64 r.ir, .int .i64 r.is, .int .i64 r.st, .int .i64 r.pn, .int .i64 r.pr, .int .i64 r.bn, .int .i64 r.br, .int .i64 r.c.k, .int .i64 r.c.tc, .int .i64 r.c.tn, .int .i64 r.c.tt, .int .i64 r.c.tk, .int .i64 r.c.sh, va, vb, .bool r.c.cm, .int .i64 r.sq, .int .i64 r.d0, .int .i64 r.d1, .int .i64 r.d2, .int .i64 r.d3, .int .i64 r.d4, .int .i64 r.d5, .int .i64 r.d6, .bool r.kp] 37) (Below.refl w.heap.size w)
  have N2 := below_new (o := .cells #[.int .i64 s.ir, .int .i64 s.is, .int .i64 s.st, .int .i64 s.pn, .int .i64 s.pr, .int .i64 s.bn, .int .i64 s.br, .int .i64 s.c.k, .int .i64 s.c.tc, .int .i64 s.c.tn, .int .i64 s.c.tt, .int .i64 s.c.tk, .int .i64 s.c.sh, ua, ub, .bool s.c.cm, .int .i64 s.sq, .int .i64 s.d0, .int .i64 s.d1, .int .i64 s.d2, .int .i64 s.d3, .int .i64 s.d4, .int .i64 s.d5, .int .i64 s.d6, .bool s.kp] 37) N1
  have N3 := below_new (o := .cells #[.int .i64 m.k, .int .i64 m.fr, .int .i64 m.to, .int .i64 m.bn, .int .i64 m.br, .int .i64 m.r.ir, .int .i64 m.r.is, .int .i64 m.r.st, .int .i64 m.r.pn, .int .i64 m.r.pr, .int .i64 m.r.bn, .int .i64 m.r.br, .int .i64 m.r.c.k, .int .i64 m.r.c.tc, .int .i64 m.r.c.tn, .int .i64 m.r.c.tt, .int .i64 m.r.c.tk, .int .i64 m.r.c.sh, ta, tb, .bool m.r.c.cm, .int .i64 m.r.sq, .int .i64 m.r.d0, .int .i64 m.r.d1, .int .i64 m.r.d2, .int .i64 m.r.d3, .int .i64 m.r.d4, .int .i64 m.r.d5, .int .i64 m.r.d6, .bool m.r.kp] 39) N2
  have N4 := Lib.hid (below_new (o := .cells #[.int .i64 r.c.k, .int .i64 r.c.tc, .int .i64 r.c.tn, .int .i64 r.c.tt, .int .i64 r.c.tk, .int .i64 r.c.sh, va, vb, .bool r.c.cm, .int .i64 s.c.k, .int .i64 s.c.tc, .int .i64 s.c.tn, .int .i64 s.c.tt, .int .i64 s.c.tk, .int .i64 s.c.sh, ua, ub, .bool s.c.cm, .int .i64 m.r.c.k, .int .i64 m.r.c.tc, .int .i64 m.r.c.tn, .int .i64 m.r.c.tt, .int .i64 m.r.c.tk, .int .i64 m.r.c.sh, ta, tb, .bool m.r.c.cm] 33) N3)
  have X0 := Lib.hid ((((Cel.new w [.int .i64 r.ir, .int .i64 r.is, .int .i64 r.st, .int .i64 r.pn, .int .i64 r.pr, .int .i64 r.bn, .int .i64 r.br, .int .i64 r.c.k, .int .i64 r.c.tc, .int .i64 r.c.tn, .int .i64 r.c.tt, .int .i64 r.c.tk, .int .i64 r.c.sh, va, vb, .bool r.c.cm, .int .i64 r.sq, .int .i64 r.d0, .int .i64 r.d1, .int .i64 r.d2, .int .i64 r.d3, .int .i64 r.d4, .int .i64 r.d5, .int .i64 r.d6, .bool r.kp] 37).push (.cells #[.int .i64 s.ir, .int .i64 s.is, .int .i64 s.st, .int .i64 s.pn, .int .i64 s.pr, .int .i64 s.bn, .int .i64 s.br, .int .i64 s.c.k, .int .i64 s.c.tc, .int .i64 s.c.tn, .int .i64 s.c.tt, .int .i64 s.c.tk, .int .i64 s.c.sh, ua, ub, .bool s.c.cm, .int .i64 s.sq, .int .i64 s.d0, .int .i64 s.d1, .int .i64 s.d2, .int .i64 s.d3, .int .i64 s.d4, .int .i64 s.d5, .int .i64 s.d6, .bool s.kp] 37)).push (.cells #[.int .i64 m.k, .int .i64 m.fr, .int .i64 m.to, .int .i64 m.bn, .int .i64 m.br, .int .i64 m.r.ir, .int .i64 m.r.is, .int .i64 m.r.st, .int .i64 m.r.pn, .int .i64 m.r.pr, .int .i64 m.r.bn, .int .i64 m.r.br, .int .i64 m.r.c.k, .int .i64 m.r.c.tc, .int .i64 m.r.c.tn, .int .i64 m.r.c.tt, .int .i64 m.r.c.tk, .int .i64 m.r.c.sh, ta, tb, .bool m.r.c.cm, .int .i64 m.r.sq, .int .i64 m.r.d0, .int .i64 m.r.d1, .int .i64 m.r.d2, .int .i64 m.r.d3, .int .i64 m.r.d4, .int .i64 m.r.d5, .int .i64 m.r.d6, .bool m.r.kp] 39)).push (.cells #[.int .i64 r.c.k, .int .i64 r.c.tc, .int .i64 r.c.tn, .int .i64 r.c.tt, .int .i64 r.c.tk, .int .i64 r.c.sh, va, vb, .bool r.c.cm, .int .i64 s.c.k, .int .i64 s.c.tc, .int .i64 s.c.tn, .int .i64 s.c.tt, .int .i64 s.c.tk, .int .i64 s.c.sh, ua, ub, .bool s.c.cm, .int .i64 m.r.c.k, .int .i64 m.r.c.tc, .int .i64 m.r.c.tn, .int .i64 m.r.c.tt, .int .i64 m.r.c.tk, .int .i64 m.r.c.sh, ta, tb, .bool m.r.c.cm] 33))
  have Y0 := Lib.hid (((Cel.new1 w (.cells #[.int .i64 r.ir, .int .i64 r.is, .int .i64 r.st, .int .i64 r.pn, .int .i64 r.pr, .int .i64 r.bn, .int .i64 r.br, .int .i64 r.c.k, .int .i64 r.c.tc, .int .i64 r.c.tn, .int .i64 r.c.tt, .int .i64 r.c.tk, .int .i64 r.c.sh, va, vb, .bool r.c.cm, .int .i64 r.sq, .int .i64 r.d0, .int .i64 r.d1, .int .i64 r.d2, .int .i64 r.d3, .int .i64 r.d4, .int .i64 r.d5, .int .i64 r.d6, .bool r.kp] 37) [.int .i64 s.ir, .int .i64 s.is, .int .i64 s.st, .int .i64 s.pn, .int .i64 s.pr, .int .i64 s.bn, .int .i64 s.br, .int .i64 s.c.k, .int .i64 s.c.tc, .int .i64 s.c.tn, .int .i64 s.c.tt, .int .i64 s.c.tk, .int .i64 s.c.sh, ua, ub, .bool s.c.cm, .int .i64 s.sq, .int .i64 s.d0, .int .i64 s.d1, .int .i64 s.d2, .int .i64 s.d3, .int .i64 s.d4, .int .i64 s.d5, .int .i64 s.d6, .bool s.kp] 37).push (.cells #[.int .i64 m.k, .int .i64 m.fr, .int .i64 m.to, .int .i64 m.bn, .int .i64 m.br, .int .i64 m.r.ir, .int .i64 m.r.is, .int .i64 m.r.st, .int .i64 m.r.pn, .int .i64 m.r.pr, .int .i64 m.r.bn, .int .i64 m.r.br, .int .i64 m.r.c.k, .int .i64 m.r.c.tc, .int .i64 m.r.c.tn, .int .i64 m.r.c.tt, .int .i64 m.r.c.tk, .int .i64 m.r.c.sh, ta, tb, .bool m.r.c.cm, .int .i64 m.r.sq, .int .i64 m.r.d0, .int .i64 m.r.d1, .int .i64 m.r.d2, .int .i64 m.r.d3, .int .i64 m.r.d4, .int .i64 m.r.d5, .int .i64 m.r.d6, .bool m.r.kp] 39)).push (.cells #[.int .i64 r.c.k, .int .i64 r.c.tc, .int .i64 r.c.tn, .int .i64 r.c.tt, .int .i64 r.c.tk, .int .i64 r.c.sh, va, vb, .bool r.c.cm, .int .i64 s.c.k, .int .i64 s.c.tc, .int .i64 s.c.tn, .int .i64 s.c.tt, .int .i64 s.c.tk, .int .i64 s.c.sh, ua, ub, .bool s.c.cm, .int .i64 m.r.c.k, .int .i64 m.r.c.tc, .int .i64 m.r.c.tn, .int .i64 m.r.c.tt, .int .i64 m.r.c.tk, .int .i64 m.r.c.sh, ta, tb, .bool m.r.c.cm] 33))
  have Z0 := Lib.hid ((show Cel (((w.alloc (.cells #[.int .i64 r.ir, .int .i64 r.is, .int .i64 r.st, .int .i64 r.pn, .int .i64 r.pr, .int .i64 r.bn, .int .i64 r.br, .int .i64 r.c.k, .int .i64 r.c.tc, .int .i64 r.c.tn, .int .i64 r.c.tt, .int .i64 r.c.tk, .int .i64 r.c.sh, va, vb, .bool r.c.cm, .int .i64 r.sq, .int .i64 r.d0, .int .i64 r.d1, .int .i64 r.d2, .int .i64 r.d3, .int .i64 r.d4, .int .i64 r.d5, .int .i64 r.d6, .bool r.kp] 37)).alloc (.cells #[.int .i64 s.ir, .int .i64 s.is, .int .i64 s.st, .int .i64 s.pn, .int .i64 s.pr, .int .i64 s.bn, .int .i64 s.br, .int .i64 s.c.k, .int .i64 s.c.tc, .int .i64 s.c.tn, .int .i64 s.c.tt, .int .i64 s.c.tk, .int .i64 s.c.sh, ua, ub, .bool s.c.cm, .int .i64 s.sq, .int .i64 s.d0, .int .i64 s.d1, .int .i64 s.d2, .int .i64 s.d3, .int .i64 s.d4, .int .i64 s.d5, .int .i64 s.d6, .bool s.kp] 37)).alloc (.cells #[.int .i64 m.k, .int .i64 m.fr, .int .i64 m.to, .int .i64 m.bn, .int .i64 m.br, .int .i64 m.r.ir, .int .i64 m.r.is, .int .i64 m.r.st, .int .i64 m.r.pn, .int .i64 m.r.pr, .int .i64 m.r.bn, .int .i64 m.r.br, .int .i64 m.r.c.k, .int .i64 m.r.c.tc, .int .i64 m.r.c.tn, .int .i64 m.r.c.tt, .int .i64 m.r.c.tk, .int .i64 m.r.c.sh, ta, tb, .bool m.r.c.cm, .int .i64 m.r.sq, .int .i64 m.r.d0, .int .i64 m.r.d1, .int .i64 m.r.d2, .int .i64 m.r.d3, .int .i64 m.r.d4, .int .i64 m.r.d5, .int .i64 m.r.d6, .bool m.r.kp] 39)) (w.heap.size + 2) [.int .i64 m.k, .int .i64 m.fr, .int .i64 m.to, .int .i64 m.bn, .int .i64 m.br, .int .i64 m.r.ir, .int .i64 m.r.is, .int .i64 m.r.st, .int .i64 m.r.pn, .int .i64 m.r.pr, .int .i64 m.r.bn, .int .i64 m.r.br, .int .i64 m.r.c.k, .int .i64 m.r.c.tc, .int .i64 m.r.c.tn, .int .i64 m.r.c.tt, .int .i64 m.r.c.tk, .int .i64 m.r.c.sh, ta, tb, .bool m.r.c.cm, .int .i64 m.r.sq, .int .i64 m.r.d0, .int .i64 m.r.d1, .int .i64 m.r.d2, .int .i64 m.r.d3, .int .i64 m.r.d4, .int .i64 m.r.d5, .int .i64 m.r.d6, .bool m.r.kp] by simpa using Cel.new ((w.alloc (.cells #[.int .i64 r.ir, .int .i64 r.is, .int .i64 r.st, .int .i64 r.pn, .int .i64 r.pr, .int .i64 r.bn, .int .i64 r.br, .int .i64 r.c.k, .int .i64 r.c.tc, .int .i64 r.c.tn, .int .i64 r.c.tt, .int .i64 r.c.tk, .int .i64 r.c.sh, va, vb, .bool r.c.cm, .int .i64 r.sq, .int .i64 r.d0, .int .i64 r.d1, .int .i64 r.d2, .int .i64 r.d3, .int .i64 r.d4, .int .i64 r.d5, .int .i64 r.d6, .bool r.kp] 37)).alloc (.cells #[.int .i64 s.ir, .int .i64 s.is, .int .i64 s.st, .int .i64 s.pn, .int .i64 s.pr, .int .i64 s.bn, .int .i64 s.br, .int .i64 s.c.k, .int .i64 s.c.tc, .int .i64 s.c.tn, .int .i64 s.c.tt, .int .i64 s.c.tk, .int .i64 s.c.sh, ua, ub, .bool s.c.cm, .int .i64 s.sq, .int .i64 s.d0, .int .i64 s.d1, .int .i64 s.d2, .int .i64 s.d3, .int .i64 s.d4, .int .i64 s.d5, .int .i64 s.d6, .bool s.kp] 37)) [.int .i64 m.k, .int .i64 m.fr, .int .i64 m.to, .int .i64 m.bn, .int .i64 m.br, .int .i64 m.r.ir, .int .i64 m.r.is, .int .i64 m.r.st, .int .i64 m.r.pn, .int .i64 m.r.pr, .int .i64 m.r.bn, .int .i64 m.r.br, .int .i64 m.r.c.k, .int .i64 m.r.c.tc, .int .i64 m.r.c.tn, .int .i64 m.r.c.tt, .int .i64 m.r.c.tk, .int .i64 m.r.c.sh, ta, tb, .bool m.r.c.cm, .int .i64 m.r.sq, .int .i64 m.r.d0, .int .i64 m.r.d1, .int .i64 m.r.d2, .int .i64 m.r.d3, .int .i64 m.r.d4, .int .i64 m.r.d5, .int .i64 m.r.d6, .bool m.r.kp] 39).push (.cells #[.int .i64 r.c.k, .int .i64 r.c.tc, .int .i64 r.c.tn, .int .i64 r.c.tt, .int .i64 r.c.tk, .int .i64 r.c.sh, va, vb, .bool r.c.cm, .int .i64 s.c.k, .int .i64 s.c.tc, .int .i64 s.c.tn, .int .i64 s.c.tt, .int .i64 s.c.tk, .int .i64 s.c.sh, ua, ub, .bool s.c.cm, .int .i64 m.r.c.k, .int .i64 m.r.c.tc, .int .i64 m.r.c.tn, .int .i64 m.r.c.tt, .int .i64 m.r.c.tk, .int .i64 m.r.c.sh, ta, tb, .bool m.r.c.cm] 33))
  have R0 := Lib.hid (h.below N3)
  have W0 := Lib.hid (h'.below N3)
  have S0 := Lib.hid (g.below N3)
  have V0 := Lib.hid (g'.below N3)
  have T0 := Lib.hid (k.below N3)
  have U0 := Lib.hid (k'.below N3)
  clear h h' g g' k k' N1 N2 N3
  rcases two (M.modB r.c && (M.modB s.c && M.modB m.r.c)) with f | f
  · have F := M.modB_iff.1 (Bool.and_eq_true_iff.1 f).1
    have G := M.modB_iff.1 (Bool.and_eq_true_iff.1 (Bool.and_eq_true_iff.1 f).2).1
    have K := M.modB_iff.1 (Bool.and_eq_true_iff.1 (Bool.and_eq_true_iff.1 f).2).2
    have E1 := M.sameRec_refl r
    go_enter Try.func3, Try.ntmps3
    go_wp2_with (fail)
    refine (few_three (by simp) r.c s.c m.r.c R0.out W0.out S0.out V0.out T0.out U0.out).mono ?_
    rintro e w1 ⟨rfl, hb⟩
    have X1 := X0.out.on hb
    have Y1 := Y0.out.on hb
    have Z1 := Z0.out.on hb
    have R1 := Lib.hid ((R0.out.push _).below hb)
    have W1 := Lib.hid ((W0.out.push _).below hb)
    have S1 := Lib.hid ((S0.out.push _).below hb)
    have V1 := Lib.hid ((V0.out.push _).below hb)
    have T1 := Lib.hid ((T0.out.push _).below hb)
    have U1 := Lib.hid ((U0.out.push _).below hb)
    have B1 := Lib.hid (below_on N4.out hb)
    have lx := X1.lt
    have ly := Y1.lt
    have lz := Z1.lt
    have HX := Lib.hid X1.whole
    have HY := Lib.hid Y1.whole
    have HZ := Lib.hid Z1.whole
    clear hb X0 Y0 Z0 R0 W0 S0 V0 T0 U0 N4 X1 Y1 Z1
    go_wp2
    refine wp_region_after (by kernel_rfl) (by kernel_rfl) ?_
    have hx := @After.cell w1
    repeat (first
      | (go_big_quiet_want
         first
         | (with_reducible refine quiet_load_mid 37 _ rfl w.heap.size 0 rfl _ _ lx HX.out Try.underlying37 rfl (by kernel_rfl) ?_)
         | (with_reducible refine quiet_load_mid 37 _ rfl (w.heap.size + 1) 0 rfl _ _ ly HY.out Try.underlying37 rfl (by kernel_rfl) ?_)
         | (with_reducible refine quiet_load_mid 39 _ rfl (w.heap.size + 2) 0 rfl _ _ lz HZ.out Try.underlying39 rfl (by kernel_rfl) ?_)
         go_simp
         go_big_quiet_on)
      | (go_big_quiet_step (first
        | (go_at_call 12; exact Calls.after_of (right_rec r (R1.out.below (After.below _)) (W1.out.below (After.below _)) F.l F.l'))
        | (go_at_call 13; exact Calls.after_of (dright_rec' r (R1.out.below (After.below _)) (W1.out.below (After.below _)) F))
        | (go_at_call 14; exact Calls.after_of (right_msg m (T1.out.below (After.below _)) (U1.out.below (After.below _)) K.l K.l'))
        | (go_at_call 15; exact Calls.after_of (dright_msg' m (T1.out.below (After.below _)) (U1.out.below (After.below _)) K))
        | (go_at_call 16; with_reducible exact Calls.after_of (same_rec r s (R1.out.below (After.below _)) (W1.out.below (After.below _)) (S1.out.below (After.below _)) (V1.out.below (After.below _)) F.l F.l'))
        | (go_at_call 16; with_reducible exact Calls.after_of (same_rec r r (R1.out.below (After.below _)) (W1.out.below (After.below _)) (R1.out.below (After.below _)) (W1.out.below (After.below _)) F.l F.l'))
        | (go_at_call 17; exact Calls.after_of (dsame_rec r s (R1.out.below (After.below _)) (W1.out.below (After.below _)) (S1.out.below (After.below _)) (V1.out.below (After.below _)) F.l F.l'))
        | (go_at_call 11; exact Calls.after_of (awake_any _))))
      | rw [E1])
    refine wpQuiet_nil ?_
    rintro w2 ⟨⟨_, hb⟩, rfl⟩
    have B2 := Lib.hid (below_on B1.out hb)
    clear hb
    go_wp2
    go_ret
    exact ⟨rfl, B2.out⟩
  · go_enter Try.func3, Try.ntmps3
    go_wp2_with (fail)
    refine (few_three (by simp) r.c s.c m.r.c R0.out W0.out S0.out V0.out T0.out U0.out).mono ?_
    rintro e w1 ⟨rfl, hb⟩
    have B1 := Lib.hid (below_on N4.out hb)
    clear hb
    go_wp2_with (fail)
    refine (awake_any _).mono ?_
    rintro e w2 ⟨rfl, hb⟩
    have B2 := Lib.hid (below_on B1.out hb)
    clear hb
    go_wp2
    go_ret
    exact ⟨rfl, B2.out⟩
end Go.Proofs.Ytagngbdlpdilnaa
