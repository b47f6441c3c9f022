/- The value of an answer; no conditions. -/
import Derived.Test.YtpknkhgkejkpkaaGreatSv
import Derived.Test.YtpknkhgkejkpkaaGreatPa
namespace Go.Proofs.YtpknkhgkejkpkaaGreat
open Go.ChangeShapes Go.WideShapes Go.ChangeAt Go.RowKit

abbrev NS : Value := .slice none 0 0
/-- The cells of an answer. -/
def stc (s : M.Stp) (va vb ua ub : Value) : List Value := [.int .i64 s.r.ir, .int .i64 s.r.is, .int .i64 s.r.st, .int .i64 s.r.pn, .int .i64 s.r.pr, .int .i64 s.r.bn, .int .i64 s.r.br, .int .i64 s.r.c.k, .int .i64 s.r.c.tc, .int .i64 s.r.c.tn, .int .i64 s.r.c.tt, .int .i64 s.r.c.tk, .int .i64 s.r.c.sh, va, vb, .bool s.r.c.cm, .int .i64 s.r.sq, .int .i64 s.r.d0, .int .i64 s.r.d1, .int .i64 s.r.d2, .int .i64 s.r.d3, .int .i64 s.r.d4, .int .i64 s.r.d5, .int .i64 s.r.d6, .bool s.r.kp, .bool s.new, .int .i64 s.m.k, .int .i64 s.m.fr, .int .i64 s.m.to, .int .i64 s.m.bn, .int .i64 s.m.br, .int .i64 s.m.r.ir, .int .i64 s.m.r.is, .int .i64 s.m.r.st, .int .i64 s.m.r.pn, .int .i64 s.m.r.pr, .int .i64 s.m.r.bn, .int .i64 s.m.r.br, .int .i64 s.m.r.c.k, .int .i64 s.m.r.c.tc, .int .i64 s.m.r.c.tn, .int .i64 s.m.r.c.tt, .int .i64 s.m.r.c.tk, .int .i64 s.m.r.c.sh, ua, ub, .bool s.m.r.c.cm, .int .i64 s.m.r.sq, .int .i64 s.m.r.d0, .int .i64 s.m.r.d1, .int .i64 s.m.r.d2, .int .i64 s.m.r.d3, .int .i64 s.m.r.d4, .int .i64 s.m.r.d5, .int .i64 s.m.r.d6, .bool s.m.r.kp, .bool s.has]
theorem stc_size (s : M.Stp) (va vb ua ub : Value) : (Tryz.prog.info? 52).map (·.size) = some (stc s va vb ua ub).length := by kernel_rfl
theorem stc_one {s : M.Stp} {va vb ua ub : Value} (h1 : va.oneCell' = true) (h2 : vb.oneCell' = true) (h3 : ua.oneCell' = true) (h4 : ub.oneCell' = true) : (stc s va vb ua ub).all (·.oneCell') = true := by
  simp only [stc, List.all_cons, List.all_nil, h1, h2, h3, h4]; rfl
end Go.Proofs.YtpknkhgkejkpkaaGreat
