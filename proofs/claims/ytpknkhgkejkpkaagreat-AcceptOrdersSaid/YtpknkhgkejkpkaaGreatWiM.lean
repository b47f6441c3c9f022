/- Messages as arguments; no conditions but those that they name. -/
import Derived.Test.YtpknkhgkejkpkaaGreatWiR
import Derived.Deep.Slices
import Derived.Deep.Fields
import Derived.ChangeSame
import Derived.ProofKit
import Derived.OpenShut
import Derived.Carry
import Derived.ChangeSlices
import Derived.Deep.Strs
import Derived.Deep.Matrix
import Derived.Deep.DeepHandedRow

namespace Go.Proofs.YtpknkhgkejkpkaaGreat
open Go.ChangeShapes Go.WideShapes Go.ChangeAt Go.RowKit Go.Deep

section
variable {H : Type} {enc : TypeId × Value → H} {W : World} {fuel : Nat}
end
end Go.Proofs.YtpknkhgkejkpkaaGreat

namespace Go.Proofs.YtpknkhgkejkpkaaGreat
open Go.ChangeShapes Go.WideShapes Go.ChangeAt Go.RowKit Go.Deep

theorem cl39 : Tryz.prog.cellsOf 49 = 30 := by kernel_rfl
section
variable {H : Type} {enc : TypeId × Value → H} {W : World} {fuel : Nat}
set_option maxRecDepth 20000 in
theorem open_msg {r : Reach} {b0 : Nat} {v : Value} {d : DataW H} {p : List MemPlace} (hv : Value.okWide Tryz.prog W r b0 49 v) (h : DataW.Trod enc Tryz.prog W 0 (fun _ => true) true 49 v d p) (hlt : ∀ x ∈ p, x.block < W.heap.size) : ∃ (m : M.Msg) (va vb : Value), v = .agg #[.int .i64 m.k, .int .i64 m.fr, .int .i64 m.to, .int .i64 m.bn, .int .i64 m.br, .int .i64 m.r.ir, .int .i64 m.r.is, .int .i64 m.r.st, .int .i64 m.r.pn, .int .i64 m.r.pr, .int .i64 m.r.bn, .int .i64 m.r.br, .int .i64 m.r.c.k, .int .i64 m.r.c.tc, .int .i64 m.r.c.tn, .int .i64 m.r.c.tt, .int .i64 m.r.c.tk, .int .i64 m.r.c.sh, va, vb, .bool m.r.c.cm, .int .i64 m.r.sq, .int .i64 m.r.d0, .int .i64 m.r.d1, .int .i64 m.r.d2, .int .i64 m.r.d3, .int .i64 m.r.d4, .int .i64 m.r.d5, .int .i64 m.r.d6, .bool m.r.kp] ∧ Rds W va m.r.c.rs ∧ Wrs W vb m.r.c.ws := by
  obtain ⟨cs, rfl, hsz⟩ := okWide_struct Tryz.underlying49 hv
  obtain ⟨l⟩ := cs
  match l, hsz.trans cl39 with
  | [c0, c1, c2, c3, c4, c5, c6, c7, c8, c9, c10, c11, c12, c13, c14, c15, c16, c17, c18, c19, c20, c21, c22, c23, c24, c25, c26, c27, c28, c29], _ =>
    obtain ⟨fuel, hf⟩ := h
    obtain ⟨xs, n, _, hx, _, hlen, hg⟩ := DataW.trod_struct Tryz.underlying49 hf
    match xs, hlen with
    | [y0, y1, y2, y3, y4], _ =>
      obtain ⟨k, e0, _⟩ := DataW.trod_int (x := y0) Tryz.underlying3 (show DataW.trod enc Tryz.prog W 0 (fun _ => true) true n 3 [c0] = some y0 from by have := hg 0 _ rfl; simpa [cl3, Value.cells] using this)
      obtain ⟨fr, e1, _⟩ := DataW.trod_int (x := y1) Tryz.underlying3 (show DataW.trod enc Tryz.prog W 0 (fun _ => true) true n 3 [c1] = some y1 from by have := hg 1 _ rfl; simpa [cl3, Value.cells] using this)
      obtain ⟨to, e2, _⟩ := DataW.trod_int (x := y2) Tryz.underlying3 (show DataW.trod enc Tryz.prog W 0 (fun _ => true) true n 3 [c2] = some y2 from by have := hg 2 _ rfl; simpa [cl3, Value.cells] using this)
      obtain ⟨bn, br, e3, e4⟩ := open_two (x := y3) Tryz.underlying37 rfl rfl rfl rfl (show DataW.trod enc Tryz.prog W 0 (fun _ => true) true n 37 [c3, c4] = some y3 from by have := hg 3 _ rfl; simpa [cl25b, Value.cells] using this)
      simp only [Prod.mk.injEq] at hx
      obtain ⟨q, va, vb, e5, f1, f2, -⟩ := open_cells_rec (x := y4) (show DataW.trod enc Tryz.prog W 0 (fun _ => true) true n 41 [c5, c6, c7, c8, c9, c10, c11, c12, c13, c14, c15, c16, c17, c18, c19, c20, c21, c22, c23, c24, c25, c26, c27, c28, c29] = some y4 from by have := hg 4 _ rfl; simpa [cl37, Value.cells] using this) rfl (fun y hy => hlt y (by rw [hx.2]; simp [hy]))
      simp only [List.cons.injEq, and_true] at e0 e1 e2 e5
      obtain ⟨g0, g1, g2, g3, g4, g5, g6, g7, g8, g9, g10, g11, g12, g13, g14, g15, g16, g17, g18, g19, g20, g21, g22, g23, g24⟩ := e5
      subst e0 e1 e2 e3 e4 g0 g1 g2 g3 g4 g5 g6 g7 g8 g9 g10 g11 g12 g13 g14 g15 g16 g17 g18 g19 g20 g21 g22 g23 g24
      exact ⟨⟨k, fr, to, bn, br, q⟩, _, _, rfl, f1, f2⟩
end
end Go.Proofs.YtpknkhgkejkpkaaGreat
