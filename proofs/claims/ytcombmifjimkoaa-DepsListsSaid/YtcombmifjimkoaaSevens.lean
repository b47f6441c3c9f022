/- An array of seven ints by value and a struct of two ints by value, as arguments: opened to their numbers, and read again; no conditions. -/
import Derived.Test.YtcombmifjimkoaaRows
import Derived.Test.YtcombmifjimkoaaMath
import Derived.ProofKit
import Derived.OpenShut
import Derived.Lib.SmallJoins
namespace Go.Proofs.Ytcombmifjimkoaa
open Go.Joins Go.ChangeShapes Go.WideShapes Go.ChangeAt Go.RowKit Go.Deep

theorem own : ownKnob Try.prog.godebug = none := by kernel_rfl
theorem c23 : Try.prog.cellsOf 23 = 7 := by kernel_rfl
theorem c25 : Try.prog.cellsOf 25 = 2 := by kernel_rfl
theorem c3 : Try.prog.cellsOf 3 = 1 := by kernel_rfl
/-- Bounds of an int. -/
theorem int_le {x : Int} (h : (Lit.int .i64 x).wf = true) : x ≤ 9223372036854775807 := (bounds_i64 h).2
section
variable {H : Type} {enc : TypeId × Value → H} {w : World} {base : Nat} {spare : Nat → Bool} {held : Bool}
theorem open_pair {t : TypeId} {f0 f1 : Field} {r : Reach} {b0 : Nat} {v : Value} {d : DataW H} {p : List MemPlace} (hs : Try.prog.underlying t = some (.struct #[f0, f1])) (hone : oneCellFields Try.prog #[f0, f1] = true) (hC : Try.prog.cellsOf t = 2)
    (i0 : f0.type = 3) (i1 : f1.type = 3) (hv : Value.okWide Try.prog w r b0 t v) (h : DataW.Trod enc Try.prog w base spare held t v d p) :
    ∃ x y : Int, v = .agg #[.int .i64 x, .int .i64 y] ∧ d = .agg [.lit (.int .i64 x), .lit (.int .i64 y)] ∧ p = [] ∧ (Lit.int .i64 x).wf = true ∧ (Lit.int .i64 y).wf = true := by
  obtain ⟨v0, v1, y0, y1, n, rfl, rfl, rfl, h0, h1⟩ := open_agg2 hs hone hC hv h
  rw [i0] at h0
  rw [i1] at h1
  obtain ⟨x, c0, e0, w0⟩ := DataW.trod_int Try.underlying3 h0
  obtain ⟨y, c1, e1, w1⟩ := DataW.trod_int Try.underlying3 h1
  simp only [List.cons.injEq, and_true] at c0 c1
  subst c0 c1 e0 e1
  exact ⟨x, y, rfl, rfl, rfl, w0, w1⟩
theorem shut_pair {t : TypeId} {f0 f1 : Field} {x y : Int} (hs : Try.prog.underlying t = some (.struct #[f0, f1])) (hone : oneCellFields Try.prog #[f0, f1] = true) (hC : Try.prog.cellsOf t = 2)
    (i0 : f0.type = 3) (i1 : f1.type = 3) (wx : (Lit.int .i64 x).wf = true) (wy : (Lit.int .i64 y).wf = true) :
    DataW.Trod enc Try.prog w base spare held t (.agg #[.int .i64 x, .int .i64 y]) (.agg [.lit (.int .i64 x), .lit (.int .i64 y)]) [] :=
  shut_agg2 (y0 := (.lit (.int .i64 x), [])) (y1 := (.lit (.int .i64 y), [])) hs hone hC ⟨1, by rw [i0]; exact trod_int_mk 0 Try.underlying3 wx⟩ ⟨1, by rw [i1]; exact trod_int_mk 0 Try.underlying3 wy⟩

theorem array7 {cs : Array Value} (h : cs.size = 7) : ∃ c0 c1 c2 c3 c4 c5 c6, cs = #[c0, c1, c2, c3, c4, c5, c6] := by
  obtain ⟨l⟩ := cs
  match l, h with
  | [c0, c1, c2, c3, c4, c5, c6], _ => exact ⟨c0, c1, c2, c3, c4, c5, c6, rfl⟩
theorem okWide_array {t e : TypeId} {n : Nat} {r : Reach} {b0 : Nat} {v : Value} (ht : Try.prog.underlying t = some (.array n e)) (h : Value.okWide Try.prog w r b0 t v) : ∃ cs, v = .agg cs ∧ cs.size = Try.prog.cellsOf t := by
  unfold Value.okWide at h
  rw [ht] at h
  obtain ⟨cs, h1, h2, _⟩ := h
  exact ⟨cs, h1, h2⟩
theorem open_seven {r : Reach} {b0 : Nat} {v : Value} {d : DataW H} {p : List MemPlace} (hv : Value.okWide Try.prog w r b0 23 v) (h : DataW.Trod enc Try.prog w base spare held 23 v d p) :
    ∃ f : Nat → Int, v = .agg #[.int .i64 (f 0), .int .i64 (f 1), .int .i64 (f 2), .int .i64 (f 3), .int .i64 (f 4), .int .i64 (f 5), .int .i64 (f 6)] ∧ d = .agg [.lit (.int .i64 (f 0)), .lit (.int .i64 (f 1)), .lit (.int .i64 (f 2)), .lit (.int .i64 (f 3)), .lit (.int .i64 (f 4)), .lit (.int .i64 (f 5)), .lit (.int .i64 (f 6))] ∧ p = [] ∧ ∀ k, k < 7 → (Lit.int .i64 (f k)).wf = true := by
  obtain ⟨cs, rfl, hsz⟩ := okWide_array Try.underlying23 hv
  obtain ⟨u0, u1, u2, u3, u4, u5, u6, rfl⟩ := array7 (hsz.trans c23)
  obtain ⟨fuel, hf⟩ := h
  obtain ⟨ys, m, _, hx, _, hl, hg⟩ := DataW.trod_array Try.underlying23 hf
  match ys, hl with
  | [y0, y1, y2, y3, y4, y5, y6], _ =>
    have g0 := hg 0 (by omega)
    have g1 := hg 1 (by omega)
    have g2 := hg 2 (by omega)
    have g3 := hg 3 (by omega)
    have g4 := hg 4 (by omega)
    have g5 := hg 5 (by omega)
    have g6 := hg 6 (by omega)
    simp [c3, Value.cells] at g0 g1 g2 g3 g4 g5 g6
    obtain ⟨x0, e0, z0, w0⟩ := DataW.trod_int Try.underlying3 g0
    obtain ⟨x1, e1, z1, w1⟩ := DataW.trod_int Try.underlying3 g1
    obtain ⟨x2, e2, z2, w2⟩ := DataW.trod_int Try.underlying3 g2
    obtain ⟨x3, e3, z3, w3⟩ := DataW.trod_int Try.underlying3 g3
    obtain ⟨x4, e4, z4, w4⟩ := DataW.trod_int Try.underlying3 g4
    obtain ⟨x5, e5, z5, w5⟩ := DataW.trod_int Try.underlying3 g5
    obtain ⟨x6, e6, z6, w6⟩ := DataW.trod_int Try.underlying3 g6
    simp only [List.cons.injEq, and_true] at e0 e1 e2 e3 e4 e5 e6
    subst e0 e1 e2 e3 e4 e5 e6 z0 z1 z2 z3 z4 z5 z6
    simp at hx
    refine ⟨fun k => if k = 0 then x0 else if k = 1 then x1 else if k = 2 then x2 else if k = 3 then x3 else if k = 4 then x4 else if k = 5 then x5 else x6, rfl, hx.1, hx.2, fun k hk => ?_⟩
    rcases M.seven hk with rfl | rfl | rfl | rfl | rfl | rfl | rfl <;> assumption
theorem shut_seven {f : Nat → Int} (hw : ∀ k, k < 7 → (Lit.int .i64 (f k)).wf = true) :
    DataW.Trod enc Try.prog w base spare held 23 (.agg #[.int .i64 (f 0), .int .i64 (f 1), .int .i64 (f 2), .int .i64 (f 3), .int .i64 (f 4), .int .i64 (f 5), .int .i64 (f 6)]) (.agg [.lit (.int .i64 (f 0)), .lit (.int .i64 (f 1)), .lit (.int .i64 (f 2)), .lit (.int .i64 (f 3)), .lit (.int .i64 (f 4)), .lit (.int .i64 (f 5)), .lit (.int .i64 (f 6))]) [] := by
  refine ⟨2, ?_⟩
  have r7 : List.range 7 = [0, 1, 2, 3, 4, 5, 6] := rfl
  unfold DataW.trod
  rw [Try.underlying23]
  simp [r7, c3, c23, Value.cells, trod_int_mk 0 Try.underlying3 (hw 0 (by decide)), trod_int_mk 0 Try.underlying3 (hw 1 (by decide)), trod_int_mk 0 Try.underlying3 (hw 2 (by decide)), trod_int_mk 0 Try.underlying3 (hw 3 (by decide)), trod_int_mk 0 Try.underlying3 (hw 4 (by decide)), trod_int_mk 0 Try.underlying3 (hw 5 (by decide)), trod_int_mk 0 Try.underlying3 (hw 6 (by decide))]
end
end Go.Proofs.Ytcombmifjimkoaa
