/- A struct of two ints by value, as an argument: opened to its two numbers, and read again; no conditions. -/
import Derived.Test.YtccokdhobkcnpaaRows
import Derived.ProofKit
import Derived.OpenShut
import Derived.Lib.SmallJoins
namespace Go.Proofs.Ytccokdhobkcnpaa
open Go.Joins Go.ChangeShapes Go.WideShapes Go.ChangeAt Go.RowKit Go.Deep

theorem own : ownKnob Try.prog.godebug = none := by kernel_rfl
section
variable {H : Type} {enc : TypeId × Value → H} {w : World} {base : Nat} {spare : Nat → Bool} {held : Bool}
theorem open_pair {t : TypeId} {f0 f1 : Field} {r : Reach} {b0 : Nat} {v : Value} {d : DataW H} {p : List MemPlace} (hs : Try.prog.underlying t = some (.struct #[f0, f1])) (hone : oneCellFields Try.prog #[f0, f1] = true) (hC : Try.prog.cellsOf t = 2)
    (i0 : f0.type = 3) (i1 : f1.type = 3) (hv : Value.okWide Try.prog w r b0 t v) (h : DataW.Trod enc Try.prog w base spare held t v d p) :
    ∃ x y : Int, v = .agg #[.int .i64 x, .int .i64 y] ∧ d = .agg [.lit (.int .i64 x), .lit (.int .i64 y)] ∧ p = [] ∧ (Lit.int .i64 x).wf = true ∧ (Lit.int .i64 y).wf = true := by
  obtain ⟨v0, v1, y0, y1, n, rfl, rfl, rfl, h0, h1⟩ := open_agg2 hs hone hC hv h
  rw [i0] at h0
  rw [i1] at h1
  obtain ⟨x, c0, e0, w0⟩ := DataW.trod_int Try.underlying3 h0
  obtain ⟨y, c1, e1, w1⟩ := DataW.trod_int Try.underlying3 h1
  simp only [List.cons.injEq, and_true] at c0 c1
  subst c0 c1 e0 e1
  exact ⟨x, y, rfl, rfl, rfl, w0, w1⟩
theorem shut_pair {t : TypeId} {f0 f1 : Field} {x y : Int} (hs : Try.prog.underlying t = some (.struct #[f0, f1])) (hone : oneCellFields Try.prog #[f0, f1] = true) (hC : Try.prog.cellsOf t = 2)
    (i0 : f0.type = 3) (i1 : f1.type = 3) (wx : (Lit.int .i64 x).wf = true) (wy : (Lit.int .i64 y).wf = true) :
    DataW.Trod enc Try.prog w base spare held t (.agg #[.int .i64 x, .int .i64 y]) (.agg [.lit (.int .i64 x), .lit (.int .i64 y)]) [] :=
  shut_agg2 (y0 := (.lit (.int .i64 x), [])) (y1 := (.lit (.int .i64 y), [])) hs hone hC ⟨1, by rw [i0]; exact trod_int_mk 0 Try.underlying3 wx⟩ ⟨1, by rw [i1]; exact trod_int_mk 0 Try.underlying3 wy⟩
end
theorem c23 : Try.prog.cellsOf 23 = 2 := by kernel_rfl
theorem c25 : Try.prog.cellsOf 25 = 2 := by kernel_rfl
theorem c27 : Try.prog.cellsOf 27 = 2 := by kernel_rfl
theorem c29 : Try.prog.cellsOf 29 = 2 := by kernel_rfl
end Go.Proofs.Ytccokdhobkcnpaa
