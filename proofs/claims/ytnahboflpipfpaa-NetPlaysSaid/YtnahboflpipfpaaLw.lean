/- The document's contracts of messages over their cells; a step of zeros and a message; no conditions but those that they name. -/
import Derived.Test.YtnahboflpipfpaaBld
import Derived.Test.YtnahboflpipfpaaFnd
import Derived.Laws.Tables
namespace Go.Proofs.Ytnahboflpipfpaa
open Go.ChangeShapes Go.WideShapes Go.ChangeAt Go.RowKit

theorem sameMsg_self (m : M.Msg) : M.sameMsg m m = true := by simp [M.sameMsg, M.sameRec, M.eq2, M.sameC, M.sameR, M.sameW, V7.same7]
theorem dright_mv {w : World} {x : Mv} (h : Rds w x.va x.m.r.c.rs) (h' : Wrs w x.vb x.m.r.c.ws) (K : M.Mod x.m.r.c) : Calls Try.prog 25 #[.agg x.cells.toArray] w fun e w' => e = .returned (.bool (M.rightM x.m)) ∧ Below w.heap.size w w' := by
  rw [← M.rightM_eq]
  exact dright_msg x.m h h' K
theorem dsame_mv {w : World} {x y : Mv} (h : Rds w x.va x.m.r.c.rs) (h' : Wrs w x.vb x.m.r.c.ws) (g : Rds w y.va y.m.r.c.rs) (g' : Wrs w y.vb y.m.r.c.ws) (K : M.Mod x.m.r.c) (e : x.m = y.m) : Calls Try.prog 21 #[.agg x.cells.toArray, .agg y.cells.toArray] w fun e w' => e = .returned (.bool true) ∧ Below w.heap.size w w' := by
  have := dsame_msg x.m y.m h h' g g' K.l K.l'
  rw [show M.sameMsg x.m y.m = true by rw [e]; exact sameMsg_self _] at this
  exact this
theorem built_dv (x : Mv) : Try.prog.built 51 [(2, .agg x.cells.toArray)] = some (Dv.cells ⟨0, 0, x⟩).toArray := by kernel_rfl
theorem wpList_build_dv {ops : Array Oper} {rest : List Oper} {o : Oper} {a : Act} {w : World} {Q : Exit → Act → World → Prop} (hg : o.guard = none) (y : Operand) (ho : o.op = .build 51 #[(2, y)]) (x : Mv) (hy : a.eval y = .agg x.cells.toArray)
    (h : wpList Try.prog ops Q rest (a.put o.dst (.agg (Dv.cells ⟨0, 0, x⟩).toArray)) w) : wpList Try.prog ops Q (o :: rest) a w := by
  have e : Try.prog.built 51 ((#[(2, y)] : Array (Nat × Operand)).map fun (i, x) => (i, a.eval x)).toList = some (Dv.cells ⟨0, 0, x⟩).toArray := by
    simp only [List.map_toArray, List.map_cons, List.map_nil, hy]
    exact built_dv x
  refine wpList_build hg 51 #[(2, y)] ho (by rw [e]; rfl) ?_
  rw [e]
  exact h
end Go.Proofs.Ytnahboflpipfpaa
