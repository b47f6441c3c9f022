/- Laws: a slice of one step, or of one message; no conditions. -/
import Derived.Test.YtnahboflpipfpaaDos
import Derived.Great.BuildSlice
namespace Go.Proofs.Ytnahboflpipfpaa
open Go.ChangeShapes Go.WideShapes Go.ChangeAt Go.RowKit

theorem info49 : (Try.prog.info? 49).map (fun i => (i.zero, i.size, i.bytes)) = some (some Mv.zero.val, 30, 272) := by kernel_rfl
theorem info51 : (Try.prog.info? 51).map (fun i => (i.zero, i.size, i.bytes)) = some (some (.agg (Dv.cells ⟨0, 0, Mv.zero⟩).toArray), 32, 288) := by kernel_rfl
theorem fill_mv (x : Mv) : Instr.fill (fun i => some (i * 30, 30)) ((Array.range (1 * 30)).map (Mv.zero.val.cells[· % Mv.zero.val.cells.size]!)) [(0, Value.agg x.cells.toArray)] = some x.cells.toArray := by kernel_rfl
theorem fill_dv (d : Dv) : Instr.fill (fun i => some (i * 32, 32)) ((Array.range (1 * 32)).map ((Value.agg (Dv.cells ⟨0, 0, Mv.zero⟩).toArray).cells[· % (Value.agg (Dv.cells ⟨0, 0, Mv.zero⟩).toArray).cells.size]!)) [(0, Value.agg d.cells.toArray)] = some d.cells.toArray := by kernel_rfl
theorem wpList_build49 {ops : Array Oper} {rest : List Oper} {o : Oper} {a : Act} {w : World} {Q : Exit → Act → World → Prop} (hg : o.guard = none) (y : Operand) (ho : o.op = .buildSlice 27 1 #[(0, y)]) (x : Mv) (hy : a.eval y = .agg x.cells.toArray)
    (h : wpList Try.prog ops Q rest (a.put o.dst (.slice (some ⟨w.heap.size, 0, none⟩) 1 1)) (w.alloc (.cells x.cells.toArray 49))) : wpList Try.prog ops Q (o :: rest) a w := by
  obtain ⟨i0, hi, hz0, hz1, hz2⟩ := info_parts info49
  refine wpList_buildSlice hg 27 49 1 #[(0, y)] ho x.cells.toArray i0 Mv.zero.val Try.underlying27 hi hz0 (by rw [hz1]; omega) (by rw [hz1]; omega) ?_ h
  rw [hz1]
  simp only [List.map_toArray, List.map_cons, List.map_nil, hy]
  exact fill_mv x
theorem wpList_build51 {ops : Array Oper} {rest : List Oper} {o : Oper} {a : Act} {w : World} {Q : Exit → Act → World → Prop} (hg : o.guard = none) (y : Operand) (ho : o.op = .buildSlice 22 1 #[(0, y)]) (x : Dv) (hy : a.eval y = .agg x.cells.toArray)
    (h : wpList Try.prog ops Q rest (a.put o.dst (.slice (some ⟨w.heap.size, 0, none⟩) 1 1)) (w.alloc (.cells x.cells.toArray 51))) : wpList Try.prog ops Q (o :: rest) a w := by
  obtain ⟨i0, hi, hz0, hz1, hz2⟩ := info_parts info51
  refine wpList_buildSlice hg 22 51 1 #[(0, y)] ho x.cells.toArray i0 (.agg (Dv.cells ⟨0, 0, Mv.zero⟩).toArray) Try.underlying22 hi hz0 (by rw [hz1]; omega) (by rw [hz1]; omega) ?_ h
  rw [hz1]
  simp only [List.map_toArray, List.map_cons, List.map_nil, hy]
  exact fill_dv x
end Go.Proofs.Ytnahboflpipfpaa
