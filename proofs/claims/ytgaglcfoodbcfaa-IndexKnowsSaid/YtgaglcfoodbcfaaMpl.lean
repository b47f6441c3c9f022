/- The walk's laws on a map from instances to numbers, on a slice of one record; no conditions but those that each theorem names. -/
import Derived.Test.YtgaglcfoodbcfaaPx
import Derived.Great.BuildSlice
import Derived.Lib.Hide
namespace Go.Proofs.Ytgaglcfoodbcfaa
open Go.ChangeShapes Go.WideShapes Go.ChangeAt Go.RowKit

theorem rows_of_owns {w : World} {base : Nat} {v : Value} {X : List Rv} (h : w.ownsRow base 44 25 v X.length (X.flatMap Rv.cells)) (t : ∀ x ∈ X, Txt w x) : Rows w v X := ⟨RowN.of_owns h, t⟩
set_option maxRecDepth 100000 in
theorem fill_rec (x : Rv) : Instr.fill (fun i => some (i * 25, 25)) ((Array.range (1 * 25)).map (Rv.zero.val.cells[· % Rv.zero.val.cells.size]!)) [(0, Value.agg x.cells.toArray)] = some x.cells.toArray := by kernel_rfl
section
variable (w : World) {ops : Array Oper} {rest : List Oper} {o : Oper} {a : Act} {Q : Exit → Act → World → Prop}
theorem wpList_put (hg : o.guard = none) (mm x v : Operand) (hop : o.op = Op.mapUpdate 69 mm x v) (gm : Nat) (m : List (Ky × Int)) (hm : a.eval mm = .map (some gm)) (h : MapIs w gm m) (k : Ky) (y : Int) (hx : a.eval x = kv k) (hv : a.eval v = .int .i64 y)
    (hK : ∀ w', MapIs w' gm (mput m k y) → Below gm w w' → w'.heap.size = w.heap.size → wpList Try.prog ops Q rest (a.put o.dst undef) w') : wpList Try.prog ops Q (o :: rest) a w := by
  refine wpList_plain hg fun K' hK' => ?_
  obtain ⟨w', hrun, r1, r2, -, r3⟩ := run_put h k y
  unfold Oper.wp
  simp [execOp, hop, hm, hx, hv, hrun, Result.andThen]
  exact hK' _ _ (hK w' r1 r2 r3)
theorem wpList_look (hg : o.guard = none) (mm x : Operand) (hop : o.op = Op.lookup 69 mm x false) (gm : Nat) (m : List (Ky × Int)) (hm : a.eval mm = .map (some gm)) (h : MapIs w gm m) (k : Ky) (hx : a.eval x = kv k)
    (hK : wpList Try.prog ops Q rest (a.put o.dst (.int .i64 ((mget m k).getD 0))) w) : wpList Try.prog ops Q (o :: rest) a w := by
  refine wpList_plain hg fun K' hK' => ?_
  have hrun := run_look1 h k
  unfold Oper.wp
  simp [execOp, hop, hm, hx, hrun, Result.andThen]
  exact hK' _ _ hK
theorem wpList_len (hg : o.guard = none) (mm : Operand) (hop : o.op = Op.call { callee := Callee.builtin Builtin.len, args := #[mm], argTypes := #[69] }) (gm : Nat) (m : List (Ky × Int)) (hm : a.eval mm = .map (some gm)) (h : MapIs w gm m)
    (hK : wpList Try.prog ops Q rest (a.put o.dst (.int .i64 (m.length : Int))) w) : wpList Try.prog ops Q (o :: rest) a w := by
  refine wpList_plain hg fun K' hK' => ?_
  have hrun : ∀ ty, (Builtin.len_ #[69] ty #[.map (some gm)]).run Try.prog w = .ok (.int .i64 (m.length : Int)) w := fun ty => by
    obtain ⟨es, ck, hb, he⟩ := h
    have hl : es.size = m.length := by have := congrArg List.length he; simpa using this
    rw [← hl]
    simp [Builtin.len_, run_underlying Try.underlying69, MapKept.run_getObj_map hb, goInt, Result.andThen]
  unfold Oper.wp
  simp [execOp, hop, resolve, invoke, builtin, hm, hrun o.type, Result.andThen]
  exact hK' _ _ hK
end
theorem wpList_build44 {ops : Array Oper} {rest : List Oper} {o : Oper} {a : Act} {w : World} {Q : Exit → Act → World → Prop} (hg : o.guard = none) (y : Operand) (ho : o.op = .buildSlice 22 1 #[(0, y)]) (x : Rv) (hy : a.eval y = .agg x.cells.toArray)
    (h : wpList Try.prog ops Q rest (a.put o.dst (.slice (some ⟨w.heap.size, 0, none⟩) 1 1)) (w.alloc (.cells x.cells.toArray 44))) : wpList Try.prog ops Q (o :: rest) a w := by
  obtain ⟨i0, hi, hz0, hz1, hz2⟩ := info_parts info44
  refine wpList_buildSlice hg 22 44 1 #[(0, y)] ho x.cells.toArray i0 Rv.zero.val Try.underlying22 hi hz0 (by rw [hz1]; omega) (by rw [hz1]; omega) ?_ h
  rw [hz1]
  simp only [List.map_toArray, List.map_cons, List.map_nil, hy]
  exact fill_rec x
theorem add_plain' (b o k : Nat) : (⟨b, o, none⟩ : Addr).add k = ⟨b, o + k, none⟩ := by
  cases k <;> rfl
theorem rec_new (w : World) (x : Rv) : ∀ (j : Nat) (u : Value), x.cells[j]? = some u → (w.alloc (.cells x.cells.toArray 44)).cell? ((⟨w.heap.size, 0, none⟩ : Addr).add j) = some u := fun j u hj => by
  rw [add_plain', Nat.zero_add]
  exact (Cel.new w x.cells 44).get j u hj
theorem rec_one {x : Rv} (h1 : x.va.oneCell' = true) (h2 : x.vb.oneCell' = true) : ∀ u ∈ x.cells, u.oneCell' = true := by
  intro u hu
  simp only [Rv.cells, List.mem_cons, List.not_mem_nil, or_false] at hu
  rcases hu with rfl | rfl | rfl | rfl | rfl | rfl | rfl | rfl | rfl | rfl | rfl | rfl | rfl | rfl | rfl | rfl | rfl | rfl | rfl | rfl | rfl | rfl | rfl | rfl | rfl
  all_goals first | exact h1 | exact h2 | rfl
end Go.Proofs.Ytgaglcfoodbcfaa
