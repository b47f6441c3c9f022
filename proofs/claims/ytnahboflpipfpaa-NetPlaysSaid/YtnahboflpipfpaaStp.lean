/- Laws: one step of a region that draws its order, on messages and rows of them; no conditions but those that they name. -/
import Derived.Test.YtnahboflpipfpaaDwo
namespace Go.Proofs.Ytnahboflpipfpaa
open Go.ChangeShapes Go.WideShapes Go.ChangeAt Go.RowKit

theorem step_appr {ops : Array Oper} {o : Oper} {a : Act} {w : World} {K : Act → World → Prop} {Q : Exit → Act → World → Prop} {E : Prop}
    (hg : o.guard = none) (s x : Operand) (t tn : TypeId) (hop : o.op = Op.call { callee := Callee.builtin Builtin.append, args := #[s, x], argTypes := #[t, tn] })
    (vs vx : Value) (hs : a.eval s = vs) (hx : a.eval x = vx) (v' : Value) (w' : World) (hr : (Builtin.append_ #[t, tn] o.type #[vs, vx]).run Try.prog w = .ok v' w')
    (hK : K (a.put o.dst v') w') : if Region.wanted o (yielded ops a.tmps) = true then Oper.wp Try.prog o a w K Q else E := by
  have hw : Region.wanted o (yielded ops a.tmps) = true := by simp [Region.wanted, hg]
  rw [if_pos hw]
  unfold Oper.wp
  simp [execOp, hop, resolve, invoke, builtin, hs, hx, hr, Result.andThen]
  exact hK
theorem step_store {ops : Array Oper} {o : Oper} {a : Act} {w : World} {K : Act → World → Prop} {Q : Exit → Act → World → Prop} {E : Prop} (hg : o.guard = none) (ty : TypeId) (x z : Operand) (ho : o.op = .store ty x z) (b : Nat) (t : TypeId) (Z L : List Value) (hx : a.eval x = .pointer (some ⟨b, 0, none⟩)) (hy : a.eval z = .agg L.toArray)
    (hh : Hold w b t Z) (hl : Z.length = L.length) (hi : (Try.prog.info? ty).map (·.size) = some L.length) (h1 : L.all (·.oneCell') = true) (hK : K (a.put o.dst undef) (w.setCells b 0 L)) : if Region.wanted o (yielded ops a.tmps) = true then Oper.wp Try.prog o a w K Q else E := by
  rw [if_pos (by simp [Region.wanted, hg])]
  exact wp_store_mid ty x z ho b 0 L.toArray hx hy (hh.there (by rw [hl, Nat.zero_add]; exact Nat.le_refl _)) (by simpa using hi) (by simpa using h1) hK
theorem step_build1 {ops : Array Oper} {o : Oper} {a : Act} {w : World} {K : Act → World → Prop} {Q : Exit → Act → World → Prop} {E : Prop} (hg : o.guard = none) (y : Operand) (ho : o.op = .buildSlice 27 1 #[(0, y)]) (x : Mv) (hy : a.eval y = .agg x.cells.toArray)
    (hK : K (a.put o.dst (.slice (some ⟨w.heap.size, 0, none⟩) 1 1)) (w.alloc (.cells x.cells.toArray 49))) : if Region.wanted o (yielded ops a.tmps) = true then Oper.wp Try.prog o a w K Q else E := by
  rw [if_pos (by simp [Region.wanted, hg])]
  obtain ⟨i0, hi, hz0, hz1, hz2⟩ := info_parts info49
  refine wp_buildSlice 27 49 1 #[(0, y)] ho x.cells.toArray i0 Mv.zero.val Try.underlying27 hi hz0 (by rw [hz1]; omega) (by rw [hz1]; omega) ?_ hK
  rw [hz1]
  simp only [List.map_toArray, List.map_cons, List.map_nil, hy]
  exact fill_mv x
theorem run_build0 (w : World) : (Instr.buildSlice 27 0 #[]).run Try.prog w = .ok (.slice (some ⟨w.heap.size, 0, none⟩) 0 0) (w.alloc (.cells #[] 49)) := by kernel_rfl
theorem step_build0 {ops : Array Oper} {o : Oper} {a : Act} {w : World} {K : Act → World → Prop} {Q : Exit → Act → World → Prop} {E : Prop} (hg : o.guard = none) (ho : o.op = .buildSlice 27 0 #[])
    (hK : K (a.put o.dst (.slice (some ⟨w.heap.size, 0, none⟩) 0 0)) (w.alloc (.cells #[] 49))) : if Region.wanted o (yielded ops a.tmps) = true then Oper.wp Try.prog o a w K Q else E := by
  rw [if_pos (by simp [Region.wanted, hg])]
  unfold Oper.wp
  simp only [execOp, ho, List.map_toArray, List.map_nil, Sem.run_bind, run_build0, Result.andThen_ok]
  exact hK
theorem bare (W : World) (k : Nat) : (W.alloc (.cells #[] 49)).ownsRow W.heap.size 49 k (.slice (some ⟨W.heap.size, 0, none⟩) 0 0) 0 [] := by
  refine ⟨by simp, .inr ⟨W.heap.size, 0, #[], rfl, Nat.le_refl _, ?_, by simp, by simp, by simp⟩⟩
  exact heap_alloc_new W _
theorem msgs_one {F : Nat → Prop} {w : World} {Y : List Mv} (h : ∀ y ∈ Y, Txt F w y) : ∀ u ∈ Y.flatMap Mv.cells, u.oneCell' = true := fun u hu => by
  obtain ⟨y, hy, hu⟩ := List.mem_flatMap.1 hu
  exact all_mem_one (h y hy).one u hu
theorem append_msgs {w : World} {base : Nat} {v u : Value} {n : Nat} {ys : List Value} {X : List Mv} (hown : w.ownsRow base 49 30 v n ys) (hX : RowN 30 w u X.length (X.flatMap Mv.cells)) (h1 : ∀ u ∈ X.flatMap Mv.cells, u.oneCell' = true) (hl : n + X.length ≤ 1000000) (hbase : base ≤ w.heap.size) :
    ∃ v' w', (Builtin.append_ #[27, 27] 27 #[v, u]).run Try.prog w = .ok v' w' ∧ w'.ownsRow base 49 30 v' (n + X.length) (ys ++ X.flatMap Mv.cells) ∧ w.grownBy w' v.ownBlock := by
  obtain ⟨i0, hi, hz0, hz1, hz2⟩ := info_parts info49
  exact append_rowN (z := Mv.zero.val) (bytes := 272) Try.underlying27 hi hz0 hz1 hz2 rfl (by omega) (by omega) hown hX h1 hl hbase
theorem row_mv (w : World) (x : Mv) : RowN 30 (w.alloc (.cells x.cells.toArray 49)) (.slice (some ⟨w.heap.size, 0, none⟩) 1 1) [x].length ([x].flatMap Mv.cells) := by
  rw [List.flatMap_singleton]
  exact ⟨rfl, some ⟨w.heap.size, 0, none⟩, 1, rfl, Nat.le_refl _, fun _ => ⟨w.heap.size, 0, rfl, by simp, fun j u hj => by
    have := mv_new w x j u hj
    rwa [add_plain0] at this⟩⟩
/-- What stands behind 'append(append([]api.Message{}, l...), m)', in whichever order. -/
def Apnd (W : World) (Y : List Mv) (x : Mv) (v2 : Value) (w2 : World) : Prop := w2.ownsRow W.heap.size 49 30 v2 (Y ++ [x]).length ((Y ++ [x]).flatMap Mv.cells) ∧ Below W.heap.size W w2
theorem apnd_of {W : World} {Y : List Mv} {x : Mv} {v2 : Value} {w2 : World} {B n : Nat} (o : w2.ownsRow B 49 30 v2 n (Y.flatMap Mv.cells ++ [x].flatMap Mv.cells)) (hn : n = Y.length + 1) (hB : W.heap.size ≤ B) (hb : Below W.heap.size W w2) : Apnd W Y x v2 w2 := by
  subst hn
  refine ⟨?_, hb⟩
  rw [List.length_append, List.flatMap_append]
  exact ownsRow_baseN o hB
section
variable {W : World} {v : Value} {Y : List Mv} {x : Mv} (h : RowN 30 W v Y.length (Y.flatMap Mv.cells)) (h1 : ∀ u ∈ Y.flatMap Mv.cells, u.oneCell' = true) (hx : x.cells.all (·.oneCell') = true) (hl : Y.length ≤ 1000)
include h h1 hx hl
/-- The empty row, the old ones, the new one's row, the new one. -/
theorem way_a : ∃ v1 w1 v2 w2, (Builtin.append_ #[27, 27] 27 #[.slice (some ⟨W.heap.size, 0, none⟩) 0 0, v]).run Try.prog (W.alloc (.cells #[] 49)) = .ok v1 w1 ∧ (Builtin.append_ #[27, 27] 27 #[v1, .slice (some ⟨w1.heap.size, 0, none⟩) 1 1]).run Try.prog (w1.alloc (.cells x.cells.toArray 49)) = .ok v2 w2 ∧ Below W.heap.size W w1 ∧ Apnd W Y x v2 w2 := by
  have nb : Below W.heap.size W (W.alloc (.cells #[] 49)) := below_new (Below.refl _ _)
  obtain ⟨v1, w1, r1, o1, g1⟩ := append_msgs (bare W 30) (h.below nb) h1 (by omega) (by simp)
  rw [Nat.zero_add, List.nil_append] at o1
  have b1 : Below W.heap.size W w1 := nb.grown g1 (by simp) (fun k e => ((bare W 30).lt k e).1)
  have b2 := below_new (o := .cells x.cells.toArray 49) (Below.refl w1.heap.size w1)
  have o2 := ownsRow_on o1 b2
  obtain ⟨v2, w2, r2, o3, g2⟩ := append_msgs o2 (row_mv w1 x) (by rw [List.flatMap_singleton]; exact all_mem_one hx) (by simp; omega) (by have := b1.size; simp; omega)
  exact ⟨v1, w1, v2, w2, r1, r2, b1, apnd_of o3 rfl (Nat.le_refl _) ((below_on b1 b2).grown g2 (by have := b1.size; simp; omega) (fun k e => (o2.lt k e).1))⟩
/-- The empty row, the new one's row, the old ones, the new one. -/
theorem way_b : ∃ v1 w1 v2 w2, (Builtin.append_ #[27, 27] 27 #[.slice (some ⟨W.heap.size, 0, none⟩) 0 0, v]).run Try.prog ((W.alloc (.cells #[] 49)).alloc (.cells x.cells.toArray 49)) = .ok v1 w1 ∧ (Builtin.append_ #[27, 27] 27 #[v1, .slice (some ⟨(W.alloc (.cells #[] 49)).heap.size, 0, none⟩) 1 1]).run Try.prog w1 = .ok v2 w2 ∧ Below W.heap.size W w1 ∧ Apnd W Y x v2 w2 := by
  have nb : Below W.heap.size W (W.alloc (.cells #[] 49)) := below_new (Below.refl _ _)
  have b2 := below_new (o := .cells x.cells.toArray 49) (Below.refl (W.alloc (.cells #[] 49)).heap.size (W.alloc (.cells #[] 49)))
  have o0 := ownsRow_on (bare W 30) b2
  obtain ⟨v1, w1, r1, o1, g1⟩ := append_msgs o0 (h.below (below_on nb b2)) h1 (by omega) (by simp; omega)
  rw [Nat.zero_add, List.nil_append] at o1
  have b1 : Below W.heap.size W w1 := (below_on nb b2).grown g1 (by simp; omega) (fun k e => (o0.lt k e).1)
  have hx1 : RowN 30 w1 (.slice (some ⟨(W.alloc (.cells #[] 49)).heap.size, 0, none⟩) 1 1) [x].length ([x].flatMap Mv.cells) := by
    have q := row_mv (W.alloc (.cells #[] 49)) x
    refine rowN_keepsN (F := fun y => (Value.slice (some ⟨W.heap.size, 0, none⟩) 0 0).ownBlock = some y) q (fun _ b e => ?_) (Keeps.of_grown g1 (fun y e => e))
    simp only [Value.ownBlock, Option.some.injEq] at e
    subst e
    exact ⟨fun f => by simp [Value.ownBlock] at f, by simp⟩
  obtain ⟨v2, w2, r2, o3, g2⟩ := append_msgs o1 hx1 (by rw [List.flatMap_singleton]; exact all_mem_one hx) (by simp; omega) b1.size
  exact ⟨v1, w1, v2, w2, r1, r2, b1, apnd_of o3 rfl (Nat.le_refl _) (b1.grown g2 b1.size (fun k e => (o1.lt k e).1))⟩
/-- The new one's row, the empty row, the old ones, the new one. -/
theorem way_c : ∃ v1 w1 v2 w2, (Builtin.append_ #[27, 27] 27 #[.slice (some ⟨(W.alloc (.cells x.cells.toArray 49)).heap.size, 0, none⟩) 0 0, v]).run Try.prog ((W.alloc (.cells x.cells.toArray 49)).alloc (.cells #[] 49)) = .ok v1 w1 ∧ (Builtin.append_ #[27, 27] 27 #[v1, .slice (some ⟨W.heap.size, 0, none⟩) 1 1]).run Try.prog w1 = .ok v2 w2 ∧ Below W.heap.size W w1 ∧ Apnd W Y x v2 w2 := by
  have nb : Below W.heap.size W (W.alloc (.cells x.cells.toArray 49)) := below_new (Below.refl _ _)
  have b2 := below_new (o := .cells #[] 49) (Below.refl (W.alloc (.cells x.cells.toArray 49)).heap.size (W.alloc (.cells x.cells.toArray 49)))
  have o0 := bare (W.alloc (.cells x.cells.toArray 49)) 30
  obtain ⟨v1, w1, r1, o1, g1⟩ := append_msgs o0 (h.below (below_on nb b2)) h1 (by omega) (by simp)
  rw [Nat.zero_add, List.nil_append] at o1
  have b1 : Below (W.alloc (.cells x.cells.toArray 49)).heap.size (W.alloc (.cells x.cells.toArray 49)) w1 := b2.grown g1 (by simp) (fun k e => (o0.lt k e).1)
  have hx1 := (row_mv W x).below b1
  obtain ⟨v2, w2, r2, o3, g2⟩ := append_msgs o1 hx1 (by rw [List.flatMap_singleton]; exact all_mem_one hx) (by simp; omega) b1.size
  exact ⟨v1, w1, v2, w2, r1, r2, below_on nb b1, apnd_of o3 rfl (by simp) (below_on nb (b1.grown g2 b1.size (fun k e => (o1.lt k e).1)))⟩
end
end Go.Proofs.Ytnahboflpipfpaa
