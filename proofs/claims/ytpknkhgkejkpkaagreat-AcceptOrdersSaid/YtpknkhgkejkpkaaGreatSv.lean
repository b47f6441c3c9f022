/- Stores into a block that is known whole; the value of an answer; no conditions but those that each theorem names. -/
import Derived.Test.YtpknkhgkejkpkaaGreatRw
import Derived.Great.BuildSlice
import Derived.TacticsIn
import Derived.OwnWalkIn
import Derived.RangeFuncOwn
namespace Go.Proofs.YtpknkhgkejkpkaaGreat
open Go.ChangeShapes Go.WideShapes Go.ChangeAt Go.RowKit

/-- A store into block b: what stands. -/
structure Wrote (b : Nat) (w w' : World) : Prop where
  size : w'.heap.size = w.heap.size
  block : ∀ k, k < w.heap.size → k ≠ b → w'.heap[k]? = w.heap[k]?
  below : ∀ (B : Nat) (a : World), B ≤ b → Below B a w → Below B a w'
theorem Wrote.hold {b : Nat} {w w' : World} (k : Wrote b w w') {g : Nat} {t : TypeId} {L : List Value} (h : Hold w g t L) (hn : g ≠ b) : Hold w' g t L := (k.block g (hold_lt h) hn).trans h
theorem Wrote.owns {b : Nat} {w w' : World} (k : Wrote b w w') {base : Nat} {t : TypeId} {n m : Nat} {v : Value} {xs : List Value} (h : w.ownsRow base t n v m xs) (hb : b < base) : w'.ownsRow base t n v m xs := by
  refine ⟨h.1, ?_⟩
  rcases h.2 with h0 | ⟨g, cap, cur, hv, hg, hblk, r⟩
  · exact .inl h0
  · exact .inr ⟨g, cap, cur, hv, hg, (k.block g (Array.getElem?_eq_some_iff.1 hblk).1 (by omega)).trans hblk, r⟩
theorem setCells_size (b : Nat) : ∀ (L : List Value) (o : Nat) (w : World), (w.setCells b o L).heap.size = w.heap.size
  | [], _, _ => rfl
  | v :: L, o, w => by rw [World.setCells, setCells_size b L (o + 1)]; simp
theorem Wrote.cells (w : World) (b o : Nat) (L : List Value) : Wrote b w (w.setCells b o L) :=
  ⟨setCells_size b L o w, fun _ hk hn => World.heap_setCells_other w b o L hk hn, fun _ _ hB h => below_setCells hB L o _ _ h⟩
theorem hold_put {w : World} {b : Nat} {t : TypeId} {L : List Value} (h : Hold w b t L) (o : Nat) (v : Value) : Hold (w.setCell ⟨b, o, none⟩ v) b t (L.set o v) := by
  unfold Hold at h ⊢
  rw [heap_setCell_same w b o _ t _ h]
  simp
theorem Wrote.cell (w : World) (b o : Nat) (v : Value) : Wrote b w (w.setCell ⟨b, o, none⟩ v) :=
  ⟨by simp, fun _ _ hn => heap_setCell_other w ⟨b, o, none⟩ _ v hn, fun _ _ hB h => h.setCell hB v⟩
theorem hold_soft {w : World} {b : Nat} {t : TypeId} {L : List Value} (h : Hold w b t L) (o : Nat) : w.frozen? ⟨b, o, none⟩ = false := frozen_of_row w b o _ t h
/-- A store of a whole value into a block that is known. -/
theorem store_hold {P : Program} {ops : Array Oper} {rest : List Oper} {op : Oper} {a : Act} {w : World} {Q : Exit → Act → World → Prop} (hgd : op.guard = none) (ty : TypeId) (x y : Operand) (ho : op.op = .store ty x y)
    (b o : Nat) (hx : a.eval x = .pointer (some ⟨b, o, none⟩)) (t : TypeId) (L old new : List Value) (hy : a.eval y = .agg L.toArray) (hH : Hold w b t old) (hn : new = old.take o ++ L ++ old.drop (o + L.length)) (hl : o + L.length ≤ old.length)
    (hi : (P.info? ty).map (·.size) = some L.length) (h1 : L.all (·.oneCell') = true)
    (h : ∀ w', Hold w' b t new → Wrote b w w' → wpList P ops Q rest (a.put op.dst undef) w') : wpList P ops Q (op :: rest) a w := by
  refine store_list hgd ty x y ho b o L hx hy (hH.there hl) hi h1 (h _ ?_ (Wrote.cells w b o L))
  have e : old = old.take o ++ (old.drop o).take L.length ++ old.drop (o + L.length) := by
    rw [List.append_assoc, ← List.drop_drop, List.take_append_drop, List.take_append_drop]
  rw [e] at hH
  have hp : (old.take o).length = o := by rw [List.length_take]; omega
  have := Hold.set L (old.take o) ((old.drop o).take L.length) (old.drop (o + L.length)) (by rw [List.length_take, List.length_drop]; omega) w hH
  rw [hp] at this
  rw [hn]
  exact this
theorem keeps_setCells (b : Nat) : ∀ (L : List Value) (o : Nat) (W : World), KeepsOthers W (W.setCells b o L)
  | [], _, W => KeepsOthers.refl W
  | v :: L, o, W => (KeepsOthers.setCell W ⟨b, o, none⟩ v).trans (keeps_setCells b L (o + 1) _)
section
variable {F : Fence} {n : Nat} {P : Program}
/-- Inside a fence: a load, a store into a new block, a store into a known one. -/
theorem inList_load {ops : Array Oper} {rest : List Oper} {op : Oper} {a : Act} {w : World} {Q : Exit → Act → World → Prop} (hgd : op.guard = none) (ty : TypeId) (x : Operand) (ho : op.op = .load ty x)
    (b o : Nat) (hx : a.eval x = .pointer (some ⟨b, o, none⟩)) (cs : List Value) (d : TypeDesc) (hc : w.rangeAt b o cs)
    (hu : P.underlying ty = some d) (hd : d.isRow = true) (hi : (P.info? ty).map (·.size) = some cs.length)
    (h : wpListIn F n P ops Q rest (a.put op.dst (.agg cs.toArray)) w) : wpListIn F n P ops Q (op :: rest) a w := by
  refine wpListIn_plain hgd fun K hK => ?_
  unfold Oper.wpIn
  refine ⟨?_, ?_⟩
  · simp [Oper.about, ho]
  · rw [Oper.semAt_plain F _ _ (by rw [ho]; intro c hc'; cases hc')]
    unfold execOp
    simp only [ho, hx, Instr.loadAt, Instr.sureAddr, Sem.run_bind, Sem.run_pure, Result.andThen_ok, run_loadVar_mid w b o ty cs d hc hu hd hi]
    exact hK _ _ h
theorem inList_store {ops : Array Oper} {rest : List Oper} {op : Oper} {a : Act} {w : World} {Q : Exit → Act → World → Prop} (hgd : op.guard = none) (ty : TypeId) (x y : Operand) (ho : op.op = .store ty x y)
    (b o : Nat) (hx : a.eval x = .pointer (some ⟨b, o, none⟩)) (t : TypeId) (L old new : List Value) (hy : a.eval y = .agg L.toArray) (hH : Hold w b t old) (hn : new = old.take o ++ L ++ old.drop (o + L.length)) (hl : o + L.length ≤ old.length)
    (hi : (P.info? ty).map (·.size) = some L.length) (h1 : L.all (·.oneCell') = true)
    (h : ∀ w', Hold w' b t new → Wrote b w w' → KeepsOthers w w' → wpListIn F n P ops Q rest (a.put op.dst undef) w') : wpListIn F n P ops Q (op :: rest) a w := by
  have hh : Hold (w.setCells b o L) b t new := by
    have e : old = old.take o ++ (old.drop o).take L.length ++ old.drop (o + L.length) := by
      rw [List.append_assoc, ← List.drop_drop, List.take_append_drop, List.take_append_drop]
    have hH' := hH
    rw [e] at hH'
    have hp : (old.take o).length = o := by rw [List.length_take]; omega
    have := Hold.set L (old.take o) ((old.drop o).take L.length) (old.drop (o + L.length)) (by rw [List.length_take, List.length_drop]; omega) w hH'
    rw [hp] at this
    rw [hn]
    exact this
  refine wpListIn_plain hgd fun K hK => ?_
  unfold Oper.wpIn
  refine ⟨?_, ?_⟩
  · simp [Oper.about, ho]
  · rw [Oper.semAt_plain F _ _ (by rw [ho]; intro c hc'; cases hc')]
    unfold execOp
    simp only [ho, hx, hy, Instr.storeAt, Instr.sureAddr, Sem.run_bind, Sem.run_pure, Result.andThen_ok, run_storeVar_mid w b o ty L.toArray (by simpa using hH.there hl) (by simpa using hi) (by simpa using h1)]
    exact hK _ _ (h _ hh (Wrote.cells w b o L) (keeps_setCells b L o w))
end
/-- A message, and the slices of its command. -/
structure Mv where
  m : M.Msg
  va : Value
  vb : Value
def Mv.cells (x : Mv) : List Value := [.int .i64 x.m.k, .int .i64 x.m.fr, .int .i64 x.m.to, .int .i64 x.m.bn, .int .i64 x.m.br, .int .i64 x.m.r.ir, .int .i64 x.m.r.is, .int .i64 x.m.r.st, .int .i64 x.m.r.pn, .int .i64 x.m.r.pr, .int .i64 x.m.r.bn, .int .i64 x.m.r.br, .int .i64 x.m.r.c.k, .int .i64 x.m.r.c.tc, .int .i64 x.m.r.c.tn, .int .i64 x.m.r.c.tt, .int .i64 x.m.r.c.tk, .int .i64 x.m.r.c.sh, x.va, x.vb, .bool x.m.r.c.cm, .int .i64 x.m.r.sq, .int .i64 x.m.r.d0, .int .i64 x.m.r.d1, .int .i64 x.m.r.d2, .int .i64 x.m.r.d3, .int .i64 x.m.r.d4, .int .i64 x.m.r.d5, .int .i64 x.m.r.d6, .bool x.m.r.kp]
theorem rv_size (x : Rv) : (Tryz.prog.info? 41).map (·.size) = some x.cells.length := by kernel_rfl
theorem mv_size (x : Mv) : (Tryz.prog.info? 49).map (·.size) = some x.cells.length := by kernel_rfl
theorem rv_one {x : Rv} (h1 : x.va.oneCell' = true) (h2 : x.vb.oneCell' = true) : x.cells.all (·.oneCell') = true := by
  simp only [Rv.cells, List.all_cons, List.all_nil, h1, h2]; rfl
theorem mv_one {x : Mv} (h1 : x.va.oneCell' = true) (h2 : x.vb.oneCell' = true) : x.cells.all (·.oneCell') = true := by
  simp only [Mv.cells, List.all_cons, List.all_nil, h1, h2]; rfl
/-- What a slice that reads as reads or writes is made of: one cell. -/
theorem rds_one {w : World} {v : Value} {l : List (List UInt8 × Int × Int)} (h : Rds w v l) : v.oneCell' = true := by
  obtain ⟨A, c, rfl⟩ := rowN_sliceOf h; rfl
theorem wrs_one {w : World} {v : Value} {l : List (List UInt8 × List UInt8)} (h : Wrs w v l) : v.oneCell' = true := by
  obtain ⟨A, c, rfl⟩ := rowN_sliceOf h; rfl
end Go.Proofs.YtpknkhgkejkpkaaGreat
