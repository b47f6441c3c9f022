/- A command that is being read: its block, its rows; steps of a region that draws; no conditions but those that they name. -/
import Derived.Test.YtagngbdlpdilnaaRdd
import Derived.Test.YtagngbdlpdilnaaCmdsG
import Derived.Deep.RegionLaw
import Derived.Deep.RegionWith
namespace Go.Proofs.Ytagngbdlpdilnaa
open Go.ChangeShapes Go.WideShapes Go.ChangeAt Go.RowKit

/-- append, whose run is known, as one step of a region that draws. -/
theorem step_app {P : Program} {ops : Array Oper} {o : Oper} {a : Act} {w : World} {K : Act → World → Prop} {Q : Exit → Act → World → Prop} {E : Prop}
    (hg : o.guard = none) (s x : Operand) (t tn : TypeId) (hop : o.op = Op.call { callee := Callee.builtin Builtin.append, args := #[s, x], argTypes := #[t, tn] })
    (vs vx : Value) (hs : a.eval s = vs) (hx : a.eval x = vx) (v' : Value) (w' : World) (hr : (Builtin.append_ #[t, tn] o.type #[vs, vx]).run P w = .ok v' w')
    (hK : K (a.put o.dst v') w') : if Region.wanted o (yielded ops a.tmps) = true then Oper.wp P o a w K Q else E := by
  have hw : Region.wanted o (yielded ops a.tmps) = true := by simp [Region.wanted, hg]
  rw [if_pos hw]
  unfold Oper.wp
  simp [execOp, hop, resolve, invoke, builtin, hs, hx, hr, Result.andThen]
  exact hK
theorem enter97 (v : Array Value) (w : World) : (callFunc 97 v).run Try.prog w = .ok (.enter 97 v) w := by kernel_rfl
theorem enter100 (v : Array Value) (w : World) : (callFunc 100 v).run Try.prog w = .ok (.enter 100 v) w := by kernel_rfl
/-- A call of a function, as one step of a region that draws. -/
theorem step_go {ops : Array Oper} {o : Oper} {a : Act} {w : World} {K : Act → World → Prop} {Q : Exit → Act → World → Prop} {E : Prop}
    (F : FuncId) (hen : ∀ v w, (callFunc F v).run Try.prog w = .ok (.enter F v) w)
    (hg : o.guard = none) (xs : Array Operand) (t : Array TypeId) (hop : o.op = Op.call { callee := Callee.value (.func F), args := xs, argTypes := t })
    (vs : Array Value) (hx : xs.map a.eval = vs) {Φ : Value → World → Prop} (h : Calls Try.prog F vs w fun e w' => ∃ v, e = .returned v ∧ Φ v w')
    (hK : ∀ v w', Φ v w' → K (a.put o.dst v) w') : if Region.wanted o (yielded ops a.tmps) = true then Oper.wp Try.prog o a w K Q else E := by
  have hw : Region.wanted o (yielded ops a.tmps) = true := by simp [Region.wanted, hg]
  rw [if_pos hw]
  unfold Oper.wp
  obtain ⟨dst, op, ty, pos, after, guard⟩ := o
  simp only at hop
  subst hop
  rw [execOp_call_go]
  have e : (#[] ++ xs.map a.eval ++ #[] : Array Value) = vs := by rw [hx]; simp
  rw [e, hen]
  refine h.mono ?_
  rintro e w' ⟨v, rfl, ho⟩
  exact hK v w' ho

theorem ownsRow_bel {w w' : World} {g base : Nat} {t : TypeId} {k : Nat} {v : Value} {n : Nat} {xs : List Value} (h : w.ownsRow base t k v n xs) (hb : Bel g w.heap.size w w') (hg : g < base) : w'.ownsRow base t k v n xs := by
  refine ⟨h.1, ?_⟩
  rcases h.2 with h0 | ⟨b, cap, cur, hv, hbb, hblk, r⟩
  · exact .inl h0
  · exact .inr ⟨b, cap, cur, hv, hbb, (hb.block b (Array.getElem?_eq_some_iff.1 hblk).1 (by omega)).trans hblk, r⟩
theorem ownsRow_grown {w w' : World} {base : Nat} {t : TypeId} {k : Nat} {v : Value} {n : Nat} {xs : List Value} {row : Option Nat} (h : w.ownsRow base t k v n xs) (hb : w.grownBy w' row) (hr : ∀ b cur, row = some b → w.heap[b]? ≠ some (.cells cur t (0, 0))) : w'.ownsRow base t k v n xs := by
  refine ⟨h.1, ?_⟩
  rcases h.2 with h0 | ⟨b, cap, cur, hv, hbb, hblk, r⟩
  · exact .inl h0
  · exact .inr ⟨b, cap, cur, hv, hbb, (hb.block b (Array.getElem?_eq_some_iff.1 hblk).1 (fun e => hr b cur e.symm hblk)).trans hblk, r⟩
/-- A row's block is of its type. -/
theorem ownsRow_type {w : World} {base : Nat} {t u : TypeId} {k : Nat} {v : Value} {n : Nat} {xs : List Value} (h : w.ownsRow base t k v n xs) (hu : t ≠ u) : ∀ b cur, v.ownBlock = some b → w.heap[b]? ≠ some (.cells cur u (0, 0)) := by
  intro b cur e hblk
  rcases h.2 with ⟨rfl, -⟩ | ⟨b', cap, cur', rfl, hbb, hblk', r⟩
  · cases e
  · cases e
    rw [hblk] at hblk'
    cases hblk'
    exact hu rfl
theorem ownsRow_ge {w : World} {base : Nat} {t : TypeId} {k : Nat} {v : Value} {n : Nat} {xs : List Value} (h : w.ownsRow base t k v n xs) : ∀ b, v.ownBlock = some b → base ≤ b := by
  intro b e
  rcases h.2 with ⟨rfl, -⟩ | ⟨b', cap, cur', rfl, hbb, r⟩
  · cases e
  · cases e; exact hbb
theorem Bel.grown {g : Nat} {w w' : World} {row : Option Nat} (hg : w.grownBy w' row) (B : Nat) (hB : B ≤ w.heap.size) (hr : ∀ k, row = some k → B ≤ k) : Bel g B w w' :=
  .of ((Below.refl B w).grown hg hB hr)

def Z9 : List Value := [.int .i64 0, .int .i64 0, .int .i64 0, .int .i64 0, .int .i64 0, .int .i64 0, .slice none 0 0, .slice none 0 0, .bool false]
/-- A command that is being read: the box of the reader's pointer, the answer's block, the command's block, its rows. -/
structure Cst (w : World) (g q cb base : Nat) (L : List Value) (va vb : Value) (cm : Bool) (rs : List (List UInt8 × Int × Int)) (ws : List (List UInt8 × List UInt8)) : Prop where
  box : Hold w q 125 [.pointer (some ⟨g, 0, none⟩)]
  res : Hold w (q + 1) 33 Z9
  cmd : Hold w cb 33 (L ++ [va, vb, .bool cm])
  ra : w.ownsRow base 74 3 va rs.length (rdsC rs)
  rb : w.ownsRow base 76 2 vb ws.length (wrsC ws)
  six : L.length = 6
  gq : g < q
  qc : q + 1 < cb
  cbb : cb < base
  top : base ≤ w.heap.size
theorem Cst.bel {w w' : World} {g q cb base : Nat} {L : List Value} {va vb : Value} {cm : Bool} {rs : List (List UInt8 × Int × Int)} {ws : List (List UInt8 × List UInt8)} (h : Cst w g q cb base L va vb cm rs ws) (k : Bel g w.heap.size w w') : Cst w' g q cb base L va vb cm rs ws :=
  have h1 := h.gq; have h2 := h.qc; have h3 := h.cbb
  ⟨h.box.bel k (by omega), h.res.bel k (by omega), h.cmd.bel k (by omega), ownsRow_bel h.ra k (by omega), ownsRow_bel h.rb k (by omega), h.six, h.gq, h.qc, h.cbb, Nat.le_trans h.top k.size⟩
theorem Cst.drew {w : World} {g q cb base : Nat} {L : List Value} {va vb : Value} {cm : Bool} {rs : List (List UInt8 × Int × Int)} {ws : List (List UInt8 × List UInt8)} (h : Cst w g q cb base L va vb cm rs ws) : Cst w.drew g q cb base L va vb cm rs ws := h.bel (Bel.refl _ _ _).drew
theorem Cst.atA {w : World} {g q cb base : Nat} {L : List Value} {va vb : Value} {cm : Bool} {rs : List (List UInt8 × Int × Int)} {ws : List (List UInt8 × List UInt8)} (h : Cst w g q cb base L va vb cm rs ws) : w.cell? ⟨cb, 6, none⟩ = some va :=
  h.cmd.cell 6 (by rw [List.getElem?_append_right (by rw [h.six]; omega), h.six]; rfl)
theorem Cst.atB {w : World} {g q cb base : Nat} {L : List Value} {va vb : Value} {cm : Bool} {rs : List (List UInt8 × Int × Int)} {ws : List (List UInt8 × List UInt8)} (h : Cst w g q cb base L va vb cm rs ws) : w.cell? ⟨cb, 7, none⟩ = some vb :=
  h.cmd.cell 7 (by rw [List.getElem?_append_right (by rw [h.six]; omega), h.six]; rfl)

theorem rds_one (w : World) (x : List UInt8 × Int × Int) : Rds (w.alloc (.cells (rdC x).toArray 74)) (.slice (some ⟨w.heap.size, 0, none⟩) 1 1) [x] :=
  ⟨rfl, some ⟨w.heap.size, 0, none⟩, 1, rfl, Nat.le_refl _, fun _ => ⟨w.heap.size, 0, rfl, by simp, fun j y hj => by
    rw [Nat.zero_add]
    exact (Cel.new w (rdC x) 74).get j y (by simpa [rdsC] using hj)⟩⟩
theorem wrs_one (w : World) (x : List UInt8 × List UInt8) : Wrs (w.alloc (.cells (wrC x).toArray 76)) (.slice (some ⟨w.heap.size, 0, none⟩) 1 1) [x] :=
  ⟨rfl, some ⟨w.heap.size, 0, none⟩, 1, rfl, Nat.le_refl _, fun _ => ⟨w.heap.size, 0, rfl, by simp, fun j y hj => by
    rw [Nat.zero_add]
    exact (Cel.new w (wrC x) 76).get j y (by simpa [wrsC] using hj)⟩⟩

theorem Rdr.low {w w' : World} {g B : Nat} {s : P.Sr} (h : Rdr w g s) (k : Below B w w') (hB : g < B) : Rdr w' g s := by
  obtain ⟨A, c, h, hc, hx⟩ := h
  refine ⟨A, c, (k.block g hB).trans h, hc, fun h0 => ?_⟩
  obtain ⟨b', o, e, hb', hx⟩ := hx h0
  exact ⟨b', o, e, hb', fun j x hj => (World.cell?_of_block (w := w) (k.block b' (by omega))).trans (hx j x hj)⟩

theorem Cst.putA {w : World} {g q cb base : Nat} {L : List Value} {va vb : Value} {cm : Bool} {rs : List (List UInt8 × Int × Int)} {ws : List (List UInt8 × List UInt8)} (h : Cst w g q cb base L va vb cm rs ws) (x : List UInt8 × Int × Int) (hl : rs.length ≤ 1000) :
    ∃ v' w', (Builtin.append_ #[30, 30] 30 #[va, .slice (some ⟨w.heap.size, 0, none⟩) 1 1]).run Try.prog (w.alloc (.cells (rdC x).toArray 74)) = .ok v' w' ∧ w'.cell? ⟨cb, 6, none⟩ = some va ∧ w'.frozen? ⟨cb, 6, none⟩ = false ∧
      Cst (w'.setCell ⟨cb, 6, none⟩ v') g q cb base L v' vb cm (rs ++ [x]) ws ∧ Below q w (w'.setCell ⟨cb, 6, none⟩ v') := by
  have hgq := h.gq
  have hqc := h.qc
  have hcb := h.cbb
  have htop := h.top
  obtain ⟨v', w', hr, hown, hgrow⟩ := append_rds (World.ownsRow.alloc h.ra (.cells (rdC x).toArray 74)) (rds_one w x) (by simp; omega) (by simp; omega)
  have hge := ownsRow_ge h.ra
  have hs : (w.alloc (.cells (rdC x).toArray 74)).heap.size = w.heap.size + 1 := by simp
  have hgs := hgrow.size
  have kbox : Hold w' q 125 [.pointer (some ⟨g, 0, none⟩)] := (hgrow.block q (by have := h.box.lt; omega) (fun e => by have := hge q e.symm; omega)).trans (h.box.alloc _)
  have kres : Hold w' (q + 1) 33 Z9 := (hgrow.block (q + 1) (by have := h.res.lt; omega) (fun e => by have := hge (q + 1) e.symm; omega)).trans (h.res.alloc _)
  have kcmd : Hold w' cb 33 (L ++ [va, vb, .bool cm]) := (hgrow.block cb (by omega) (fun e => by have := hge cb e.symm; omega)).trans (h.cmd.alloc _)
  have kra : w'.ownsRow base 74 3 v' (rs ++ [x]).length (rdsC (rs ++ [x])) := by
    have e1 : (rs ++ [x]).length = rs.length + 1 := by simp
    have e2 : rdsC (rs ++ [x]) = rdsC rs ++ rdsC [x] := by unfold rdsC; rw [List.flatMap_append]
    rw [e1, e2]; exact hown
  have krb : w'.ownsRow base 76 2 vb ws.length (wrsC ws) := ownsRow_grown (World.ownsRow.alloc h.rb (.cells (rdC x).toArray 74)) hgrow (ownsRow_type (World.ownsRow.alloc h.ra (.cells (rdC x).toArray 74)) (by decide))
  have kset := kcmd.put 6 v'
  have e3 : (L ++ [va, vb, .bool cm]).set 6 v' = L ++ [v', vb, .bool cm] := by
    rw [List.set_append_right _ _ (by rw [h.six]; omega), h.six]; rfl
  rw [e3] at kset
  have hst : Bel cb w'.heap.size w' (w'.setCell ⟨cb, 6, none⟩ v') := Bel.store w' cb 6 v'
  refine ⟨v', w', hr, kcmd.cell 6 (by rw [List.getElem?_append_right (by rw [h.six]; omega), h.six]; rfl), kcmd.soft 6, ⟨kbox.bel hst (by omega), kres.bel hst (by omega), kset, ownsRow_bel kra hst hcb, ownsRow_bel krb hst hcb, h.six, hgq, hqc, hcb, ?_⟩, ?_⟩
  · have := hst.size; omega
  · exact (((Below.refl q w).alloc (by omega) _).grown hgrow (by omega) (fun k e => by have := hge k e; omega)).setCell (by simp only; omega) v'

theorem Cst.putB {w : World} {g q cb base : Nat} {L : List Value} {va vb : Value} {cm : Bool} {rs : List (List UInt8 × Int × Int)} {ws : List (List UInt8 × List UInt8)} (h : Cst w g q cb base L va vb cm rs ws) (x : List UInt8 × List UInt8) (hl : ws.length ≤ 1000) :
    ∃ v' w', (Builtin.append_ #[31, 31] 31 #[vb, .slice (some ⟨w.heap.size, 0, none⟩) 1 1]).run Try.prog (w.alloc (.cells (wrC x).toArray 76)) = .ok v' w' ∧ w'.cell? ⟨cb, 7, none⟩ = some vb ∧ w'.frozen? ⟨cb, 7, none⟩ = false ∧
      Cst (w'.setCell ⟨cb, 7, none⟩ v') g q cb base L va v' cm rs (ws ++ [x]) ∧ Below q w (w'.setCell ⟨cb, 7, none⟩ v') := by
  have hgq := h.gq
  have hqc := h.qc
  have hcb := h.cbb
  have htop := h.top
  obtain ⟨v', w', hr, hown, hgrow⟩ := append_wrs (World.ownsRow.alloc h.rb (.cells (wrC x).toArray 76)) (wrs_one w x) (by simp; omega) (by simp; omega)
  have hge := ownsRow_ge h.rb
  have hs : (w.alloc (.cells (wrC x).toArray 76)).heap.size = w.heap.size + 1 := by simp
  have hgs := hgrow.size
  have kbox : Hold w' q 125 [.pointer (some ⟨g, 0, none⟩)] := (hgrow.block q (by have := h.box.lt; omega) (fun e => by have := hge q e.symm; omega)).trans (h.box.alloc _)
  have kres : Hold w' (q + 1) 33 Z9 := (hgrow.block (q + 1) (by have := h.res.lt; omega) (fun e => by have := hge (q + 1) e.symm; omega)).trans (h.res.alloc _)
  have kcmd : Hold w' cb 33 (L ++ [va, vb, .bool cm]) := (hgrow.block cb (by omega) (fun e => by have := hge cb e.symm; omega)).trans (h.cmd.alloc _)
  have kra : w'.ownsRow base 76 2 v' (ws ++ [x]).length (wrsC (ws ++ [x])) := by
    have e1 : (ws ++ [x]).length = ws.length + 1 := by simp
    have e2 : wrsC (ws ++ [x]) = wrsC ws ++ wrsC [x] := by unfold wrsC; rw [List.flatMap_append]
    rw [e1, e2]; exact hown
  have krb : w'.ownsRow base 74 3 va rs.length (rdsC rs) := ownsRow_grown (World.ownsRow.alloc h.ra (.cells (wrC x).toArray 76)) hgrow (ownsRow_type (World.ownsRow.alloc h.rb (.cells (wrC x).toArray 76)) (by decide))
  have kset := kcmd.put 7 v'
  have e3 : (L ++ [va, vb, .bool cm]).set 7 v' = L ++ [va, v', .bool cm] := by
    rw [List.set_append_right _ _ (by rw [h.six]; omega), h.six]; rfl
  rw [e3] at kset
  have hst : Bel cb w'.heap.size w' (w'.setCell ⟨cb, 7, none⟩ v') := Bel.store w' cb 7 v'
  refine ⟨v', w', hr, kcmd.cell 7 (by rw [List.getElem?_append_right (by rw [h.six]; omega), h.six]; rfl), kcmd.soft 7, ⟨kbox.bel hst (by omega), kres.bel hst (by omega), kset, ownsRow_bel krb hst hcb, ownsRow_bel kra hst hcb, h.six, hgq, hqc, hcb, ?_⟩, ?_⟩
  · have := hst.size; omega
  · exact (((Below.refl q w).alloc (by omega) _).grown hgrow (by omega) (fun k e => by have := hge k e; omega)).setCell (by simp only; omega) v'
end Go.Proofs.Ytagngbdlpdilnaa
