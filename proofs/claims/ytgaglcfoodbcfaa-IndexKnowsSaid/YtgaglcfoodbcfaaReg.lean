/- What the regions that draw their order share: appends of records, what hangs on records alone; no conditions but those that each theorem names. -/
import Derived.Test.YtgaglcfoodbcfaaOwx
import Derived.Test.YtgaglcfoodbcfaaAwk
import Derived.Orders
namespace Go.Proofs.Ytgaglcfoodbcfaa
open Go.ChangeShapes Go.WideShapes Go.ChangeAt Go.RowKit

def wf2 (md : Region.Mode) (ops : Array Oper) : Bool := (List.range ops.size).all fun j => ((ops[j]?).map fun o => o.after.all fun e => !Region.binds md e || decide (e.on < j)).getD true
theorem all_listed2 {ops : Array Oper} {md : Region.Mode} {L : Array Bool} (hw : wf2 md ops = true) (hs : L.size = ops.size) (hr : Region.ready md ops L = []) : ∀ j, j < ops.size → L.getD j false = true := by
  intro j
  induction j using Nat.strongRecOn with
  | _ j ih =>
    intro hj
    cases hg : L.getD j false
    · exfalso
      have hu : L.getD j true = false := by simp [hs, hj] at hg ⊢; exact hg
      have hm : j ∈ Region.ready md ops L := by
        refine mem_ready.2 ⟨hu, ops[j], Array.getElem?_eq_getElem hj, fun e he hb => ?_⟩
        have h1 := List.all_eq_true.1 hw j (List.mem_range.2 hj)
        rw [Array.getElem?_eq_getElem hj] at h1
        have h2 : e.on < j := by
          simp at h1
          obtain ⟨i, hi, rfl⟩ := Array.mem_iff_getElem.1 he
          rcases h1 i hi with h3 | h3
          · rw [hb] at h3; cases h3
          · exact h3
        exact ih e.on h2 (by omega)
      rw [hr] at hm
      cases hm
    · rfl
theorem append_recs {w : World} {base : Nat} {v u : Value} {n : Nat} {ys : List Value} {X : List Rv} (hown : w.ownsRow base 44 25 v n ys) (hX : RowN 25 w u X.length (X.flatMap Rv.cells)) (h1 : ∀ x ∈ X, x.va.oneCell' = true ∧ x.vb.oneCell' = true) (hl : n + X.length ≤ 1000000) (hbase : base ≤ w.heap.size) :
    ∃ v' w', (Builtin.append_ #[22, 22] 22 #[v, u]).run Try.prog w = .ok v' w' ∧ w'.ownsRow base 44 25 v' (n + X.length) (ys ++ X.flatMap Rv.cells) ∧ w.grownBy w' v.ownBlock := by
  obtain ⟨i0, hi, hz0, hz1, hz2⟩ := info_parts info44
  exact append_rowN Try.underlying22 hi hz0 hz1 hz2 rfl (by decide) (by decide) hown hX (flat_one X h1) hl hbase
theorem hold_own_ne {w : World} {g t t' k B n : Nat} {L : List Value} {v : Value} {xs : List Value} (h : Hold w g t L) (o : w.ownsRow B t' k v n xs) (ne : t ≠ t') : some g ≠ v.ownBlock := by
  intro e
  rcases o.2 with ⟨rfl, _⟩ | ⟨q, cap, cur, rfl, _, hg, _⟩
  · simp [Value.ownBlock] at e
  · simp only [Value.ownBlock, Option.some.injEq] at e
    subst e
    unfold Hold at h
    rw [h] at hg
    simp only [Option.some.injEq, Obj.cells.injEq] at hg
    exact ne hg.2.1
theorem hold_grown {w w' : World} {g t : Nat} {L : List Value} {row : Option Nat} (h : Hold w g t L) (k : w.grownBy w' row) (hn : some g ≠ row) : Hold w' g t L := (k.block g (hold_lt h) hn).trans h
theorem rowOne {w : World} {q : Nat} {x : Rv} (h : Hold w q 44 x.cells) : RowN 25 w (.slice (some ⟨q, 0, none⟩) 1 1) 1 ([x].flatMap Rv.cells) :=
  ⟨flat_len [x], some ⟨q, 0, none⟩, 1, rfl, Nat.le_refl 1, fun _ => ⟨q, 0, rfl, hold_lt h, fun j v hj => by
    rw [Nat.zero_add]
    exact hold_cell h j (by simpa using hj)⟩⟩
theorem mod_rcs {X Y : List Rv} (h : rcs Y = rcs X) (m : ∀ x ∈ X, M.Mod x.r.c) : ∀ y ∈ Y, M.Mod y.r.c := fun y hy => by
  have : y.r ∈ rcs X := by rw [← h]; exact List.mem_map.2 ⟨y, hy, rfl⟩
  obtain ⟨x, hx, e⟩ := List.mem_map.1 this
  rw [← e]
  exact m x hx
theorem len_rcs {X Y : List Rv} (h : rcs Y = rcs X) : Y.length = X.length := by have := congrArg List.length h; rwa [rcs_len, rcs_len] at this
theorem atS_rcs {X Y : List Rv} (h : rcs Y = rcs X) (i : Ky) (c : M.Cmd) (s : Int) : atS Y i c s = atS X i c s := by unfold atS; rw [confs_rcs i c h]
theorem atD_rcs {X Y : List Rv} (h : rcs Y = rcs X) (i : Ky) (c : M.Cmd) (d : Nat → Int) : atD Y i c d = atD X i c d := by unfold atD; rw [confs_rcs i c h]
/-- Attrs of records that read as those of X. -/
theorem attrs_as {w : World} {v : Value} {X Y : List Rv} (h : Rows w v Y) (e : rcs Y = rcs X) (hl : X.length ≤ 1000) (hm : ∀ x ∈ X, M.Mod x.r.c) (i1 i2 : Int) (c : M.Cmd) {ua ub : Value} (g : Rds w ua c.rs) (g' : Wrs w ub c.ws) (G : M.Mod c) (s : Int) (d : Nat → Int) :
    Calls Try.prog 21 #[v, .agg #[.int .i64 i1, .int .i64 i2], .agg #[.int .i64 c.k, .int .i64 c.tc, .int .i64 c.tn, .int .i64 c.tt, .int .i64 c.tk, .int .i64 c.sh, ua, ub, .bool c.cm], .int .i64 s, .agg #[.int .i64 (d 0), .int .i64 (d 1), .int .i64 (d 2), .int .i64 (d 3), .int .i64 (d 4), .int .i64 (d 5), .int .i64 (d 6)]] w (Attd (atS X (i1, i2) c s) (atD X (i1, i2) c d) w) := by
  rw [← atS_rcs e, ← atD_rcs e]
  exact attrs_any h (by rw [len_rcs e]; exact hl) (mod_rcs e hm) i1 i2 c g g' G s d
theorem slot_as {w : World} {v : Value} {X Y : List Rv} (p : Int) (h : Rows w v Y) (e : rcs Y = rcs X) (hl : X.length ≤ 1000) : Calls Try.prog 19 #[v, .int .i64 p] w fun e w' => e = .returned (.int .i64 (nextSlot p (rcs X))) ∧ Below w.heap.size w w' := by
  rw [← e]
  exact slot_any p h (by rw [len_rcs e]; exact hl)
theorem own_snoc {w w2 : World} {base : Nat} {v v' : Value} {Y : List Rv} {x : Rv} (h : OwnRows w base v Y) (ho : w2.ownsRow base 44 25 v' (Y.length + 1) (Y.flatMap Rv.cells ++ [x].flatMap Rv.cells)) (hg : w.grownBy w2 v.ownBlock) (t : Txt w2 x) : Rows w2 v' (Y ++ [x]) := by
  obtain ⟨k1, k2⟩ := h.kept hg
  refine rows_of_owns (base := base) (by rw [List.flatMap_append, List.length_append]; exact ho) fun y hy => ?_
  rcases List.mem_append.1 hy with hy | hy
  · obtain ⟨B, hB, q⟩ := k1 y hy
    obtain ⟨B', hB', q'⟩ := k2 y hy
    exact ⟨RowN.of_owns q, RowN.of_owns q'⟩
  · rw [List.mem_singleton.1 hy]; exact t
theorem step_build44 {ops : Array Oper} {o : Oper} {a : Act} {w : World} {K : Act → World → Prop} {Q : Exit → Act → World → Prop} {E : Prop} (hg : o.guard = none) (y : Operand) (ho : o.op = .buildSlice 22 1 #[(0, y)]) (x : Rv) (hy : a.eval y = .agg x.cells.toArray)
    (hK : K (a.put o.dst (.slice (some ⟨w.heap.size, 0, none⟩) 1 1)) (w.alloc (.cells x.cells.toArray 44))) : if Region.wanted o (yielded ops a.tmps) = true then Oper.wp Try.prog o a w K Q else E := by
  rw [if_pos (by simp [Region.wanted, hg])]
  obtain ⟨i0, hi, hz0, hz1, hz2⟩ := info_parts info44
  refine wp_buildSlice 22 44 1 #[(0, y)] ho x.cells.toArray i0 Rv.zero.val Try.underlying22 hi hz0 (by rw [hz1]; omega) (by rw [hz1]; omega) ?_ hK
  rw [hz1]
  simp only [List.map_toArray, List.map_cons, List.map_nil, hy]
  exact fill_rec x
theorem OwnRows.mono {w : World} {B B' : Nat} {v : Value} {Y : List Rv} (h : OwnRows w B' v Y) (hb : B ≤ B') : OwnRows w B v Y :=
  ⟨ownsRow_baseN h.row hb, fun y hy => by obtain ⟨C, hC, q⟩ := h.rs y hy; exact ⟨C, by omega, q⟩, fun y hy => by obtain ⟨C, hC, q⟩ := h.ws y hy; exact ⟨C, by omega, q⟩⟩
end Go.Proofs.Ytgaglcfoodbcfaa
