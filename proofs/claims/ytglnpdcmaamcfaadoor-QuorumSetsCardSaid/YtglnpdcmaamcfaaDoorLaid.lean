/- What the rows' list gives: the cells of the table of counts; and a world that meets it, for the witness; no further conditions. -/
import Derived.Test.YtglnpdcmaamcfaaDoorCards
import Derived.Test.YtglnpdcmaamcfaaDoorTie
import Derived.Test.YtglnpdcmaamcfaaDoorWalks
import Derived.ProofKit
import Derived.OpenShut
import Derived.Deep.Strs
import Derived.Deep.DeepHandedRow
import Derived.Lib.LaidTab
namespace Go.Proofs.YtglnpdcmaamcfaaDoor
open Go.ChangeShapes Go.WideShapes Go.ChangeAt Go.RowKit

theorem own : ownKnob Tryd.prog.godebug = none := by kernel_rfl
theorem gTab : Tryd.prog.globalNamed "althing/quorum.countsOf" = some 0 := by kernel_rfl
theorem gTabType : (Tryd.prog.globals[0]?).map (·.type) = some 33 := by kernel_rfl
theorem cells33 : Tryd.prog.cellsOf 33 = 12 := by kernel_rfl
theorem cells32 : Tryd.prog.cellsOf 32 = 3 := by kernel_rfl
theorem cells3 : Tryd.prog.cellsOf 3 = 1 := by kernel_rfl

/-- A row of the table, read: three numbers. -/
theorem row_read {H : Type} {enc : TypeId × Value → H} {w : World} {base : Nat} {sp : Nat → Bool} {held : Bool} {fuel : Nat} {cs : List Value} {a b c : Int} {p : List MemPlace}
    (h : DataW.trod enc Tryd.prog w base sp held fuel 32 cs = some (.agg [.lit (.int .i64 a), .lit (.int .i64 b), .lit (.int .i64 c)], p)) :
    cs[0]? = some (.int .i64 a) ∧ cs[1]? = some (.int .i64 b) ∧ cs[2]? = some (.int .i64 c) := by
  obtain ⟨y0, y1, y2, n, hx, hl, h0, h1, h2⟩ := Deep.trod_struct3 Tryd.underlying32 h
  simp only [Prod.mk.injEq, DataW.agg.injEq, List.cons.injEq, and_true] at hx
  obtain ⟨⟨e0, e1, e2⟩, _⟩ := hx
  rw [cells3] at h0 h1 h2
  obtain ⟨n0, c0, x0, _⟩ := DataW.trod_int Tryd.underlying3 h0
  obtain ⟨n1, c1, x1, _⟩ := DataW.trod_int Tryd.underlying3 h1
  obtain ⟨n2, c2, x2, _⟩ := DataW.trod_int Tryd.underlying3 h2
  rw [x0] at e0; rw [x1] at e1; rw [x2] at e2
  simp only [DataW.lit.injEq, Lit.int.injEq, true_and] at e0 e1 e2
  subst e0 e1 e2
  have d0 := congrArg (·[0]?) c0
  have d1 := congrArg (·[0]?) c1
  have d2 := congrArg (·[0]?) c2
  simp [List.getElem?_drop] at d0 d1 d2
  exact ⟨d0, d1, d2⟩

/-- WHAT THE ROWS' LIST GIVES: the table's cells hold its numbers. -/
theorem table {W : World} (h : laidMetH Tryd.prog [("althing/quorum.countsOf", Rows.laid_althing_quorum_countsOf)] W) : Tab W := by
  obtain ⟨ps, ⟨g', t', cs, fuel, p, q, hg', ht', hvar, hd, _, _⟩, _⟩ := (show laidMet Tryd.prog [("althing/quorum.countsOf", Rows.laid_althing_quorum_countsOf)] W from h)
  obtain rfl := Option.some.inj (gTab.symm.trans hg')
  obtain rfl := Option.some.inj (gTabType.symm.trans ht')
  obtain ⟨xs, m, _, hx, hl, hlen, hi⟩ := DataW.trod_array Tryd.underlying33 hd
  match xs, hlen with
  | [x0, x1, x2, x3], _ =>
    unfold Rows.laid_althing_quorum_countsOf at hx
    simp only [Prod.mk.injEq, DataW.agg.injEq, List.map_cons, List.map_nil, List.cons.injEq, and_true] at hx
    obtain ⟨⟨e0, e1, e2, e3⟩, _⟩ := hx
    have i1 := hi 1 (by decide)
    have i2 := hi 2 (by decide)
    have i3 := hi 3 (by decide)
    rw [cells32] at i1 i2 i3
    obtain ⟨x1a, x1b⟩ := x1
    obtain ⟨x2a, x2b⟩ := x2
    obtain ⟨x3a, x3b⟩ := x3
    simp only at e1 e2 e3
    subst e1 e2 e3
    have r1 := row_read i1
    have r2 := row_read i2
    have r3 := row_read i3
    simp [List.getElem?_drop] at r1 r2 r3
    have v := World.var?_cell gTab hvar
    refine ⟨⟨?_, ?_, ?_⟩, ⟨?_, ?_, ?_⟩, ⟨?_, ?_, ?_⟩⟩
    · rw [v 3]; exact r1.1
    · rw [v 4]; exact r1.2.1
    · rw [v 5]; exact r1.2.2
    · rw [v 6]; exact r2.1
    · rw [v 7]; exact r2.2.1
    · rw [v 8]; exact r2.2.2
    · rw [v 9]; exact r3.1
    · rw [v 10]; exact r3.2.1
    · rw [v 11]; exact r3.2.2

/-- A WORLD FOR THE WITNESS: the settled one, the table (block 0) holding what its initialiser lays. -/
noncomputable def laidWorld (os : Os) : World :=
  { World.holding Tryd.prog os ⟨#[], #[], []⟩ with heap := (World.holding Tryd.prog os ⟨#[], #[], []⟩).heap.modify 0 fun
      | .cells _ t frozen => .cells #[.int .i64 0, .int .i64 0, .int .i64 0, .int .i64 3, .int .i64 2, .int .i64 2, .int .i64 5, .int .i64 3, .int .i64 4, .int .i64 7, .int .i64 4, .int .i64 6] t frozen
      | o => o }
end Go.Proofs.YtglnpdcmaamcfaaDoor
