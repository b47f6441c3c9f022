/- The walk of IndexOrdered; no conditions. -/
import Derived.Test.YtgaglcfoodbcfaaOdr
import Derived.Test.YtgaglcfoodbcfaaAwk
import Derived.BigQuiet
import Derived.Deep.QuietTactic
namespace Go.Proofs.Ytgaglcfoodbcfaa
open Go.ChangeShapes Go.WideShapes Go.ChangeAt Go.RowKit

set_option maxRecDepth 100000 in
theorem fill_rec2 (x y : Rv) : Instr.fill (fun i => some (i * 25, 25)) ((Array.range (2 * 25)).map (Rv.zero.val.cells[· % Rv.zero.val.cells.size]!)) [(0, Value.agg x.cells.toArray), (1, Value.agg y.cells.toArray)] = some (x.cells ++ y.cells).toArray := by kernel_rfl
theorem wpList_build44_2 {ops : Array Oper} {rest : List Oper} {o : Oper} {a : Act} {w : World} {Q : Exit → Act → World → Prop} (hg : o.guard = none) (y z : Operand) (ho : o.op = .buildSlice 22 2 #[(0, y), (1, z)]) (x x' : Rv) (hy : a.eval y = .agg x.cells.toArray) (hz : a.eval z = .agg x'.cells.toArray)
    (h : wpList Try.prog ops Q rest (a.put o.dst (.slice (some ⟨w.heap.size, 0, none⟩) 2 2)) (w.alloc (.cells (x.cells ++ x'.cells).toArray 44))) : wpList Try.prog ops Q (o :: rest) a w := by
  obtain ⟨i0, hi, hz0, hz1, hz2⟩ := info_parts info44
  refine wpList_buildSlice hg 22 44 2 #[(0, y), (1, z)] ho (x.cells ++ x'.cells).toArray i0 Rv.zero.val Try.underlying22 hi hz0 (by rw [hz1]; omega) (by rw [hz1]; omega) ?_ h
  rw [hz1]
  simp only [List.map_toArray, List.map_cons, List.map_nil, hy, hz]
  exact fill_rec2 x x'
theorem rows_two {w : World} {b : Nat} {x y : Rv} (hb : b = w.heap.size) (h : Txt w x) (g : Txt w y) : Rows (w.alloc (.cells (x.cells ++ y.cells).toArray 44)) (.slice (some ⟨b, 0, none⟩) 2 2) [x, y] := by
  subst hb
  refine ⟨⟨flat_len [x, y], some ⟨w.heap.size, 0, none⟩, 2, rfl, Nat.le_refl 2, fun _ => ⟨w.heap.size, 0, rfl, by simp, fun j v hj => ?_⟩⟩, fun z hz => ?_⟩
  · rw [Nat.zero_add]
    exact (Cel.new w (x.cells ++ y.cells) 44).get j v (by simpa using hj)
  · simp only [List.mem_cons, List.not_mem_nil, or_false] at hz
    rcases hz with rfl | rfl
    · exact h.below (below_new (Below.refl _ _))
    · exact g.below (below_new (Below.refl _ _))
set_option maxHeartbeats 8000000 in
set_option maxRecDepth 100000 in
theorem ordered_law (a b : M.Rec) (w : World) {va vb ua ub : Value} (h : Txt w ⟨a, va, vb⟩) (g : Txt w ⟨b, ua, ub⟩) : Calls Try.prog 7 #[.agg #[.int .i64 a.ir, .int .i64 a.is, .int .i64 a.st, .int .i64 a.pn, .int .i64 a.pr, .int .i64 a.bn, .int .i64 a.br, .int .i64 a.c.k, .int .i64 a.c.tc, .int .i64 a.c.tn, .int .i64 a.c.tt, .int .i64 a.c.tk, .int .i64 a.c.sh, va, vb, .bool a.c.cm, .int .i64 a.sq, .int .i64 a.d0, .int .i64 a.d1, .int .i64 a.d2, .int .i64 a.d3, .int .i64 a.d4, .int .i64 a.d5, .int .i64 a.d6, .bool a.kp], .agg #[.int .i64 b.ir, .int .i64 b.is, .int .i64 b.st, .int .i64 b.pn, .int .i64 b.pr, .int .i64 b.bn, .int .i64 b.br, .int .i64 b.c.k, .int .i64 b.c.tc, .int .i64 b.c.tn, .int .i64 b.c.tt, .int .i64 b.c.tk, .int .i64 b.c.sh, ua, ub, .bool b.c.cm, .int .i64 b.sq, .int .i64 b.d0, .int .i64 b.d1, .int .i64 b.d2, .int .i64 b.d3, .int .i64 b.d4, .int .i64 b.d5, .int .i64 b.d6, .bool b.kp]] w fun e w' => e = .returned (.bool true) ∧ Below w.heap.size w w' := by
  obtain ⟨A3, c3, ea⟩ := rowN_sliceOf h.rs
  obtain ⟨A4, c4, eb⟩ := rowN_sliceOf h.ws
  obtain ⟨A5, c5, ec⟩ := rowN_sliceOf g.rs
  obtain ⟨A6, c6, ed⟩ := rowN_sliceOf g.ws
  dsimp only at ea eb ec ed
  subst ea eb ec ed
  have hb0 : Below w.heap.size w ((w.alloc (.cells #[.int .i64 a.ir, .int .i64 a.is, .int .i64 a.st, .int .i64 a.pn, .int .i64 a.pr, .int .i64 a.bn, .int .i64 a.br, .int .i64 a.c.k, .int .i64 a.c.tc, .int .i64 a.c.tn, .int .i64 a.c.tt, .int .i64 a.c.tk, .int .i64 a.c.sh, (.slice A3 a.c.rs.length c3), (.slice A4 a.c.ws.length c4), .bool a.c.cm, .int .i64 a.sq, .int .i64 a.d0, .int .i64 a.d1, .int .i64 a.d2, .int .i64 a.d3, .int .i64 a.d4, .int .i64 a.d5, .int .i64 a.d6, .bool a.kp] 44)).alloc (.cells #[.int .i64 b.ir, .int .i64 b.is, .int .i64 b.st, .int .i64 b.pn, .int .i64 b.pr, .int .i64 b.bn, .int .i64 b.br, .int .i64 b.c.k, .int .i64 b.c.tc, .int .i64 b.c.tn, .int .i64 b.c.tt, .int .i64 b.c.tk, .int .i64 b.c.sh, (.slice A5 b.c.rs.length c5), (.slice A6 b.c.ws.length c6), .bool b.c.cm, .int .i64 b.sq, .int .i64 b.d0, .int .i64 b.d1, .int .i64 b.d2, .int .i64 b.d3, .int .i64 b.d4, .int .i64 b.d5, .int .i64 b.d6, .bool b.kp] 44)) := below_new (below_new (Below.refl _ _))
  have ha : Hold ((w.alloc (.cells #[.int .i64 a.ir, .int .i64 a.is, .int .i64 a.st, .int .i64 a.pn, .int .i64 a.pr, .int .i64 a.bn, .int .i64 a.br, .int .i64 a.c.k, .int .i64 a.c.tc, .int .i64 a.c.tn, .int .i64 a.c.tt, .int .i64 a.c.tk, .int .i64 a.c.sh, (.slice A3 a.c.rs.length c3), (.slice A4 a.c.ws.length c4), .bool a.c.cm, .int .i64 a.sq, .int .i64 a.d0, .int .i64 a.d1, .int .i64 a.d2, .int .i64 a.d3, .int .i64 a.d4, .int .i64 a.d5, .int .i64 a.d6, .bool a.kp] 44)).alloc (.cells #[.int .i64 b.ir, .int .i64 b.is, .int .i64 b.st, .int .i64 b.pn, .int .i64 b.pr, .int .i64 b.bn, .int .i64 b.br, .int .i64 b.c.k, .int .i64 b.c.tc, .int .i64 b.c.tn, .int .i64 b.c.tt, .int .i64 b.c.tk, .int .i64 b.c.sh, (.slice A5 b.c.rs.length c5), (.slice A6 b.c.ws.length c6), .bool b.c.cm, .int .i64 b.sq, .int .i64 b.d0, .int .i64 b.d1, .int .i64 b.d2, .int .i64 b.d3, .int .i64 b.d4, .int .i64 b.d5, .int .i64 b.d6, .bool b.kp] 44)) w.heap.size 44 [.int .i64 a.ir, .int .i64 a.is, .int .i64 a.st, .int .i64 a.pn, .int .i64 a.pr, .int .i64 a.bn, .int .i64 a.br, .int .i64 a.c.k, .int .i64 a.c.tc, .int .i64 a.c.tn, .int .i64 a.c.tt, .int .i64 a.c.tk, .int .i64 a.c.sh, (.slice A3 a.c.rs.length c3), (.slice A4 a.c.ws.length c4), .bool a.c.cm, .int .i64 a.sq, .int .i64 a.d0, .int .i64 a.d1, .int .i64 a.d2, .int .i64 a.d3, .int .i64 a.d4, .int .i64 a.d5, .int .i64 a.d6, .bool a.kp] := (Hold.new w [.int .i64 a.ir, .int .i64 a.is, .int .i64 a.st, .int .i64 a.pn, .int .i64 a.pr, .int .i64 a.bn, .int .i64 a.br, .int .i64 a.c.k, .int .i64 a.c.tc, .int .i64 a.c.tn, .int .i64 a.c.tt, .int .i64 a.c.tk, .int .i64 a.c.sh, (.slice A3 a.c.rs.length c3), (.slice A4 a.c.ws.length c4), .bool a.c.cm, .int .i64 a.sq, .int .i64 a.d0, .int .i64 a.d1, .int .i64 a.d2, .int .i64 a.d3, .int .i64 a.d4, .int .i64 a.d5, .int .i64 a.d6, .bool a.kp] 44).on (below_new (Below.refl _ _))
  have hb : Hold ((w.alloc (.cells #[.int .i64 a.ir, .int .i64 a.is, .int .i64 a.st, .int .i64 a.pn, .int .i64 a.pr, .int .i64 a.bn, .int .i64 a.br, .int .i64 a.c.k, .int .i64 a.c.tc, .int .i64 a.c.tn, .int .i64 a.c.tt, .int .i64 a.c.tk, .int .i64 a.c.sh, (.slice A3 a.c.rs.length c3), (.slice A4 a.c.ws.length c4), .bool a.c.cm, .int .i64 a.sq, .int .i64 a.d0, .int .i64 a.d1, .int .i64 a.d2, .int .i64 a.d3, .int .i64 a.d4, .int .i64 a.d5, .int .i64 a.d6, .bool a.kp] 44)).alloc (.cells #[.int .i64 b.ir, .int .i64 b.is, .int .i64 b.st, .int .i64 b.pn, .int .i64 b.pr, .int .i64 b.bn, .int .i64 b.br, .int .i64 b.c.k, .int .i64 b.c.tc, .int .i64 b.c.tn, .int .i64 b.c.tt, .int .i64 b.c.tk, .int .i64 b.c.sh, (.slice A5 b.c.rs.length c5), (.slice A6 b.c.ws.length c6), .bool b.c.cm, .int .i64 b.sq, .int .i64 b.d0, .int .i64 b.d1, .int .i64 b.d2, .int .i64 b.d3, .int .i64 b.d4, .int .i64 b.d5, .int .i64 b.d6, .bool b.kp] 44)) (w.heap.size + 1) 44 [.int .i64 b.ir, .int .i64 b.is, .int .i64 b.st, .int .i64 b.pn, .int .i64 b.pr, .int .i64 b.bn, .int .i64 b.br, .int .i64 b.c.k, .int .i64 b.c.tc, .int .i64 b.c.tn, .int .i64 b.c.tt, .int .i64 b.c.tk, .int .i64 b.c.sh, (.slice A5 b.c.rs.length c5), (.slice A6 b.c.ws.length c6), .bool b.c.cm, .int .i64 b.sq, .int .i64 b.d0, .int .i64 b.d1, .int .i64 b.d2, .int .i64 b.d3, .int .i64 b.d4, .int .i64 b.d5, .int .i64 b.d6, .bool b.kp] := by
    have := Hold.new (w.alloc (.cells #[.int .i64 a.ir, .int .i64 a.is, .int .i64 a.st, .int .i64 a.pn, .int .i64 a.pr, .int .i64 a.bn, .int .i64 a.br, .int .i64 a.c.k, .int .i64 a.c.tc, .int .i64 a.c.tn, .int .i64 a.c.tt, .int .i64 a.c.tk, .int .i64 a.c.sh, (.slice A3 a.c.rs.length c3), (.slice A4 a.c.ws.length c4), .bool a.c.cm, .int .i64 a.sq, .int .i64 a.d0, .int .i64 a.d1, .int .i64 a.d2, .int .i64 a.d3, .int .i64 a.d4, .int .i64 a.d5, .int .i64 a.d6, .bool a.kp] 44)) [.int .i64 b.ir, .int .i64 b.is, .int .i64 b.st, .int .i64 b.pn, .int .i64 b.pr, .int .i64 b.bn, .int .i64 b.br, .int .i64 b.c.k, .int .i64 b.c.tc, .int .i64 b.c.tn, .int .i64 b.c.tt, .int .i64 b.c.tk, .int .i64 b.c.sh, (.slice A5 b.c.rs.length c5), (.slice A6 b.c.ws.length c6), .bool b.c.cm, .int .i64 b.sq, .int .i64 b.d0, .int .i64 b.d1, .int .i64 b.d2, .int .i64 b.d3, .int .i64 b.d4, .int .i64 b.d5, .int .i64 b.d6, .bool b.kp] 44
    simpa using this
  have ht := h.below hb0
  have gt := g.below hb0
  have HF := Lib.hid (few_rows (rows_two (b := w.heap.size + 1 + 1) (by simp) ht gt) (by simp))
  have HA := Lib.hid ha
  have HB := Lib.hid hb
  have HW := Lib.hid hb0
  have RA := Lib.hid (hold_rec ha)
  have RB := Lib.hid (hold_rec hb)
  have TA := Lib.hid ht
  have TB := Lib.hid gt
  have hlt0 : w.heap.size + 1 + 1 = ((w.alloc (.cells #[.int .i64 a.ir, .int .i64 a.is, .int .i64 a.st, .int .i64 a.pn, .int .i64 a.pr, .int .i64 a.bn, .int .i64 a.br, .int .i64 a.c.k, .int .i64 a.c.tc, .int .i64 a.c.tn, .int .i64 a.c.tt, .int .i64 a.c.tk, .int .i64 a.c.sh, (.slice A3 a.c.rs.length c3), (.slice A4 a.c.ws.length c4), .bool a.c.cm, .int .i64 a.sq, .int .i64 a.d0, .int .i64 a.d1, .int .i64 a.d2, .int .i64 a.d3, .int .i64 a.d4, .int .i64 a.d5, .int .i64 a.d6, .bool a.kp] 44)).alloc (.cells #[.int .i64 b.ir, .int .i64 b.is, .int .i64 b.st, .int .i64 b.pn, .int .i64 b.pr, .int .i64 b.bn, .int .i64 b.br, .int .i64 b.c.k, .int .i64 b.c.tc, .int .i64 b.c.tn, .int .i64 b.c.tt, .int .i64 b.c.tk, .int .i64 b.c.sh, (.slice A5 b.c.rs.length c5), (.slice A6 b.c.ws.length c6), .bool b.c.cm, .int .i64 b.sq, .int .i64 b.d0, .int .i64 b.d1, .int .i64 b.d2, .int .i64 b.d3, .int .i64 b.d4, .int .i64 b.d5, .int .i64 b.d6, .bool b.kp] 44)).heap.size := by simp
  have HS := Lib.hid hlt0
  clear h g hb0 ha hb ht gt hlt0
  go_enter Try.func7, Try.ntmps7
  go_wp2_with (first
    | (with_reducible refine wpList_load_mid rfl 44 _ rfl w.heap.size 0 rfl [.int .i64 a.ir, .int .i64 a.is, .int .i64 a.st, .int .i64 a.pn, .int .i64 a.pr, .int .i64 a.bn, .int .i64 a.br, .int .i64 a.c.k, .int .i64 a.c.tc, .int .i64 a.c.tn, .int .i64 a.c.tt, .int .i64 a.c.tk, .int .i64 a.c.sh, (.slice A3 a.c.rs.length c3), (.slice A4 a.c.ws.length c4), .bool a.c.cm, .int .i64 a.sq, .int .i64 a.d0, .int .i64 a.d1, .int .i64 a.d2, .int .i64 a.d3, .int .i64 a.d4, .int .i64 a.d5, .int .i64 a.d6, .bool a.kp] _ RA.out Try.underlying44 rfl (by kernel_rfl) ?_)
    | (with_reducible refine wpList_load_mid rfl 44 _ rfl (w.heap.size + 1) 0 rfl [.int .i64 b.ir, .int .i64 b.is, .int .i64 b.st, .int .i64 b.pn, .int .i64 b.pr, .int .i64 b.bn, .int .i64 b.br, .int .i64 b.c.k, .int .i64 b.c.tc, .int .i64 b.c.tn, .int .i64 b.c.tt, .int .i64 b.c.tk, .int .i64 b.c.sh, (.slice A5 b.c.rs.length c5), (.slice A6 b.c.ws.length c6), .bool b.c.cm, .int .i64 b.sq, .int .i64 b.d0, .int .i64 b.d1, .int .i64 b.d2, .int .i64 b.d3, .int .i64 b.d4, .int .i64 b.d5, .int .i64 b.d6, .bool b.kp] _ RB.out Try.underlying44 rfl (by kernel_rfl) ?_)
    | (with_reducible refine wpList_build44_2 rfl (.tmp 5) (.tmp 6) rfl ⟨a, .slice A3 a.c.rs.length c3, .slice A4 a.c.ws.length c4⟩ ⟨b, .slice A5 b.c.rs.length c5, .slice A6 b.c.ws.length c6⟩ rfl rfl ?_)
    | fail)
  generalize ((w.alloc (.cells #[.int .i64 a.ir, .int .i64 a.is, .int .i64 a.st, .int .i64 a.pn, .int .i64 a.pr, .int .i64 a.bn, .int .i64 a.br, .int .i64 a.c.k, .int .i64 a.c.tc, .int .i64 a.c.tn, .int .i64 a.c.tt, .int .i64 a.c.tk, .int .i64 a.c.sh, (.slice A3 a.c.rs.length c3), (.slice A4 a.c.ws.length c4), .bool a.c.cm, .int .i64 a.sq, .int .i64 a.d0, .int .i64 a.d1, .int .i64 a.d2, .int .i64 a.d3, .int .i64 a.d4, .int .i64 a.d5, .int .i64 a.d6, .bool a.kp] 44)).alloc (.cells #[.int .i64 b.ir, .int .i64 b.is, .int .i64 b.st, .int .i64 b.pn, .int .i64 b.pr, .int .i64 b.bn, .int .i64 b.br, .int .i64 b.c.k, .int .i64 b.c.tc, .int .i64 b.c.tn, .int .i64 b.c.tt, .int .i64 b.c.tk, .int .i64 b.c.sh, (.slice A5 b.c.rs.length c5), (.slice A6 b.c.ws.length c6), .bool b.c.cm, .int .i64 b.sq, .int .i64 b.d0, .int .i64 b.d1, .int .i64 b.d2, .int .i64 b.d3, .int .i64 b.d4, .int .i64 b.d5, .int .i64 b.d6, .bool b.kp] 44)) = w0 at *
  refine HF.out.mono ?_
  rintro e w1 ⟨rfl, hb1⟩
  have hbw : Below w0.heap.size w0 w1 := below_on (below_new (Below.refl _ _)) hb1
  have HW1 := Lib.hid (below_on HW.out hbw)
  rcases hf : fewX [⟨a, .slice A3 a.c.rs.length c3, .slice A4 a.c.ws.length c4⟩, ⟨b, .slice A5 b.c.rs.length c5, .slice A6 b.c.ws.length c6⟩] with _ | _
  · clear hb1 hbw hf
    go_wp2_with (fail)
    refine (awake_any w1).mono ?_
    rintro e w2 ⟨rfl, hb2⟩
    have HW2 := Lib.hid (below_on HW1.out hb2)
    clear hb2
    go_wp2
    go_ret
    exact ⟨rfl, HW2.out⟩
  · have hma : M.Mod a.c := fewX_mod hf ⟨a, .slice A3 a.c.rs.length c3, .slice A4 a.c.ws.length c4⟩ (by simp)
    have hmb : M.Mod b.c := fewX_mod hf ⟨b, .slice A5 b.c.rs.length c5, .slice A6 b.c.ws.length c6⟩ (by simp)
    have RA1 := Lib.hid (hold_rec (HA.out.on hbw))
    have RB1 := Lib.hid (hold_rec (HB.out.on hbw))
    have TA1 := Lib.hid (TA.out.below hbw)
    have TB1 := Lib.hid (TB.out.below hbw)
    have hl0 : w.heap.size < w1.heap.size := by have := HS.out; have := hbw.size; omega
    have hl1 : w.heap.size + 1 < w1.heap.size := by have := HS.out; have := hbw.size; omega
    obtain ⟨z, hz⟩ : ∃ z, z = M.ordB a b := ⟨_, rfl⟩
    have C1 : Hid (∀ x : After w1, Calls Try.prog 26 #[.agg #[.int .i64 a.ir, .int .i64 a.is, .int .i64 a.st, .int .i64 a.pn, .int .i64 a.pr, .int .i64 a.bn, .int .i64 a.br, .int .i64 a.c.k, .int .i64 a.c.tc, .int .i64 a.c.tn, .int .i64 a.c.tt, .int .i64 a.c.tk, .int .i64 a.c.sh, (.slice A3 a.c.rs.length c3), (.slice A4 a.c.ws.length c4), .bool a.c.cm, .int .i64 a.sq, .int .i64 a.d0, .int .i64 a.d1, .int .i64 a.d2, .int .i64 a.d3, .int .i64 a.d4, .int .i64 a.d5, .int .i64 a.d6, .bool a.kp], .agg #[.int .i64 b.ir, .int .i64 b.is, .int .i64 b.st, .int .i64 b.pn, .int .i64 b.pr, .int .i64 b.bn, .int .i64 b.br, .int .i64 b.c.k, .int .i64 b.c.tc, .int .i64 b.c.tn, .int .i64 b.c.tt, .int .i64 b.c.tk, .int .i64 b.c.sh, (.slice A5 b.c.rs.length c5), (.slice A6 b.c.ws.length c6), .bool b.c.cm, .int .i64 b.sq, .int .i64 b.d0, .int .i64 b.d1, .int .i64 b.d2, .int .i64 b.d3, .int .i64 b.d4, .int .i64 b.d5, .int .i64 b.d6, .bool b.kp]] x.out fun e w' => e = .returned (.bool z) ∧ Below x.out.heap.size x.out w') := Lib.hid fun x => by rw [hz]; exact ordered_any a b (TA1.out.below x.below) (TB1.out.below x.below) hma hmb
    have C2 : Hid (∀ x : After w1, Calls Try.prog 28 #[.agg #[.int .i64 a.ir, .int .i64 a.is, .int .i64 a.st, .int .i64 a.pn, .int .i64 a.pr, .int .i64 a.bn, .int .i64 a.br, .int .i64 a.c.k, .int .i64 a.c.tc, .int .i64 a.c.tn, .int .i64 a.c.tt, .int .i64 a.c.tk, .int .i64 a.c.sh, (.slice A3 a.c.rs.length c3), (.slice A4 a.c.ws.length c4), .bool a.c.cm, .int .i64 a.sq, .int .i64 a.d0, .int .i64 a.d1, .int .i64 a.d2, .int .i64 a.d3, .int .i64 a.d4, .int .i64 a.d5, .int .i64 a.d6, .bool a.kp], .agg #[.int .i64 b.ir, .int .i64 b.is, .int .i64 b.st, .int .i64 b.pn, .int .i64 b.pr, .int .i64 b.bn, .int .i64 b.br, .int .i64 b.c.k, .int .i64 b.c.tc, .int .i64 b.c.tn, .int .i64 b.c.tt, .int .i64 b.c.tk, .int .i64 b.c.sh, (.slice A5 b.c.rs.length c5), (.slice A6 b.c.ws.length c6), .bool b.c.cm, .int .i64 b.sq, .int .i64 b.d0, .int .i64 b.d1, .int .i64 b.d2, .int .i64 b.d3, .int .i64 b.d4, .int .i64 b.d5, .int .i64 b.d6, .bool b.kp]] x.out fun e w' => e = .returned (.bool z) ∧ Below x.out.heap.size x.out w') := Lib.hid fun x => by rw [hz]; exact dordered_any a b (TA1.out.below x.below) (TB1.out.below x.below) hma hmb
    have C3 : Hid (∀ x : After w1, Calls Try.prog 26 #[.agg #[.int .i64 b.ir, .int .i64 b.is, .int .i64 b.st, .int .i64 b.pn, .int .i64 b.pr, .int .i64 b.bn, .int .i64 b.br, .int .i64 b.c.k, .int .i64 b.c.tc, .int .i64 b.c.tn, .int .i64 b.c.tt, .int .i64 b.c.tk, .int .i64 b.c.sh, (.slice A5 b.c.rs.length c5), (.slice A6 b.c.ws.length c6), .bool b.c.cm, .int .i64 b.sq, .int .i64 b.d0, .int .i64 b.d1, .int .i64 b.d2, .int .i64 b.d3, .int .i64 b.d4, .int .i64 b.d5, .int .i64 b.d6, .bool b.kp], .agg #[.int .i64 a.ir, .int .i64 a.is, .int .i64 a.st, .int .i64 a.pn, .int .i64 a.pr, .int .i64 a.bn, .int .i64 a.br, .int .i64 a.c.k, .int .i64 a.c.tc, .int .i64 a.c.tn, .int .i64 a.c.tt, .int .i64 a.c.tk, .int .i64 a.c.sh, (.slice A3 a.c.rs.length c3), (.slice A4 a.c.ws.length c4), .bool a.c.cm, .int .i64 a.sq, .int .i64 a.d0, .int .i64 a.d1, .int .i64 a.d2, .int .i64 a.d3, .int .i64 a.d4, .int .i64 a.d5, .int .i64 a.d6, .bool a.kp]] x.out fun e w' => e = .returned (.bool z) ∧ Below x.out.heap.size x.out w') := Lib.hid fun x => by rw [hz, M.ordB_comm]; exact ordered_any b a (TB1.out.below x.below) (TA1.out.below x.below) hmb hma
    clear hz hb1 hbw hf hma hmb
    rcases z with _ | _
    all_goals
      go_wp2
      refine wp_region_after (by kernel_rfl) (by kernel_rfl) ?_
      repeat (first
        | (go_big_quiet_want; (with_reducible refine quiet_load_mid 44 _ rfl w.heap.size 0 rfl [.int .i64 a.ir, .int .i64 a.is, .int .i64 a.st, .int .i64 a.pn, .int .i64 a.pr, .int .i64 a.bn, .int .i64 a.br, .int .i64 a.c.k, .int .i64 a.c.tc, .int .i64 a.c.tn, .int .i64 a.c.tt, .int .i64 a.c.tk, .int .i64 a.c.sh, (.slice A3 a.c.rs.length c3), (.slice A4 a.c.ws.length c4), .bool a.c.cm, .int .i64 a.sq, .int .i64 a.d0, .int .i64 a.d1, .int .i64 a.d2, .int .i64 a.d3, .int .i64 a.d4, .int .i64 a.d5, .int .i64 a.d6, .bool a.kp] _ hl0 RA1.out Try.underlying44 rfl (by kernel_rfl) ?_); go_simp; go_big_quiet_on)
        | (go_big_quiet_want; (with_reducible refine quiet_load_mid 44 _ rfl (w.heap.size + 1) 0 rfl [.int .i64 b.ir, .int .i64 b.is, .int .i64 b.st, .int .i64 b.pn, .int .i64 b.pr, .int .i64 b.bn, .int .i64 b.br, .int .i64 b.c.k, .int .i64 b.c.tc, .int .i64 b.c.tn, .int .i64 b.c.tt, .int .i64 b.c.tk, .int .i64 b.c.sh, (.slice A5 b.c.rs.length c5), (.slice A6 b.c.ws.length c6), .bool b.c.cm, .int .i64 b.sq, .int .i64 b.d0, .int .i64 b.d1, .int .i64 b.d2, .int .i64 b.d3, .int .i64 b.d4, .int .i64 b.d5, .int .i64 b.d6, .bool b.kp] _ hl1 RB1.out Try.underlying44 rfl (by kernel_rfl) ?_); go_simp; go_big_quiet_on)
        | (go_big_quiet_step (first
          | (go_at_call 26; with_reducible exact Calls.after_of (C1.out _))
          | (go_at_call 28; with_reducible exact Calls.after_of (C2.out _))
          | (go_at_call 26; with_reducible exact Calls.after_of (C3.out _))
          | (go_at_call 12; exact Calls.after_of (awake_any _)))))
      refine wpQuiet_nil ?_
      rintro _ ⟨x, rfl⟩
      have HW2 := Lib.hid (below_on HW1.out x.below)
      go_wp2
      go_ret
      exact ⟨rfl, HW2.out⟩
end Go.Proofs.Ytgaglcfoodbcfaa
