/- Records, messages and bytes as arguments, opened to their parts; no conditions. -/
import Derived.Test.YtagngbdlpdilnaaSmall
import Derived.Test.YtagngbdlpdilnaaArgs
import Derived.ProofKit
import Derived.OpenShut
import Derived.Carry
import Derived.ChangeSlices
import Derived.Deep.Strs
import Derived.Deep.Matrix
import Derived.Deep.DeepHandedRow
namespace Go.Proofs.Ytagngbdlpdilnaa
open Go.ChangeShapes Go.WideShapes Go.ChangeAt Go.RowKit Go.Deep

theorem cl5 : Try.prog.cellsOf 5 = 1 := by kernel_rfl
theorem cells5 : Try.prog.cellsOf 5 = 1 := by kernel_rfl
theorem cl37 : Try.prog.cellsOf 37 = 25 := by kernel_rfl
theorem cl39 : Try.prog.cellsOf 39 = 30 := by kernel_rfl
theorem cl35 : Try.prog.cellsOf 35 = 7 := by kernel_rfl
theorem cl23i : Try.prog.cellsOf 23 = 2 := by kernel_rfl
theorem cl25b : Try.prog.cellsOf 25 = 2 := by kernel_rfl
theorem Bts.nil (w : World) (A : Option Addr) (c : Nat) : Bts w (.slice A 0 c) [] := ⟨A, c, rfl, Nat.zero_le _, fun h => absurd h (by simp)⟩

def toB (z : Int) : UInt8 := UInt8.ofNat z.toNat
theorem toB_enc {z : Int} (h : (Lit.int .u8 z).wf = true) : enc8 (toB z) = .int .u8 z := by
  have := bounds_u8 h
  unfold enc8 toB
  simp; omega

/-- Cells of numbers that are bytes. -/
theorem bts_of_cells {W : World} {A : Option Addr} {len c : Nat} {zs : List Int} (hl : len ≤ c) (hz : zs.length = c) (hw : ∀ n ∈ zs, (Lit.int .u8 n).wf = true)
    (h : 0 < len → ∃ a : Addr, A = some a ∧ a.block < W.heap.size ∧ ∀ i, i < c → W.cell? (a.add i) = some (.int .u8 (zs.getD i 0))) : Bts W (.slice A len c) ((zs.take len).map toB) := by
  have hln : (((zs.take len).map toB).map enc8).length = len := by simp; omega
  refine ⟨A, c, by rw [hln], by rw [hln]; exact hl, fun h0 => ?_⟩
  rw [hln] at h0
  obtain ⟨⟨b, off, spot⟩, rfl, hb, hcell⟩ := h h0
  have hspot : spot = none := by simpa [Addr.add] using World.cell?_spot (hcell 0 (by omega))
  subst hspot
  refine ⟨b, off, rfl, hb, fun k x hx => ?_⟩
  have hk : k < len := by
    have := (List.getElem?_eq_some_iff.1 hx).1
    rw [hln] at this; exact this
  have := hcell k (by omega)
  rw [add_plain'] at this
  rw [this]
  rw [List.map_map, List.getElem?_map, List.getElem?_take_of_lt hk, List.getElem?_eq_getElem (by omega)] at hx
  simp only [Option.map_some, Function.comp] at hx
  rw [toB_enc (hw _ (List.getElem_mem _))] at hx
  rw [← hx, List.getD, List.getElem?_eq_getElem (by omega)]; rfl

set_option maxRecDepth 100000 in
theorem open_bytes {H : Type} {enc : TypeId × Value → H} {W : World} {r : Reach} {b0 : Nat} {v : Value} {d : DataW H} {p : List MemPlace} (hv : Value.okWide Try.prog W r b0 46 v) (h : DataW.Trod enc Try.prog W 0 (fun _ => true) true 46 v d p)
    (hlt : ∀ x ∈ p, x.block < W.heap.size) : ∃ xs : List UInt8, Bts W v xs := by
  obtain ⟨a0, len, cap, rfl⟩ := okWide_slice Try.underlying46 hv
  obtain ⟨fuel, hf⟩ := h
  rcases open_ints Try.underlying46 Try.underlying5 cells5 hf with ⟨hcs, hx⟩ | ⟨a, len', cap', zs, hcs, _, hl, hm, hz, hx, hcell, hws⟩
  · simp [Value.cells] at hcs
    obtain ⟨rfl, rfl, rfl⟩ := hcs
    exact ⟨[], Bts.nil _ _ _⟩
  · simp [Value.cells] at hcs
    obtain ⟨rfl, rfl, rfl⟩ := hcs
    simp only [Prod.mk.injEq] at hx
    obtain ⟨rfl, rfl⟩ := hx
    simp only [if_true] at hz
    refine ⟨_, bts_of_cells hl hz hws (fun h0 => ⟨a, rfl, ?_, fun i hi => hcell i (by omega)⟩)⟩
    exact hlt (.cell a.block a.off) (MemPlace.mem_row.2 ⟨0, by omega, by simp⟩)


section
variable {H : Type} {enc : TypeId × Value → H} {W : World} {fuel : Nat}
set_option maxRecDepth 100000 in
theorem open_cells_deps {cs : List Value} {x : DataW H × List MemPlace} (h : DataW.trod enc Try.prog W 0 (fun _ => true) true fuel 35 cs = some x) (hl : cs.length = 7) : ∃ x0 x1 x2 x3 x4 x5 x6 : Int, cs = [.int .i64 x0, .int .i64 x1, .int .i64 x2, .int .i64 x3, .int .i64 x4, .int .i64 x5, .int .i64 x6] := by
  match cs, hl with
  | [u0, u1, u2, u3, u4, u5, u6], _ =>
    obtain ⟨ys, m, _, hx, _, hl, hg⟩ := DataW.trod_array Try.underlying35 h
    match ys, hl with
    | [y0, y1, y2, y3, y4, y5, y6], _ =>
      have g0 := hg 0 (by omega)
      have g1 := hg 1 (by omega)
      have g2 := hg 2 (by omega)
      have g3 := hg 3 (by omega)
      have g4 := hg 4 (by omega)
      have g5 := hg 5 (by omega)
      have g6 := hg 6 (by omega)
      simp [cl3] at g0 g1 g2 g3 g4 g5 g6
      obtain ⟨x0, e0, _⟩ := DataW.trod_int Try.underlying3 g0
      obtain ⟨x1, e1, _⟩ := DataW.trod_int Try.underlying3 g1
      obtain ⟨x2, e2, _⟩ := DataW.trod_int Try.underlying3 g2
      obtain ⟨x3, e3, _⟩ := DataW.trod_int Try.underlying3 g3
      obtain ⟨x4, e4, _⟩ := DataW.trod_int Try.underlying3 g4
      obtain ⟨x5, e5, _⟩ := DataW.trod_int Try.underlying3 g5
      obtain ⟨x6, e6, _⟩ := DataW.trod_int Try.underlying3 g6
      simp only [List.cons.injEq, and_true] at e0 e1 e2 e3 e4 e5 e6
      subst e0 e1 e2 e3 e4 e5 e6
      exact ⟨x0, x1, x2, x3, x4, x5, x6, rfl⟩
set_option maxRecDepth 20000 in
theorem open_cells_cmd {cs : List Value} {x : DataW H × List MemPlace} (h : DataW.trod enc Try.prog W 0 (fun _ => true) true fuel 33 cs = some x) (hl : cs.length = 9) (hlt : ∀ y ∈ x.2, y.block < W.heap.size) : ∃ (c : M.Cmd) (va vb : Value), cs = [.int .i64 c.k, .int .i64 c.tc, .int .i64 c.tn, .int .i64 c.tt, .int .i64 c.tk, .int .i64 c.sh, va, vb, .bool c.cm] ∧ Rds W va c.rs ∧ Wrs W vb c.ws := by
  match cs, hl with
  | [c0, c1, c2, c3, c4, c5, c6, c7, c8], _ =>
    obtain ⟨xs, n, _, hx, _, hlen, hg⟩ := DataW.trod_struct Try.underlying33 h
    match xs, hlen with
    | [y0, y1, y2, y3, y4, y5, y6], _ =>
      obtain ⟨k, e0, _⟩ := DataW.trod_int (x := y0) Try.underlying3 (show DataW.trod enc Try.prog W 0 (fun _ => true) true n 3 [c0] = some y0 from by have := hg 0 _ rfl; simpa [cl3, Value.cells] using this)
      obtain ⟨tc, tn, e1, e2⟩ := open_two (x := y1) Try.underlying27 rfl rfl rfl rfl (show DataW.trod enc Try.prog W 0 (fun _ => true) true n 27 [c1, c2] = some y1 from by have := hg 1 _ rfl; simpa [cl23, Value.cells] using this)
      obtain ⟨tt, tk, e3, e4⟩ := open_two (x := y2) Try.underlying29 rfl rfl rfl rfl (show DataW.trod enc Try.prog W 0 (fun _ => true) true n 29 [c3, c4] = some y2 from by have := hg 2 _ rfl; simpa [cl25, Value.cells] using this)
      obtain ⟨sh, e5, _⟩ := DataW.trod_int (x := y3) Try.underlying3 (show DataW.trod enc Try.prog W 0 (fun _ => true) true n 3 [c5] = some y3 from by have := hg 3 _ rfl; simpa [cl3, Value.cells] using this)
      have hx2 := congrArg Prod.snd hx
      simp only at hx2
      obtain ⟨rs, e6⟩ := open_rds (x := y4) (v := c6) (show DataW.trod enc Try.prog W 0 (fun _ => true) true n 30 [c6] = some y4 from by have := hg 4 _ rfl; simpa [cl26, Value.cells] using this) (fun y hy => hlt y (by rw [hx2]; simp [hy]))
      obtain ⟨ws, e7⟩ := open_wrs (x := y5) (v := c7) (show DataW.trod enc Try.prog W 0 (fun _ => true) true n 31 [c7] = some y5 from by have := hg 5 _ rfl; simpa [cl27, Value.cells] using this) (fun y hy => hlt y (by rw [hx2]; simp [hy]))
      obtain ⟨cm, e8, _⟩ := DataW.trod_bool (x := y6) Try.underlying4 (show DataW.trod enc Try.prog W 0 (fun _ => true) true n 4 [c8] = some y6 from by have := hg 6 _ rfl; simpa [cl4, Value.cells] using this)
      simp only [List.cons.injEq, and_true] at e0 e5 e8
      subst e0 e1 e2 e3 e4 e5 e8
      exact ⟨⟨k, tc, tn, tt, tk, sh, rs, ws, cm⟩, c6, c7, rfl, e6, e7⟩
set_option maxRecDepth 20000 in
theorem open_cells_rec {cs : List Value} {x : DataW H × List MemPlace} (h : DataW.trod enc Try.prog W 0 (fun _ => true) true fuel 37 cs = some x) (hl : cs.length = 25) (hlt : ∀ y ∈ x.2, y.block < W.heap.size) : ∃ (r : M.Rec) (va vb : Value), cs = [.int .i64 r.ir, .int .i64 r.is, .int .i64 r.st, .int .i64 r.pn, .int .i64 r.pr, .int .i64 r.bn, .int .i64 r.br, .int .i64 r.c.k, .int .i64 r.c.tc, .int .i64 r.c.tn, .int .i64 r.c.tt, .int .i64 r.c.tk, .int .i64 r.c.sh, va, vb, .bool r.c.cm, .int .i64 r.sq, .int .i64 r.d0, .int .i64 r.d1, .int .i64 r.d2, .int .i64 r.d3, .int .i64 r.d4, .int .i64 r.d5, .int .i64 r.d6, .bool r.kp] ∧ Rds W va r.c.rs ∧ Wrs W vb r.c.ws := by
  match cs, hl with
  | [c0, c1, c2, c3, c4, c5, c6, c7, c8, c9, c10, c11, c12, c13, c14, c15, c16, c17, c18, c19, c20, c21, c22, c23, c24], _ =>
    obtain ⟨xs, n, _, hx, _, hlen, hg⟩ := DataW.trod_struct Try.underlying37 h
    match xs, hlen with
    | [y0, y1, y2, y3, y4, y5, y6, y7], _ =>
      obtain ⟨ir, is, e0, e1⟩ := open_two (x := y0) Try.underlying23 rfl rfl rfl rfl (show DataW.trod enc Try.prog W 0 (fun _ => true) true n 23 [c0, c1] = some y0 from by have := hg 0 _ rfl; simpa [cl23i, Value.cells] using this)
      obtain ⟨st, e2, _⟩ := DataW.trod_int (x := y1) Try.underlying3 (show DataW.trod enc Try.prog W 0 (fun _ => true) true n 3 [c2] = some y1 from by have := hg 1 _ rfl; simpa [cl3, Value.cells] using this)
      obtain ⟨pn, pr, e3, e4⟩ := open_two (x := y2) Try.underlying25 rfl rfl rfl rfl (show DataW.trod enc Try.prog W 0 (fun _ => true) true n 25 [c3, c4] = some y2 from by have := hg 2 _ rfl; simpa [cl25b, Value.cells] using this)
      obtain ⟨bn, br, e5, e6⟩ := open_two (x := y3) Try.underlying25 rfl rfl rfl rfl (show DataW.trod enc Try.prog W 0 (fun _ => true) true n 25 [c5, c6] = some y3 from by have := hg 3 _ rfl; simpa [cl25b, Value.cells] using this)
      have hx2 := congrArg Prod.snd hx
      simp only at hx2
      obtain ⟨c, va, vb, e7, f1, f2⟩ := open_cells_cmd (x := y4) (show DataW.trod enc Try.prog W 0 (fun _ => true) true n 33 [c7, c8, c9, c10, c11, c12, c13, c14, c15] = some y4 from by have := hg 4 _ rfl; simpa [cl29, Value.cells] using this) rfl (fun y hy => hlt y (by rw [hx2]; simp [hy]))
      obtain ⟨sq, e8, _⟩ := DataW.trod_int (x := y5) Try.underlying3 (show DataW.trod enc Try.prog W 0 (fun _ => true) true n 3 [c16] = some y5 from by have := hg 5 _ rfl; simpa [cl3, Value.cells] using this)
      obtain ⟨d0, d1, d2, d3, d4, d5, d6, e9⟩ := open_cells_deps (x := y6) (show DataW.trod enc Try.prog W 0 (fun _ => true) true n 35 [c17, c18, c19, c20, c21, c22, c23] = some y6 from by have := hg 6 _ rfl; simpa [cl35, Value.cells] using this) rfl
      obtain ⟨kp, e10, _⟩ := DataW.trod_bool (x := y7) Try.underlying4 (show DataW.trod enc Try.prog W 0 (fun _ => true) true n 4 [c24] = some y7 from by have := hg 7 _ rfl; simpa [cl4, Value.cells] using this)
      simp only [List.cons.injEq, and_true] at e2 e7 e8 e9 e10
      obtain ⟨g0, g1, g2, g3, g4, g5, g6, g7, g8⟩ := e7
      obtain ⟨j0, j1, j2, j3, j4, j5, j6⟩ := e9
      subst e0 e1 e2 e3 e4 e5 e6 g0 g1 g2 g3 g4 g5 g6 g7 g8 e8 j0 j1 j2 j3 j4 j5 j6 e10
      exact ⟨⟨ir, is, st, pn, pr, bn, br, c, sq, d0, d1, d2, d3, d4, d5, d6, kp⟩, _, _, rfl, f1, f2⟩
set_option maxRecDepth 20000 in
theorem open_rec {r : Reach} {b0 : Nat} {v : Value} {d : DataW H} {p : List MemPlace} (hv : Value.okWide Try.prog W r b0 37 v) (h : DataW.Trod enc Try.prog W 0 (fun _ => true) true 37 v d p) (hlt : ∀ x ∈ p, x.block < W.heap.size) : ∃ (r : M.Rec) (va vb : Value), v = .agg #[.int .i64 r.ir, .int .i64 r.is, .int .i64 r.st, .int .i64 r.pn, .int .i64 r.pr, .int .i64 r.bn, .int .i64 r.br, .int .i64 r.c.k, .int .i64 r.c.tc, .int .i64 r.c.tn, .int .i64 r.c.tt, .int .i64 r.c.tk, .int .i64 r.c.sh, va, vb, .bool r.c.cm, .int .i64 r.sq, .int .i64 r.d0, .int .i64 r.d1, .int .i64 r.d2, .int .i64 r.d3, .int .i64 r.d4, .int .i64 r.d5, .int .i64 r.d6, .bool r.kp] ∧ Rds W va r.c.rs ∧ Wrs W vb r.c.ws := by
  obtain ⟨cs, rfl, hsz⟩ := okWide_struct Try.underlying37 hv
  obtain ⟨fuel, hf⟩ := h
  obtain ⟨r, va, vb, e, f1, f2⟩ := open_cells_rec (cs := cs.toList) hf (by simpa using hsz.trans cl37) hlt
  exact ⟨r, va, vb, by rw [← Array.toArray_toList (xs := cs), e], f1, f2⟩
set_option maxRecDepth 20000 in
theorem open_msg {r : Reach} {b0 : Nat} {v : Value} {d : DataW H} {p : List MemPlace} (hv : Value.okWide Try.prog W r b0 39 v) (h : DataW.Trod enc Try.prog W 0 (fun _ => true) true 39 v d p) (hlt : ∀ x ∈ p, x.block < W.heap.size) : ∃ (m : M.Msg) (va vb : Value), v = .agg #[.int .i64 m.k, .int .i64 m.fr, .int .i64 m.to, .int .i64 m.bn, .int .i64 m.br, .int .i64 m.r.ir, .int .i64 m.r.is, .int .i64 m.r.st, .int .i64 m.r.pn, .int .i64 m.r.pr, .int .i64 m.r.bn, .int .i64 m.r.br, .int .i64 m.r.c.k, .int .i64 m.r.c.tc, .int .i64 m.r.c.tn, .int .i64 m.r.c.tt, .int .i64 m.r.c.tk, .int .i64 m.r.c.sh, va, vb, .bool m.r.c.cm, .int .i64 m.r.sq, .int .i64 m.r.d0, .int .i64 m.r.d1, .int .i64 m.r.d2, .int .i64 m.r.d3, .int .i64 m.r.d4, .int .i64 m.r.d5, .int .i64 m.r.d6, .bool m.r.kp] ∧ Rds W va m.r.c.rs ∧ Wrs W vb m.r.c.ws := by
  obtain ⟨cs, rfl, hsz⟩ := okWide_struct Try.underlying39 hv
  obtain ⟨l⟩ := cs
  match l, hsz.trans cl39 with
  | [c0, c1, c2, c3, c4, c5, c6, c7, c8, c9, c10, c11, c12, c13, c14, c15, c16, c17, c18, c19, c20, c21, c22, c23, c24, c25, c26, c27, c28, c29], _ =>
    obtain ⟨fuel, hf⟩ := h
    obtain ⟨xs, n, _, hx, _, hlen, hg⟩ := DataW.trod_struct Try.underlying39 hf
    match xs, hlen with
    | [y0, y1, y2, y3, y4], _ =>
      obtain ⟨k, e0, _⟩ := DataW.trod_int (x := y0) Try.underlying3 (show DataW.trod enc Try.prog W 0 (fun _ => true) true n 3 [c0] = some y0 from by have := hg 0 _ rfl; simpa [cl3, Value.cells] using this)
      obtain ⟨fr, e1, _⟩ := DataW.trod_int (x := y1) Try.underlying3 (show DataW.trod enc Try.prog W 0 (fun _ => true) true n 3 [c1] = some y1 from by have := hg 1 _ rfl; simpa [cl3, Value.cells] using this)
      obtain ⟨to, e2, _⟩ := DataW.trod_int (x := y2) Try.underlying3 (show DataW.trod enc Try.prog W 0 (fun _ => true) true n 3 [c2] = some y2 from by have := hg 2 _ rfl; simpa [cl3, Value.cells] using this)
      obtain ⟨bn, br, e3, e4⟩ := open_two (x := y3) Try.underlying25 rfl rfl rfl rfl (show DataW.trod enc Try.prog W 0 (fun _ => true) true n 25 [c3, c4] = some y3 from by have := hg 3 _ rfl; simpa [cl25b, Value.cells] using this)
      simp only [Prod.mk.injEq] at hx
      obtain ⟨q, va, vb, e5, f1, f2⟩ := open_cells_rec (x := y4) (show DataW.trod enc Try.prog W 0 (fun _ => true) true n 37 [c5, c6, c7, c8, c9, c10, c11, c12, c13, c14, c15, c16, c17, c18, c19, c20, c21, c22, c23, c24, c25, c26, c27, c28, c29] = some y4 from by have := hg 4 _ rfl; simpa [cl37, Value.cells] using this) rfl (fun y hy => hlt y (by rw [hx.2]; simp [hy]))
      simp only [List.cons.injEq, and_true] at e0 e1 e2 e5
      obtain ⟨g0, g1, g2, g3, g4, g5, g6, g7, g8, g9, g10, g11, g12, g13, g14, g15, g16, g17, g18, g19, g20, g21, g22, g23, g24⟩ := e5
      subst e0 e1 e2 e3 e4 g0 g1 g2 g3 g4 g5 g6 g7 g8 g9 g10 g11 g12 g13 g14 g15 g16 g17 g18 g19 g20 g21 g22 g23 g24
      exact ⟨⟨k, fr, to, bn, br, q⟩, _, _, rfl, f1, f2⟩
end
end Go.Proofs.Ytagngbdlpdilnaa
