/- Commands and records as arguments; no conditions but those that they name. -/
import Derived.Test.YtpknkhgkejkpkaaGreatWiH
import Derived.Deep.Slices
import Derived.Deep.Fields
import Derived.ChangeSame
import Derived.ProofKit
import Derived.OpenShut
import Derived.Carry
import Derived.ChangeSlices
import Derived.Deep.Strs
import Derived.Deep.Matrix
import Derived.Deep.DeepHandedRow

namespace Go.Proofs.YtpknkhgkejkpkaaGreat
open Go.ChangeShapes Go.WideShapes Go.ChangeAt Go.RowKit Go.Deep

theorem cl3 : Tryz.prog.cellsOf 3 = 1 := by kernel_rfl
theorem cl4 : Tryz.prog.cellsOf 4 = 1 := by kernel_rfl
theorem cl23 : Tryz.prog.cellsOf 24 = 2 := by kernel_rfl
theorem cl25 : Tryz.prog.cellsOf 26 = 2 := by kernel_rfl
theorem cl26 : Tryz.prog.cellsOf 27 = 1 := by kernel_rfl
theorem cl27 : Tryz.prog.cellsOf 28 = 1 := by kernel_rfl
theorem cl29 : Tryz.prog.cellsOf 30 = 9 := by kernel_rfl
theorem cl40 : Tryz.prog.cellsOf 66 = 3 := by kernel_rfl
theorem cl42 : Tryz.prog.cellsOf 68 = 2 := by kernel_rfl

theorem Rds.of_at {w : World} {b o c : Nat} {l : List (List UInt8 × Int × Int)} (hc : l.length ≤ c) (hb : b < w.heap.size) (h : ∀ i, i < l.length → RdAt w b (o + i * 3) (l.getD i rd0).1 (l.getD i rd0).2.1 (l.getD i rd0).2.2) : Rds w (.slice (some ⟨b, o, none⟩) l.length c) l := by
  refine ⟨rdsC_len l, some ⟨b, o, none⟩, c, rfl, hc, fun _ => ⟨b, o, rfl, hb, fun j x hx => ?_⟩⟩
  have hj : j < l.length * 3 := by rw [← rdsC_len]; exact (List.getElem?_eq_some_iff.1 hx).1
  have hi : j / 3 < l.length := by omega
  have hat := h (j / 3) hi
  have e : j = j / 3 * 3 + j % 3 := by omega
  have h3 : j % 3 = 0 ∨ j % 3 = 1 ∨ j % 3 = 2 := by omega
  have hx2 : (rdC (l.getD (j / 3) rd0))[j % 3]? = some x := by
    rw [← rdsC_at l (j / 3) (j % 3) hi (by omega), ← e]; exact hx
  rcases h3 with h3 | h3 | h3
  · rw [h3] at hx2 e
    simp only [rdC, List.getElem?_cons_zero, Option.some.injEq] at hx2
    subst hx2
    rw [show o + j = o + j / 3 * 3 by omega]; exact hat.key
  · rw [h3] at hx2 e
    simp only [rdC, List.getElem?_cons_succ, List.getElem?_cons_zero, Option.some.injEq] at hx2
    subst hx2
    rw [show o + j = o + j / 3 * 3 + 1 by omega]; exact hat.time
  · rw [h3] at hx2 e
    simp only [rdC, List.getElem?_cons_succ, List.getElem?_cons_zero, Option.some.injEq] at hx2
    subst hx2
    rw [show o + j = o + j / 3 * 3 + 2 by omega]; exact hat.client
theorem Wrs.of_at {w : World} {b o c : Nat} {l : List (List UInt8 × List UInt8)} (hc : l.length ≤ c) (hb : b < w.heap.size) (h : ∀ i, i < l.length → WrAt w b (o + i * 2) (l.getD i wr0).1 (l.getD i wr0).2) : Wrs w (.slice (some ⟨b, o, none⟩) l.length c) l := by
  refine ⟨wrsC_len l, some ⟨b, o, none⟩, c, rfl, hc, fun _ => ⟨b, o, rfl, hb, fun j x hx => ?_⟩⟩
  have hj : j < l.length * 2 := by rw [← wrsC_len]; exact (List.getElem?_eq_some_iff.1 hx).1
  have hi : j / 2 < l.length := by omega
  have hat := h (j / 2) hi
  have e : j = j / 2 * 2 + j % 2 := by omega
  have h3 : j % 2 = 0 ∨ j % 2 = 1 := by omega
  have hx2 : (wrC (l.getD (j / 2) wr0))[j % 2]? = some x := by
    rw [← wrsC_at l (j / 2) (j % 2) hi (by omega), ← e]; exact hx
  rcases h3 with h3 | h3
  · rw [h3] at hx2 e
    simp only [wrC, List.getElem?_cons_zero, Option.some.injEq] at hx2
    subst hx2
    rw [show o + j = o + j / 2 * 2 by omega]; exact hat.key
  · rw [h3] at hx2 e
    simp only [wrC, List.getElem?_cons_succ, List.getElem?_cons_zero, Option.some.injEq] at hx2
    subst hx2
    rw [show o + j = o + j / 2 * 2 + 1 by omega]; exact hat.val

theorem list_of {α : Type} (z : α) (Q : Nat → α → Prop) : ∀ n, (∀ i, i < n → ∃ r, Q i r) → ∃ l : List α, l.length = n ∧ ∀ i, i < n → Q i (l.getD i z)
  | 0, _ => ⟨[], rfl, fun i h => absurd h (by omega)⟩
  | n + 1, h => by
    obtain ⟨l, hl, hq⟩ := list_of z Q n (fun i hi => h i (by omega))
    obtain ⟨r, hr⟩ := h n (by omega)
    refine ⟨l ++ [r], by simp [hl], fun i hi => ?_⟩
    by_cases e : i = n
    · subst e
      rw [List.getD, List.getElem?_append_right (by omega)]
      simpa [hl] using hr
    · rw [List.getD, List.getElem?_append_left (by omega)]
      exact hq i (by omega)
theorem mk_str (s : ByteArray) : (⟨s.data.toList.toArray⟩ : ByteArray) = s := by cases s; simp

section
variable {H : Type} {enc : TypeId × Value → H} {W : World} {fuel : Nat}
theorem open_two {t : TypeId} {f0 f1 : Field} {a b : Value} {x : DataW H × List MemPlace} (hs : Tryz.prog.underlying t = some (.struct #[f0, f1])) (i0 : f0.type = 3) (i1 : f1.type = 3) (o0 : f0.offset = 0) (o1 : f1.offset = 1) (h : DataW.trod enc Tryz.prog W 0 (fun _ => true) true fuel t [a, b] = some x) : ∃ m n : Int, a = .int .i64 m ∧ b = .int .i64 n := by
  obtain ⟨xs, n, _, hx, _, hlen, hg⟩ := DataW.trod_struct hs h
  match xs, hlen with
  | [y0, y1], _ =>
    have g0 := hg 0 f0 rfl
    have g1 := hg 1 f1 rfl
    rw [i0, o0, cl3] at g0
    rw [i1, o1, cl3] at g1
    obtain ⟨m, e0, _⟩ := DataW.trod_int (x := y0) Tryz.underlying3 (by simpa using g0)
    obtain ⟨k, e1, _⟩ := DataW.trod_int (x := y1) Tryz.underlying3 (by simpa using g1)
    simp only [List.cons.injEq, and_true] at e0 e1
    exact ⟨m, k, e0, e1⟩
theorem open_rd {cs : List Value} {x : DataW H × List MemPlace} (h : DataW.trod enc Tryz.prog W 0 (fun _ => true) true fuel 66 cs = some x) (hl : cs.length = 3) : ∃ (s : ByteArray) (t c : Int), cs = [.string s, .int .i64 t, .int .i64 c] := by
  match cs, hl with
  | [a, b, d], _ =>
    obtain ⟨xs, n, _, hx, _, hlen, hg⟩ := DataW.trod_struct Tryz.underlying66 h
    match xs, hlen with
    | [y0, y1], _ =>
      obtain ⟨s, e0, _⟩ := DataW.trod_string (x := y0) Tryz.underlying9 (show DataW.trod enc Tryz.prog W 0 (fun _ => true) true n 9 [a] = some y0 from by have := hg 0 _ rfl; simpa [cells9] using this)
      obtain ⟨t, c, e1, e2⟩ := open_two (x := y1) Tryz.underlying26 rfl rfl rfl rfl (show DataW.trod enc Tryz.prog W 0 (fun _ => true) true n 26 [b, d] = some y1 from by have := hg 1 _ rfl; simpa [cl25] using this)
      simp only [List.cons.injEq, and_true] at e0
      exact ⟨s, t, c, by rw [e0, e1, e2]⟩
theorem open_wr {cs : List Value} {x : DataW H × List MemPlace} (h : DataW.trod enc Tryz.prog W 0 (fun _ => true) true fuel 68 cs = some x) (hl : cs.length = 2) : ∃ (s t : ByteArray), cs = [.string s, .string t] := by
  match cs, hl with
  | [a, b], _ =>
    obtain ⟨xs, n, _, hx, _, hlen, hg⟩ := DataW.trod_struct Tryz.underlying68 h
    match xs, hlen with
    | [y0, y1], _ =>
      obtain ⟨s, e0, _⟩ := DataW.trod_string (x := y0) Tryz.underlying9 (show DataW.trod enc Tryz.prog W 0 (fun _ => true) true n 9 [a] = some y0 from by have := hg 0 _ rfl; simpa [cells9] using this)
      obtain ⟨t, e1, _⟩ := DataW.trod_string (x := y1) Tryz.underlying9 (show DataW.trod enc Tryz.prog W 0 (fun _ => true) true n 9 [b] = some y1 from by have := hg 1 _ rfl; simpa [cells9] using this)
      simp only [List.cons.injEq, and_true] at e0 e1
      exact ⟨s, t, by rw [e0, e1]⟩
theorem open_rds {v : Value} {x : DataW H × List MemPlace} (h : DataW.trod enc Tryz.prog W 0 (fun _ => true) true fuel 27 [v] = some x) (hlt : ∀ y ∈ x.2, y.block < W.heap.size) : ∃ l : List (List UInt8 × Int × Int), Rds W v l := by
  rcases open_slice Tryz.underlying27 h with ⟨hcs, _⟩ | ⟨a, len, cap, m, n, D, Pl, hcs, _, hl, hm, hmm, hx, hi⟩
  · simp only [List.cons.injEq, and_true] at hcs
    subst hcs
    exact ⟨[], Rds.nil W⟩
  · simp only [List.cons.injEq, and_true] at hcs
    subst hcs
    simp only [if_true] at hmm
    rw [cl40] at hx hi
    by_cases h0 : len = 0
    · subst h0
      exact ⟨[], rfl, some a, cap, rfl, Nat.zero_le _, fun h => absurd h (by simp)⟩
    · have key : ∀ i, i < len → ∃ r : (List UInt8 × Int × Int), W.cell? (a.add (i * 3)) = some (.string ⟨r.1.toArray⟩) ∧ W.cell? ((a.add (i * 3)).add 1) = some (.int .i64 r.2.1) ∧ W.cell? ((a.add (i * 3)).add 2) = some (.int .i64 r.2.2) := by
        intro i hil
        obtain ⟨cs', hc, ht⟩ := hi i (by omega)
        obtain ⟨_, hcl, hat⟩ := World.cells?_some hc
        obtain ⟨s, t, c, rfl⟩ := open_rd ht hcl
        exact ⟨(s.data.toList, t, c), by have := hat 0 (by omega); rw [Go.Deep.add_add, Nat.add_zero] at this; rw [mk_str]; simpa using this, by simpa using hat 1 (by omega), by simpa using hat 2 (by omega)⟩
      obtain ⟨b, off, spot⟩ := a
      have hspot : spot = none := by
        obtain ⟨r, h1, _⟩ := key 0 (by omega)
        simpa [Addr.add] using World.cell?_spot h1
      subst hspot
      obtain ⟨l, hll, hq⟩ := list_of rd0 (fun i r => RdAt W b (off + i * 3) r.1 r.2.1 r.2.2) len (fun i hil => by
        obtain ⟨r, h1, h2, h3⟩ := key i hil
        simp only [add_plain] at h1 h2 h3
        exact ⟨r, h1, h2, h3⟩)
      have hb : b < W.heap.size := hlt (.cell b off) (by rw [hx]; exact List.mem_append_left _ (MemPlace.mem_row.2 ⟨0, by omega, by simp⟩))
      subst hll
      exact ⟨l, Rds.of_at hl hb hq⟩
theorem open_wrs {v : Value} {x : DataW H × List MemPlace} (h : DataW.trod enc Tryz.prog W 0 (fun _ => true) true fuel 28 [v] = some x) (hlt : ∀ y ∈ x.2, y.block < W.heap.size) : ∃ l : List (List UInt8 × List UInt8), Wrs W v l := by
  rcases open_slice Tryz.underlying28 h with ⟨hcs, _⟩ | ⟨a, len, cap, m, n, D, Pl, hcs, _, hl, hm, hmm, hx, hi⟩
  · simp only [List.cons.injEq, and_true] at hcs
    subst hcs
    exact ⟨[], Wrs.nil W⟩
  · simp only [List.cons.injEq, and_true] at hcs
    subst hcs
    simp only [if_true] at hmm
    rw [cl42] at hx hi
    by_cases h0 : len = 0
    · subst h0
      exact ⟨[], rfl, some a, cap, rfl, Nat.zero_le _, fun h => absurd h (by simp)⟩
    · have key : ∀ i, i < len → ∃ r : (List UInt8 × List UInt8), W.cell? (a.add (i * 2)) = some (.string ⟨r.1.toArray⟩) ∧ W.cell? ((a.add (i * 2)).add 1) = some (.string ⟨r.2.toArray⟩) := by
        intro i hil
        obtain ⟨cs', hc, ht⟩ := hi i (by omega)
        obtain ⟨_, hcl, hat⟩ := World.cells?_some hc
        obtain ⟨s, t, rfl⟩ := open_wr ht hcl
        exact ⟨(s.data.toList, t.data.toList), by have := hat 0 (by omega); rw [Go.Deep.add_add, Nat.add_zero] at this; rw [mk_str]; simpa using this, by have := hat 1 (by omega); rw [mk_str]; simpa using this⟩
      obtain ⟨b, off, spot⟩ := a
      have hspot : spot = none := by
        obtain ⟨r, h1, _⟩ := key 0 (by omega)
        simpa [Addr.add] using World.cell?_spot h1
      subst hspot
      obtain ⟨l, hll, hq⟩ := list_of wr0 (fun i r => WrAt W b (off + i * 2) r.1 r.2) len (fun i hil => by
        obtain ⟨r, h1, h2⟩ := key i hil
        simp only [add_plain] at h1 h2
        exact ⟨r, h1, h2⟩)
      have hb : b < W.heap.size := hlt (.cell b off) (by rw [hx]; exact List.mem_append_left _ (MemPlace.mem_row.2 ⟨0, by omega, by simp⟩))
      subst hll
      exact ⟨l, Wrs.of_at hl hb hq⟩
set_option maxRecDepth 20000 in
theorem open_cmd {r : Reach} {b0 : Nat} {v : Value} {d : DataW H} {p : List MemPlace} (hv : Value.okWide Tryz.prog W r b0 30 v) (h : DataW.Trod enc Tryz.prog W 0 (fun _ => true) true 30 v d p) (hlt : ∀ x ∈ p, x.block < W.heap.size) : ∃ (c : M.Cmd) (va vb : Value), v = .agg #[.int .i64 c.k, .int .i64 c.tc, .int .i64 c.tn, .int .i64 c.tt, .int .i64 c.tk, .int .i64 c.sh, va, vb, .bool c.cm] ∧ Rds W va c.rs ∧ Wrs W vb c.ws := by
  obtain ⟨cs, rfl, hsz⟩ := okWide_struct Tryz.underlying30 hv
  obtain ⟨l⟩ := cs
  match l, hsz.trans cl29 with
  | [c0, c1, c2, c3, c4, c5, c6, c7, c8], _ =>
    obtain ⟨fuel, hf⟩ := h
    obtain ⟨xs, n, _, hx, _, hlen, hg⟩ := DataW.trod_struct Tryz.underlying30 hf
    match xs, hlen with
    | [y0, y1, y2, y3, y4, y5, y6], _ =>
      obtain ⟨k, e0, _⟩ := DataW.trod_int (x := y0) Tryz.underlying3 (show DataW.trod enc Tryz.prog W 0 (fun _ => true) true n 3 [c0] = some y0 from by have := hg 0 _ rfl; simpa [cl3, Value.cells] using this)
      obtain ⟨tc, tn, e1, e2⟩ := open_two (x := y1) Tryz.underlying24 rfl rfl rfl rfl (show DataW.trod enc Tryz.prog W 0 (fun _ => true) true n 24 [c1, c2] = some y1 from by have := hg 1 _ rfl; simpa [cl23, Value.cells] using this)
      obtain ⟨tt, tk, e3, e4⟩ := open_two (x := y2) Tryz.underlying26 rfl rfl rfl rfl (show DataW.trod enc Tryz.prog W 0 (fun _ => true) true n 26 [c3, c4] = some y2 from by have := hg 2 _ rfl; simpa [cl25, Value.cells] using this)
      obtain ⟨sh, e5, _⟩ := DataW.trod_int (x := y3) Tryz.underlying3 (show DataW.trod enc Tryz.prog W 0 (fun _ => true) true n 3 [c5] = some y3 from by have := hg 3 _ rfl; simpa [cl3, Value.cells] using this)
      simp only [Prod.mk.injEq] at hx
      obtain ⟨rs, e6⟩ := open_rds (x := y4) (v := c6) (show DataW.trod enc Tryz.prog W 0 (fun _ => true) true n 27 [c6] = some y4 from by have := hg 4 _ rfl; simpa [cl26, Value.cells] using this) (fun y hy => hlt y (by rw [hx.2]; simp [hy]))
      obtain ⟨ws, e7⟩ := open_wrs (x := y5) (v := c7) (show DataW.trod enc Tryz.prog W 0 (fun _ => true) true n 28 [c7] = some y5 from by have := hg 5 _ rfl; simpa [cl27, Value.cells] using this) (fun y hy => hlt y (by rw [hx.2]; simp [hy]))
      obtain ⟨cm, e8, _⟩ := DataW.trod_bool (x := y6) Tryz.underlying4 (show DataW.trod enc Tryz.prog W 0 (fun _ => true) true n 4 [c8] = some y6 from by have := hg 6 _ rfl; simpa [cl4, Value.cells] using this)
      simp only [List.cons.injEq, and_true] at e0 e5 e8
      subst e0 e1 e2 e3 e4 e5 e8
      exact ⟨⟨k, tc, tn, tt, tk, sh, rs, ws, cm⟩, c6, c7, rfl, e6, e7⟩
end
end Go.Proofs.YtpknkhgkejkpkaaGreat

namespace Go.Proofs.YtpknkhgkejkpkaaGreat
open Go.ChangeShapes Go.WideShapes Go.ChangeAt Go.RowKit Go.Deep

theorem cl5 : Tryz.prog.cellsOf 5 = 1 := by kernel_rfl
theorem cells5 : Tryz.prog.cellsOf 5 = 1 := by kernel_rfl
theorem cl37 : Tryz.prog.cellsOf 41 = 25 := by kernel_rfl
theorem cl35 : Tryz.prog.cellsOf 39 = 7 := by kernel_rfl
theorem cl23i : Tryz.prog.cellsOf 32 = 2 := by kernel_rfl
theorem cl25b : Tryz.prog.cellsOf 37 = 2 := by kernel_rfl
def toB (z : Int) : UInt8 := UInt8.ofNat z.toNat
section
variable {H : Type} {enc : TypeId × Value → H} {W : World} {fuel : Nat}
set_option maxRecDepth 100000 in
theorem open_cells_deps {cs : List Value} {x : DataW H × List MemPlace} (h : DataW.trod enc Tryz.prog W 0 (fun _ => true) true fuel 39 cs = some x) (hl : cs.length = 7) : ∃ x0 x1 x2 x3 x4 x5 x6 : Int, cs = [.int .i64 x0, .int .i64 x1, .int .i64 x2, .int .i64 x3, .int .i64 x4, .int .i64 x5, .int .i64 x6] := by
  match cs, hl with
  | [u0, u1, u2, u3, u4, u5, u6], _ =>
    obtain ⟨ys, m, _, hx, _, hl, hg⟩ := DataW.trod_array Tryz.underlying39 h
    match ys, hl with
    | [y0, y1, y2, y3, y4, y5, y6], _ =>
      have g0 := hg 0 (by omega)
      have g1 := hg 1 (by omega)
      have g2 := hg 2 (by omega)
      have g3 := hg 3 (by omega)
      have g4 := hg 4 (by omega)
      have g5 := hg 5 (by omega)
      have g6 := hg 6 (by omega)
      simp [cl3] at g0 g1 g2 g3 g4 g5 g6
      obtain ⟨x0, e0, _⟩ := DataW.trod_int Tryz.underlying3 g0
      obtain ⟨x1, e1, _⟩ := DataW.trod_int Tryz.underlying3 g1
      obtain ⟨x2, e2, _⟩ := DataW.trod_int Tryz.underlying3 g2
      obtain ⟨x3, e3, _⟩ := DataW.trod_int Tryz.underlying3 g3
      obtain ⟨x4, e4, _⟩ := DataW.trod_int Tryz.underlying3 g4
      obtain ⟨x5, e5, _⟩ := DataW.trod_int Tryz.underlying3 g5
      obtain ⟨x6, e6, _⟩ := DataW.trod_int Tryz.underlying3 g6
      simp only [List.cons.injEq, and_true] at e0 e1 e2 e3 e4 e5 e6
      subst e0 e1 e2 e3 e4 e5 e6
      exact ⟨x0, x1, x2, x3, x4, x5, x6, rfl⟩
set_option maxRecDepth 20000 in
theorem open_cells_cmd {cs : List Value} {x : DataW H × List MemPlace} (h : DataW.trod enc Tryz.prog W 0 (fun _ => true) true fuel 30 cs = some x) (hl : cs.length = 9) (hlt : ∀ y ∈ x.2, y.block < W.heap.size) : ∃ (c : M.Cmd) (va vb : Value), cs = [.int .i64 c.k, .int .i64 c.tc, .int .i64 c.tn, .int .i64 c.tt, .int .i64 c.tk, .int .i64 c.sh, va, vb, .bool c.cm] ∧ Rds W va c.rs ∧ Wrs W vb c.ws := by
  match cs, hl with
  | [c0, c1, c2, c3, c4, c5, c6, c7, c8], _ =>
    obtain ⟨xs, n, _, hx, _, hlen, hg⟩ := DataW.trod_struct Tryz.underlying30 h
    match xs, hlen with
    | [y0, y1, y2, y3, y4, y5, y6], _ =>
      obtain ⟨k, e0, _⟩ := DataW.trod_int (x := y0) Tryz.underlying3 (show DataW.trod enc Tryz.prog W 0 (fun _ => true) true n 3 [c0] = some y0 from by have := hg 0 _ rfl; simpa [cl3, Value.cells] using this)
      obtain ⟨tc, tn, e1, e2⟩ := open_two (x := y1) Tryz.underlying24 rfl rfl rfl rfl (show DataW.trod enc Tryz.prog W 0 (fun _ => true) true n 24 [c1, c2] = some y1 from by have := hg 1 _ rfl; simpa [cl23, Value.cells] using this)
      obtain ⟨tt, tk, e3, e4⟩ := open_two (x := y2) Tryz.underlying26 rfl rfl rfl rfl (show DataW.trod enc Tryz.prog W 0 (fun _ => true) true n 26 [c3, c4] = some y2 from by have := hg 2 _ rfl; simpa [cl25, Value.cells] using this)
      obtain ⟨sh, e5, _⟩ := DataW.trod_int (x := y3) Tryz.underlying3 (show DataW.trod enc Tryz.prog W 0 (fun _ => true) true n 3 [c5] = some y3 from by have := hg 3 _ rfl; simpa [cl3, Value.cells] using this)
      have hx2 := congrArg Prod.snd hx
      simp only at hx2
      obtain ⟨rs, e6⟩ := open_rds (x := y4) (v := c6) (show DataW.trod enc Tryz.prog W 0 (fun _ => true) true n 27 [c6] = some y4 from by have := hg 4 _ rfl; simpa [cl26, Value.cells] using this) (fun y hy => hlt y (by rw [hx2]; simp [hy]))
      obtain ⟨ws, e7⟩ := open_wrs (x := y5) (v := c7) (show DataW.trod enc Tryz.prog W 0 (fun _ => true) true n 28 [c7] = some y5 from by have := hg 5 _ rfl; simpa [cl27, Value.cells] using this) (fun y hy => hlt y (by rw [hx2]; simp [hy]))
      obtain ⟨cm, e8, _⟩ := DataW.trod_bool (x := y6) Tryz.underlying4 (show DataW.trod enc Tryz.prog W 0 (fun _ => true) true n 4 [c8] = some y6 from by have := hg 6 _ rfl; simpa [cl4, Value.cells] using this)
      simp only [List.cons.injEq, and_true] at e0 e5 e8
      subst e0 e1 e2 e3 e4 e5 e8
      exact ⟨⟨k, tc, tn, tt, tk, sh, rs, ws, cm⟩, c6, c7, rfl, e6, e7⟩
set_option maxRecDepth 20000 in
theorem open_cells_rec {cs : List Value} {x : DataW H × List MemPlace} (h : DataW.trod enc Tryz.prog W 0 (fun _ => true) true fuel 41 cs = some x) (hl : cs.length = 25) (hlt : ∀ y ∈ x.2, y.block < W.heap.size) : ∃ (r : M.Rec) (va vb : Value), cs = [.int .i64 r.ir, .int .i64 r.is, .int .i64 r.st, .int .i64 r.pn, .int .i64 r.pr, .int .i64 r.bn, .int .i64 r.br, .int .i64 r.c.k, .int .i64 r.c.tc, .int .i64 r.c.tn, .int .i64 r.c.tt, .int .i64 r.c.tk, .int .i64 r.c.sh, va, vb, .bool r.c.cm, .int .i64 r.sq, .int .i64 r.d0, .int .i64 r.d1, .int .i64 r.d2, .int .i64 r.d3, .int .i64 r.d4, .int .i64 r.d5, .int .i64 r.d6, .bool r.kp] ∧ Rds W va r.c.rs ∧ Wrs W vb r.c.ws ∧ -9223372036854775808 ≤ r.sq := by
  match cs, hl with
  | [c0, c1, c2, c3, c4, c5, c6, c7, c8, c9, c10, c11, c12, c13, c14, c15, c16, c17, c18, c19, c20, c21, c22, c23, c24], _ =>
    obtain ⟨xs, n, _, hx, _, hlen, hg⟩ := DataW.trod_struct Tryz.underlying41 h
    match xs, hlen with
    | [y0, y1, y2, y3, y4, y5, y6, y7], _ =>
      obtain ⟨ir, is, e0, e1⟩ := open_two (x := y0) Tryz.underlying32 rfl rfl rfl rfl (show DataW.trod enc Tryz.prog W 0 (fun _ => true) true n 32 [c0, c1] = some y0 from by have := hg 0 _ rfl; simpa [cl23i, Value.cells] using this)
      obtain ⟨st, e2, _⟩ := DataW.trod_int (x := y1) Tryz.underlying3 (show DataW.trod enc Tryz.prog W 0 (fun _ => true) true n 3 [c2] = some y1 from by have := hg 1 _ rfl; simpa [cl3, Value.cells] using this)
      obtain ⟨pn, pr, e3, e4⟩ := open_two (x := y2) Tryz.underlying37 rfl rfl rfl rfl (show DataW.trod enc Tryz.prog W 0 (fun _ => true) true n 37 [c3, c4] = some y2 from by have := hg 2 _ rfl; simpa [cl25b, Value.cells] using this)
      obtain ⟨bn, br, e5, e6⟩ := open_two (x := y3) Tryz.underlying37 rfl rfl rfl rfl (show DataW.trod enc Tryz.prog W 0 (fun _ => true) true n 37 [c5, c6] = some y3 from by have := hg 3 _ rfl; simpa [cl25b, Value.cells] using this)
      have hx2 := congrArg Prod.snd hx
      simp only at hx2
      obtain ⟨c, va, vb, e7, f1, f2⟩ := open_cells_cmd (x := y4) (show DataW.trod enc Tryz.prog W 0 (fun _ => true) true n 30 [c7, c8, c9, c10, c11, c12, c13, c14, c15] = some y4 from by have := hg 4 _ rfl; simpa [cl29, Value.cells] using this) rfl (fun y hy => hlt y (by rw [hx2]; simp [hy]))
      obtain ⟨sq, e8, _, w8⟩ := DataW.trod_int (x := y5) Tryz.underlying3 (show DataW.trod enc Tryz.prog W 0 (fun _ => true) true n 3 [c16] = some y5 from by have := hg 5 _ rfl; simpa [cl3, Value.cells] using this)
      obtain ⟨d0, d1, d2, d3, d4, d5, d6, e9⟩ := open_cells_deps (x := y6) (show DataW.trod enc Tryz.prog W 0 (fun _ => true) true n 39 [c17, c18, c19, c20, c21, c22, c23] = some y6 from by have := hg 6 _ rfl; simpa [cl35, Value.cells] using this) rfl
      obtain ⟨kp, e10, _⟩ := DataW.trod_bool (x := y7) Tryz.underlying4 (show DataW.trod enc Tryz.prog W 0 (fun _ => true) true n 4 [c24] = some y7 from by have := hg 7 _ rfl; simpa [cl4, Value.cells] using this)
      simp only [List.cons.injEq, and_true] at e2 e7 e8 e9 e10
      obtain ⟨g0, g1, g2, g3, g4, g5, g6, g7, g8⟩ := e7
      obtain ⟨j0, j1, j2, j3, j4, j5, j6⟩ := e9
      subst e0 e1 e2 e3 e4 e5 e6 g0 g1 g2 g3 g4 g5 g6 g7 g8 e8 j0 j1 j2 j3 j4 j5 j6 e10
      exact ⟨⟨ir, is, st, pn, pr, bn, br, c, sq, d0, d1, d2, d3, d4, d5, d6, kp⟩, _, _, rfl, f1, f2, (bounds_i64 w8).1⟩
set_option maxRecDepth 20000 in
theorem open_rec {r : Reach} {b0 : Nat} {v : Value} {d : DataW H} {p : List MemPlace} (hv : Value.okWide Tryz.prog W r b0 41 v) (h : DataW.Trod enc Tryz.prog W 0 (fun _ => true) true 41 v d p) (hlt : ∀ x ∈ p, x.block < W.heap.size) : ∃ (r : M.Rec) (va vb : Value), v = .agg #[.int .i64 r.ir, .int .i64 r.is, .int .i64 r.st, .int .i64 r.pn, .int .i64 r.pr, .int .i64 r.bn, .int .i64 r.br, .int .i64 r.c.k, .int .i64 r.c.tc, .int .i64 r.c.tn, .int .i64 r.c.tt, .int .i64 r.c.tk, .int .i64 r.c.sh, va, vb, .bool r.c.cm, .int .i64 r.sq, .int .i64 r.d0, .int .i64 r.d1, .int .i64 r.d2, .int .i64 r.d3, .int .i64 r.d4, .int .i64 r.d5, .int .i64 r.d6, .bool r.kp] ∧ Rds W va r.c.rs ∧ Wrs W vb r.c.ws ∧ -9223372036854775808 ≤ r.sq := by
  obtain ⟨cs, rfl, hsz⟩ := okWide_struct Tryz.underlying41 hv
  obtain ⟨fuel, hf⟩ := h
  obtain ⟨r, va, vb, e, f1, f2, f3⟩ := open_cells_rec (cs := cs.toList) hf (by simpa using hsz.trans cl37) hlt
  exact ⟨r, va, vb, by rw [← Array.toArray_toList (xs := cs), e], f1, f2, f3⟩
end
end Go.Proofs.YtpknkhgkejkpkaaGreat
