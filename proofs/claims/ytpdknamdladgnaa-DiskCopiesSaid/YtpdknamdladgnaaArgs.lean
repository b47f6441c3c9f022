/- Bytes, steps, slices of steps and of bytes as arguments, opened to their parts; no conditions. -/
import Derived.Test.YtpdknamdladgnaaLawN
import Derived.ProofKit
import Derived.OpenShut
import Derived.Carry
import Derived.ChangeSlices
import Derived.ChangeSame
import Derived.Deep.Strs
import Derived.Deep.Slices
import Derived.Deep.Fields
import Derived.Deep.DeepHandedRow
namespace Go.Proofs.Ytpdknamdladgnaa
open Go.ChangeShapes Go.WideShapes Go.ChangeAt Go.RowKit Go.Deep

theorem own : ownKnob Try.prog.godebug = none := by kernel_rfl
theorem laidOut : laidOutB Try.prog = true := by kernel_rfl
theorem cells3 : Try.prog.cellsOf 3 = 1 := by kernel_rfl
theorem cells5 : Try.prog.cellsOf 5 = 1 := by kernel_rfl
theorem cells27 : Try.prog.cellsOf 27 = 1 := by kernel_rfl
theorem cells33 : Try.prog.cellsOf 33 = 5 := by kernel_rfl

def toB (z : Int) : UInt8 := UInt8.ofNat z.toNat
theorem toB_enc {z : Int} (h : (Lit.int .u8 z).wf = true) : enc8 (toB z) = .int .u8 z := by
  have := bounds_u8 h
  unfold enc8 toB
  simp; omega

/-- Cells of numbers that are bytes. -/
theorem bts_of_cells {W : World} {A : Option Addr} {len c : Nat} {zs : List Int} (hl : len ≤ c) (hz : zs.length = c) (hw : ∀ n ∈ zs, (Lit.int .u8 n).wf = true)
    (h : 0 < len → ∃ a : Addr, A = some a ∧ a.block < W.heap.size ∧ ∀ i, i < c → W.cell? (a.add i) = some (.int .u8 (zs.getD i 0))) : Bts W (.slice A len c) ((zs.take len).map toB) := by
  have hln : (((zs.take len).map toB).map enc8).length = len := by simp; omega
  refine ⟨A, c, by rw [hln], by rw [hln]; exact hl, fun h0 => ?_⟩
  rw [hln] at h0
  obtain ⟨⟨b, off, spot⟩, rfl, hb, hcell⟩ := h h0
  have hspot : spot = none := by simpa [Addr.add] using World.cell?_spot (hcell 0 (by omega))
  subst hspot
  refine ⟨b, off, rfl, hb, fun k x hx => ?_⟩
  have hk : k < len := by
    have := (List.getElem?_eq_some_iff.1 hx).1
    rw [hln] at this; exact this
  have := hcell k (by omega)
  rw [add_plain'] at this
  rw [this]
  rw [List.map_map, List.getElem?_map, List.getElem?_take_of_lt hk, List.getElem?_eq_getElem (by omega)] at hx
  simp only [Option.map_some, Function.comp] at hx
  rw [toB_enc (hw _ (List.getElem_mem _))] at hx
  rw [← hx, List.getD, List.getElem?_eq_getElem (by omega)]; rfl

section
variable {H : Type} {enc : TypeId × Value → H} {W : World} {fuel : Nat}
theorem open_bts {v : Value} {x : DataW H × List MemPlace} (h : DataW.trod enc Try.prog W 0 (fun _ => true) true fuel 27 [v] = some x) (hlt : ∀ y ∈ x.2, y.block < W.heap.size) : ∃ xs : List UInt8, Bts W v xs := by
  rcases open_ints Try.underlying27 Try.underlying5 cells5 h with ⟨hcs, hx⟩ | ⟨a, len', cap', zs, hcs, _, hl, hm, hz, hx, hcell, hws⟩
  · simp only [List.cons.injEq, and_true] at hcs
    subst hcs
    exact ⟨[], Bts.nil _ _ _⟩
  · simp only [List.cons.injEq, and_true] at hcs
    subst hcs
    simp only [if_true] at hz
    refine ⟨_, bts_of_cells hl hz hws (fun h0 => ⟨a, rfl, ?_, fun i hi => hcell i (by omega)⟩)⟩
    exact hlt (.cell a.block a.off) (by rw [hx]; exact MemPlace.mem_row.2 ⟨0, by omega, by simp⟩)
theorem open_do_cells {cs : List Value} {x : DataW H × List MemPlace} (h : DataW.trod enc Try.prog W 0 (fun _ => true) true fuel 33 cs = some x) (hl : cs.length = 5) (hlt : ∀ y ∈ x.2, y.block < W.heap.size) :
    ∃ (d : M.Do) (sv : Value), cs = [.int .i64 d.verb, .int .i64 d.n, .int .i64 d.pos, .int .u8 (d.mask.toNat : Int), sv] ∧ Bts W sv d.b := by
  match cs, hl with
  | [k0, k1, k2, k3, k4], _ =>
    obtain ⟨xs, n, _, hx, _, hlen, hg⟩ := DataW.trod_struct Try.underlying33 h
    match xs, hlen with
    | [y0, y1, y2, y3, y4], _ =>
      obtain ⟨z0, e0, _⟩ := DataW.trod_int (x := y0) Try.underlying3 (show DataW.trod enc Try.prog W 0 (fun _ => true) true n 3 [k0] = some y0 from by have := hg 0 _ rfl; simpa [cells3] using this)
      obtain ⟨z1, e1, _⟩ := DataW.trod_int (x := y1) Try.underlying3 (show DataW.trod enc Try.prog W 0 (fun _ => true) true n 3 [k1] = some y1 from by have := hg 1 _ rfl; simpa [cells3] using this)
      obtain ⟨z2, e2, _⟩ := DataW.trod_int (x := y2) Try.underlying3 (show DataW.trod enc Try.prog W 0 (fun _ => true) true n 3 [k2] = some y2 from by have := hg 2 _ rfl; simpa [cells3] using this)
      obtain ⟨z3, e3, _, w3⟩ := DataW.trod_int (x := y3) Try.underlying5 (show DataW.trod enc Try.prog W 0 (fun _ => true) true n 5 [k3] = some y3 from by have := hg 3 _ rfl; simpa [cells5] using this)
      obtain ⟨b, e4⟩ := open_bts (x := y4) (v := k4) (show DataW.trod enc Try.prog W 0 (fun _ => true) true n 27 [k4] = some y4 from by have := hg 4 _ rfl; simpa [cells27] using this) (fun y hy => hlt y (by rw [hx]; simp [hy]))
      simp only [List.cons.injEq, and_true] at e0 e1 e2 e3
      subst e0 e1 e2 e3
      have h3 := toB_enc w3
      unfold enc8 at h3
      exact ⟨⟨z0, z1, z2, toB z3, b⟩, k4, by rw [h3], e4⟩
end

theorem open_bytes {H : Type} {enc : TypeId × Value → H} {W : World} {r : Reach} {b0 : Nat} {v : Value} {d : DataW H} {p : List MemPlace} (hv : Value.okWide Try.prog W r b0 27 v) (h : DataW.Trod enc Try.prog W 0 (fun _ => true) true 27 v d p)
    (hlt : ∀ x ∈ p, x.block < W.heap.size) : ∃ xs : List UInt8, Bts W v xs := by
  obtain ⟨a0, len, cap, rfl⟩ := okWide_slice Try.underlying27 hv
  obtain ⟨fuel, hf⟩ := h
  exact open_bts (x := (d, p)) (by simpa [Value.cells] using hf) hlt
theorem open_byte {H : Type} {enc : TypeId × Value → H} {W : World} {r : Reach} {b0 : Nat} {v : Value} {d : DataW H} {p : List MemPlace} (hv : Value.okWide Try.prog W r b0 5 v) (h : DataW.Trod enc Try.prog W 0 (fun _ => true) true 5 v d p) : ∃ x : UInt8, v = .int .u8 (x.toNat : Int) := by
  obtain ⟨x, rfl, _, _, g⟩ := open_int Try.underlying5 hv h
  have h3 := toB_enc g
  unfold enc8 at h3
  exact ⟨toB x, h3.symm⟩
theorem open_do {H : Type} {enc : TypeId × Value → H} {W : World} {r : Reach} {b0 : Nat} {v : Value} {d : DataW H} {p : List MemPlace} (hv : Value.okWide Try.prog W r b0 33 v) (h : DataW.Trod enc Try.prog W 0 (fun _ => true) true 33 v d p)
    (hlt : ∀ x ∈ p, x.block < W.heap.size) : ∃ (s : M.Do) (sv : Value), v = .agg #[.int .i64 s.verb, .int .i64 s.n, .int .i64 s.pos, .int .u8 (s.mask.toNat : Int), sv] ∧ Bts W sv s.b := by
  obtain ⟨cs, rfl, hsz⟩ := okWide_struct Try.underlying33 hv
  obtain ⟨l⟩ := cs
  obtain ⟨fuel, hf⟩ := h
  obtain ⟨s, sv, e, hb⟩ := open_do_cells (x := (d, p)) (cs := l) (by simpa [Value.cells] using hf) (hsz.trans cells33) hlt
  exact ⟨s, sv, by rw [e], hb⟩

theorem list_of {α : Type} (z : α) (Q : Nat → α → Prop) : ∀ n, (∀ i, i < n → ∃ r, Q i r) → ∃ l : List α, l.length = n ∧ ∀ i, i < n → Q i (l.getD i z)
  | 0, _ => ⟨[], rfl, fun i h => absurd h (by omega)⟩
  | n + 1, h => by
    obtain ⟨l, hl, hq⟩ := list_of z Q n (fun i hi => h i (by omega))
    obtain ⟨r, hr⟩ := h n (by omega)
    refine ⟨l ++ [r], by simp [hl], fun i hi => ?_⟩
    by_cases e : i = n
    · subst e
      rw [List.getD, List.getElem?_append_right (by omega)]
      simpa [hl] using hr
    · rw [List.getD, List.getElem?_append_left (by omega)]
      exact hq i (by omega)

theorem open_dos {H : Type} {enc : TypeId × Value → H} {W : World} {r : Reach} {b0 : Nat} {v : Value} {d : DataW H} {p : List MemPlace} (hv : Value.okWide Try.prog W r b0 22 v) (h : DataW.Trod enc Try.prog W 0 (fun _ => true) true 22 v d p)
    (hlt : ∀ x ∈ p, x.block < W.heap.size) : ∃ l : List M.Do, Dos W v l := by
  obtain ⟨a0, len0, cap0, rfl⟩ := okWide_slice Try.underlying22 hv
  obtain ⟨fuel, hf⟩ := h
  rcases open_slice Try.underlying22 hf with ⟨hcs, _⟩ | ⟨a, len, cap, m, n, D, Pl, hcs, _, hl, hm, hmm, hx, hi⟩
  · simp [Value.cells] at hcs
    obtain ⟨rfl, rfl, rfl⟩ := hcs
    exact ⟨[], none, 0, rfl, Nat.le_refl _, Nat.zero_le _, fun h => absurd h (by simp)⟩
  · simp [Value.cells] at hcs
    obtain ⟨rfl, rfl, rfl⟩ := hcs
    simp only [if_true] at hmm
    rw [cells33] at hx hi
    simp only [Prod.mk.injEq] at hx
    by_cases h0 : len0 = 0
    · subst h0
      exact ⟨[], some a, cap0, rfl, Nat.zero_le _, hm, fun h => absurd h (by simp)⟩
    · have key : ∀ i, i < len0 → ∃ s : M.Do, ∃ sv, W.cell? (a.add (i * 5)) = some (.int .i64 s.verb) ∧ W.cell? ((a.add (i * 5)).add 1) = some (.int .i64 s.n) ∧ W.cell? ((a.add (i * 5)).add 2) = some (.int .i64 s.pos) ∧ W.cell? ((a.add (i * 5)).add 3) = some (.int .u8 (s.mask.toNat : Int)) ∧ W.cell? ((a.add (i * 5)).add 4) = some sv ∧ Bts W sv s.b := by
        intro i hil
        obtain ⟨cs', hc, ht⟩ := hi i (by omega)
        obtain ⟨_, hcl, hat⟩ := World.cells?_some hc
        obtain ⟨s, sv, rfl, hb⟩ := open_do_cells ht hcl (fun y hy => hlt y (by
          rw [hx.2]
          exact List.mem_append_right _ (List.mem_flatMap.2 ⟨i, List.mem_range.2 (by omega), hy⟩)))
        exact ⟨s, sv, by have := hat 0 (by omega); rw [Go.Deep.add_add, Nat.add_zero] at this; simpa using this, by simpa using hat 1 (by omega), by simpa using hat 2 (by omega), by simpa using hat 3 (by omega), by simpa using hat 4 (by omega), hb⟩
      obtain ⟨b, off, spot⟩ := a
      have hspot : spot = none := by
        obtain ⟨s, sv, h1, _⟩ := key 0 (by omega)
        simpa [Addr.add] using World.cell?_spot h1
      subst hspot
      obtain ⟨l, hll, hq⟩ := list_of do0 (fun i s => ∃ sv, DoAt W b (off + i * 5) s sv) len0 (fun i hil => by
        obtain ⟨s, sv, h1, h2, h3, h4, h5, h6⟩ := key i hil
        simp only [add_plain'] at h1 h2 h3 h4 h5
        exact ⟨s, sv, h1, h2, h3, h4, h5, h6⟩)
      have hb : b < W.heap.size := hlt (.cell b off) (by rw [hx.2]; exact List.mem_append_left _ (MemPlace.mem_row.2 ⟨0, by omega, by simp⟩))
      subst hll
      exact ⟨l, some ⟨b, off, none⟩, cap0, rfl, hl, hm, fun _ => ⟨b, off, rfl, hb, hq⟩⟩

/-- A slice of slices of bytes. -/
def Lots (w : World) (v : Value) (l : List (List UInt8)) : Prop := ∃ (A : Option Addr) (c : Nat), v = .slice A l.length c ∧ l.length ≤ c ∧ c ≤ maxLen ∧ (0 < l.length → ∃ b o, A = some ⟨b, o, none⟩ ∧ b < w.heap.size ∧ ∀ i, i < l.length → ∃ sv, w.cell? ⟨b, o + i, none⟩ = some sv ∧ Bts w sv (l.getD i []))
theorem Lots.below {w w' : World} {v : Value} {l : List (List UInt8)} (h : Lots w v l) (hb : Below w.heap.size w w') : Lots w' v l := by
  obtain ⟨A, c, e, hc, hm, hx⟩ := h
  refine ⟨A, c, e, hc, hm, fun h0 => ?_⟩
  obtain ⟨b, o, e1, hl, hy⟩ := hx h0
  refine ⟨b, o, e1, Nat.lt_of_lt_of_le hl hb.size, fun i hi => ?_⟩
  obtain ⟨sv, h1, h2⟩ := hy i hi
  exact ⟨sv, (hb.cell (p := ⟨b, o + i, none⟩) hl).trans h1, h2.below hb⟩
theorem open_lots {H : Type} {enc : TypeId × Value → H} {W : World} {r : Reach} {b0 : Nat} {v : Value} {d : DataW H} {p : List MemPlace} (hv : Value.okWide Try.prog W r b0 44 v) (h : DataW.Trod enc Try.prog W 0 (fun _ => true) true 44 v d p)
    (hlt : ∀ x ∈ p, x.block < W.heap.size) : ∃ l : List (List UInt8), Lots W v l := by
  obtain ⟨a0, len0, cap0, rfl⟩ := okWide_slice Try.underlying44 hv
  obtain ⟨fuel, hf⟩ := h
  rcases open_slice Try.underlying44 hf with ⟨hcs, _⟩ | ⟨a, len, cap, m, n, D, Pl, hcs, _, hl, hm, hmm, hx, hi⟩
  · simp [Value.cells] at hcs
    obtain ⟨rfl, rfl, rfl⟩ := hcs
    exact ⟨[], none, 0, rfl, Nat.le_refl _, Nat.zero_le _, fun h => absurd h (by simp)⟩
  · simp [Value.cells] at hcs
    obtain ⟨rfl, rfl, rfl⟩ := hcs
    simp only [if_true] at hmm
    rw [cells27] at hx hi
    simp only [Prod.mk.injEq] at hx
    by_cases h0 : len0 = 0
    · subst h0
      exact ⟨[], some a, cap0, rfl, Nat.zero_le _, hm, fun h => absurd h (by simp)⟩
    · have key : ∀ i, i < len0 → ∃ xs : List UInt8, ∃ sv, W.cell? (a.add i) = some sv ∧ Bts W sv xs := by
        intro i hil
        obtain ⟨cs', hc, ht⟩ := hi i (by omega)
        obtain ⟨_, hcl, hat⟩ := World.cells?_some hc
        match cs', hcl with
        | [sv], _ =>
          obtain ⟨xs, hb⟩ := open_bts ht (fun y hy => hlt y (by
            rw [hx.2]
            exact List.mem_append_right _ (List.mem_flatMap.2 ⟨i, List.mem_range.2 (by omega), hy⟩)))
          exact ⟨xs, sv, by have := hat 0 (by omega); rw [Go.Deep.add_add, Nat.add_zero, Nat.mul_one] at this; simpa using this, hb⟩
      obtain ⟨b, off, spot⟩ := a
      have hspot : spot = none := by
        obtain ⟨s, sv, h1, _⟩ := key 0 (by omega)
        simpa [Addr.add] using World.cell?_spot h1
      subst hspot
      obtain ⟨l, hll, hq⟩ := list_of [] (fun i (s : List UInt8) => ∃ sv, W.cell? ⟨b, off + i, none⟩ = some sv ∧ Bts W sv s) len0 (fun i hil => by
        obtain ⟨s, sv, h1, h2⟩ := key i hil
        simp only [add_plain'] at h1
        exact ⟨s, sv, h1, h2⟩)
      have hb : b < W.heap.size := hlt (.cell b off) (by rw [hx.2]; exact List.mem_append_left _ (MemPlace.mem_row.2 ⟨0, by omega, by simp⟩))
      subst hll
      exact ⟨l, some ⟨b, off, none⟩, cap0, rfl, hl, hm, fun _ => ⟨b, off, rfl, hb, hq⟩⟩
end Go.Proofs.Ytpdknamdladgnaa
