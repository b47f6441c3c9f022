/- Messages, steps, and slices of both, as arguments; no conditions. -/
import Derived.Test.YtnahboflpipfpaaDos
import Derived.Test.YtnahboflpipfpaaWiR
namespace Go.Proofs.Ytnahboflpipfpaa
open Go.ChangeShapes Go.WideShapes Go.ChangeAt Go.RowKit Go.Deep
theorem flat_get {α : Type} {k : Nat} (f : α → List Value) (hf : ∀ a, (f a).length = k) (hk : 0 < k) : ∀ (l : List α) (j : Nat) (x : Value), (l.flatMap f)[j]? = some x → ∃ a, l[j / k]? = some a ∧ (f a)[j % k]? = some x := by
  intro l
  induction l with
  | nil => intro j x h; simp at h
  | cons a l ih =>
    intro j x h
    rw [List.flatMap_cons] at h
    by_cases hj : j < k
    · rw [List.getElem?_append_left (by rw [hf]; exact hj)] at h
      refine ⟨a, ?_, ?_⟩
      · rw [Nat.div_eq_of_lt hj]; rfl
      · rw [Nat.mod_eq_of_lt hj]; exact h
    · rw [List.getElem?_append_right (by rw [hf]; omega), hf] at h
      obtain ⟨a', h1, h2⟩ := ih (j - k) x h
      have e1 : j / k = (j - k) / k + 1 := by rw [Nat.div_eq_sub_div hk (by omega)]
      have e2 : j % k = (j - k) % k := by rw [Nat.mod_eq_sub_mod (by omega)]
      exact ⟨a', by rw [e1]; exact h1, by rw [e2]; exact h2⟩
theorem flatG_len {α : Type} {k : Nat} {f : α → List Value} (hf : ∀ a, (f a).length = k) (D : List α) : (D.flatMap f).length = D.length * k := by
  induction D with
  | nil => simp
  | cons x l ih => rw [List.flatMap_cons, List.length_append, ih, hf x, List.length_cons, Nat.succ_mul]; omega
section
variable {H : Type} {enc : TypeId × Value → H} {W : World} {fuel : Nat}
theorem open_rowG {α : Type} {k : Nat} {t e : TypeId} (f : α → List Value) (hf : ∀ a, (f a).length = k) (hk : 0 < k) (z : α) (P : α → Prop) (hu : Try.prog.underlying t = some (.slice e)) (ce : Try.prog.cellsOf e = k)
    (hcell : ∀ {n : Nat} {cs : List Value} {x : DataW H × List MemPlace}, DataW.trod enc Try.prog W 0 (fun _ => true) true n e cs = some x → cs.length = k → (∀ y ∈ x.2, y.block < W.heap.size) → ∃ a, cs = f a ∧ P a)
    {v : Value} {x : DataW H × List MemPlace} (h : DataW.trod enc Try.prog W 0 (fun _ => true) true fuel t [v] = some x) (hlt : ∀ y ∈ x.2, y.block < W.heap.size) : ∃ X : List α, RowN k W v X.length (X.flatMap f) ∧ (∀ a ∈ X, P a) ∧ X.length ≤ maxLen := by
  rcases open_slice hu h with ⟨hcs, _⟩ | ⟨a, len, cap, m, n, D, Pl, hcs, _, hl, hm, hmm, hx, hi⟩
  · simp only [List.cons.injEq, and_true] at hcs
    subst hcs
    exact ⟨[], ⟨by simp, none, 0, rfl, Nat.le_refl _, fun h => absurd h (by simp)⟩, fun _ h => (List.not_mem_nil h).elim, Nat.zero_le _⟩
  · simp only [List.cons.injEq, and_true] at hcs
    subst hcs
    simp only [if_true] at hmm
    rw [ce] at hx hi
    by_cases h0 : len = 0
    · subst h0
      exact ⟨[], ⟨by simp, some a, cap, rfl, Nat.zero_le _, fun h => absurd h (by simp)⟩, fun _ h => (List.not_mem_nil h).elim, Nat.zero_le _⟩
    · have key : ∀ i, i < len → ∃ r : α, (∀ j u, (f r)[j]? = some u → W.cell? ((a.add (i * k)).add j) = some u) ∧ P r := by
        intro i hil
        obtain ⟨cs', hc, ht⟩ := hi i (by omega)
        obtain ⟨_, hcl, hat⟩ := World.cells?_some hc
        obtain ⟨r, hcs, h1⟩ := hcell ht hcl (fun y hy => hlt y (by
          rw [hx]
          exact List.mem_append_right _ (List.mem_flatMap.2 ⟨i, List.mem_range.2 (by omega), hy⟩)))
        refine ⟨r, fun j u hj => ?_, h1⟩
        have hjl : j < k := by have := (List.getElem?_eq_some_iff.1 hj).1; rwa [hf] at this
        rw [hat j (by omega), hcs]
        exact hj
      obtain ⟨b, off, spot⟩ := a
      have hspot : spot = none := by
        obtain ⟨r, h1, _⟩ := key 0 (by omega)
        have h2 := h1 0 ((f r)[0]'(by rw [hf]; exact hk)) (List.getElem?_eq_getElem _)
        simpa [Addr.add] using World.cell?_spot h2
      subst hspot
      obtain ⟨l, hll, hq⟩ := list_of z (fun i r => (∀ j u, (f r)[j]? = some u → W.cell? ⟨b, off + i * k + j, none⟩ = some u) ∧ P r) len (fun i hil => by
        obtain ⟨r, h1, h2⟩ := key i hil
        exact ⟨r, fun j u hj => by have := h1 j u hj; rw [add_plain0, add_plain0] at this; exact this, h2⟩)
      have hb : b < W.heap.size := hlt (.cell b off) (by rw [hx]; exact List.mem_append_left _ (MemPlace.mem_row.2 ⟨0, Nat.mul_pos (by omega) hk, by simp⟩))
      subst hll
      have hat : ∀ i r, l[i]? = some r → i < l.length ∧ l.getD i z = r := fun i r e => by
        have := (List.getElem?_eq_some_iff.1 e).1
        refine ⟨this, ?_⟩
        rw [List.getD, e]; rfl
      refine ⟨l, ⟨flatG_len hf l, some ⟨b, off, none⟩, cap, rfl, hl, fun _ => ⟨b, off, rfl, hb, fun j u hj => ?_⟩⟩, fun r hr => ?_, by omega⟩
      · obtain ⟨r, e1, e2⟩ := flat_get f hf hk l j u hj
        obtain ⟨hlt', e3⟩ := hat _ r e1
        have := (hq (j / k) hlt').1 (j % k) u (by rw [e3]; exact e2)
        rw [show off + j / k * k + j % k = off + j by rw [Nat.add_assoc, Nat.div_add_mod']] at this
        exact this
      · obtain ⟨i, hi', e⟩ := List.mem_iff_getElem.1 hr
        obtain ⟨hlt', e3⟩ := hat i r (by rw [List.getElem?_eq_getElem hi', e])
        have := (hq i hlt').2
        rwa [e3] at this
theorem cl51 : Try.prog.cellsOf 51 = 32 := by kernel_rfl
theorem cl27s : Try.prog.cellsOf 27 = 1 := by kernel_rfl
def MsgP (W : World) (x : Mv) : Prop := Rds W x.va x.m.r.c.rs ∧ Wrs W x.vb x.m.r.c.ws
set_option maxRecDepth 20000 in
theorem open_cells_msg {cs : List Value} {x : DataW H × List MemPlace} (h : DataW.trod enc Try.prog W 0 (fun _ => true) true fuel 49 cs = some x) (hl : cs.length = 30) (hlt : ∀ y ∈ x.2, y.block < W.heap.size) : ∃ a : Mv, cs = a.cells ∧ MsgP W a := by
  match cs, hl with
  | [c0, c1, c2, c3, c4, c5, c6, c7, c8, c9, c10, c11, c12, c13, c14, c15, c16, c17, c18, c19, c20, c21, c22, c23, c24, c25, c26, c27, c28, c29], _ =>
    obtain ⟨xs, n, _, hx, _, hlen, hg⟩ := DataW.trod_struct Try.underlying49 h
    match xs, hlen with
    | [y0, y1, y2, y3, y4], _ =>
      obtain ⟨k, e0, _⟩ := DataW.trod_int (x := y0) Try.underlying3 (show DataW.trod enc Try.prog W 0 (fun _ => true) true n 3 [c0] = some y0 from by have := hg 0 _ rfl; simpa [cl3, Value.cells] using this)
      obtain ⟨fr, e1, _⟩ := DataW.trod_int (x := y1) Try.underlying3 (show DataW.trod enc Try.prog W 0 (fun _ => true) true n 3 [c1] = some y1 from by have := hg 1 _ rfl; simpa [cl3, Value.cells] using this)
      obtain ⟨to, e2, _⟩ := DataW.trod_int (x := y2) Try.underlying3 (show DataW.trod enc Try.prog W 0 (fun _ => true) true n 3 [c2] = some y2 from by have := hg 2 _ rfl; simpa [cl3, Value.cells] using this)
      obtain ⟨bn, br, e3, e4⟩ := open_two (x := y3) Try.underlying33 rfl rfl rfl rfl (show DataW.trod enc Try.prog W 0 (fun _ => true) true n 33 [c3, c4] = some y3 from by have := hg 3 _ rfl; simpa [cl25b, Value.cells] using this)
      have hx2 := congrArg Prod.snd hx
      simp only at hx2
      obtain ⟨q, va, vb, e5, f1, f2⟩ := open_cells_rec (x := y4) (show DataW.trod enc Try.prog W 0 (fun _ => true) true n 47 [c5, c6, c7, c8, c9, c10, c11, c12, c13, c14, c15, c16, c17, c18, c19, c20, c21, c22, c23, c24, c25, c26, c27, c28, c29] = some y4 from by have := hg 4 _ rfl; simpa [cl37, Value.cells] using this) rfl (fun y hy => hlt y (by rw [hx2]; simp [hy]))
      simp only [List.cons.injEq, and_true] at e0 e1 e2 e5
      obtain ⟨g0, g1, g2, g3, g4, g5, g6, g7, g8, g9, g10, g11, g12, g13, g14, g15, g16, g17, g18, g19, g20, g21, g22, g23, g24⟩ := e5
      subst e0 e1 e2 e3 e4 g0 g1 g2 g3 g4 g5 g6 g7 g8 g9 g10 g11 g12 g13 g14 g15 g16 g17 g18 g19 g20 g21 g22 g23 g24
      exact ⟨⟨⟨k, fr, to, bn, br, q⟩, _, _⟩, rfl, f1, f2⟩
set_option maxRecDepth 20000 in
theorem open_cells_do {cs : List Value} {x : DataW H × List MemPlace} (h : DataW.trod enc Try.prog W 0 (fun _ => true) true fuel 51 cs = some x) (hl : cs.length = 32) (hlt : ∀ y ∈ x.2, y.block < W.heap.size) : ∃ d : Dv, cs = d.cells ∧ MsgP W d.x := by
  match cs, hl with
  | [a0, a1, c0, c1, c2, c3, c4, c5, c6, c7, c8, c9, c10, c11, c12, c13, c14, c15, c16, c17, c18, c19, c20, c21, c22, c23, c24, c25, c26, c27, c28, c29], _ =>
    obtain ⟨xs, n, _, hx, _, hlen, hg⟩ := DataW.trod_struct Try.underlying51 h
    match xs, hlen with
    | [y0, y1, y2], _ =>
      obtain ⟨vb, e0, _⟩ := DataW.trod_int (x := y0) Try.underlying3 (show DataW.trod enc Try.prog W 0 (fun _ => true) true n 3 [a0] = some y0 from by have := hg 0 _ rfl; simpa [cl3, Value.cells] using this)
      obtain ⟨k, e1, _⟩ := DataW.trod_int (x := y1) Try.underlying3 (show DataW.trod enc Try.prog W 0 (fun _ => true) true n 3 [a1] = some y1 from by have := hg 1 _ rfl; simpa [cl3, Value.cells] using this)
      have hx2 := congrArg Prod.snd hx
      simp only at hx2
      obtain ⟨q, e5, f1⟩ := open_cells_msg (x := y2) (show DataW.trod enc Try.prog W 0 (fun _ => true) true n 49 [c0, c1, c2, c3, c4, c5, c6, c7, c8, c9, c10, c11, c12, c13, c14, c15, c16, c17, c18, c19, c20, c21, c22, c23, c24, c25, c26, c27, c28, c29] = some y2 from by have := hg 2 _ rfl; simpa [cl39, Value.cells] using this) rfl (fun y hy => hlt y (by rw [hx2]; simp [hy]))
      simp only [List.cons.injEq, and_true] at e0 e1
      subst e0 e1
      exact ⟨⟨vb, k, q⟩, by unfold Dv.cells; rw [← e5], f1⟩
set_option maxRecDepth 20000 in
theorem open_dos {r : Reach} {b0 : Nat} {v : Value} {d : DataW H} {p : List MemPlace} (hv : Value.okWide Try.prog W r b0 22 v) (h : DataW.Trod enc Try.prog W 0 (fun _ => true) true 22 v d p) (hlt : ∀ x ∈ p, x.block < W.heap.size) : ∃ D : List Dv, Dos W v D ∧ D.length ≤ maxLen := by
  obtain ⟨a0, len0, cap0, rfl⟩ := okWide_slice Try.underlying22 hv
  obtain ⟨fuel, hf⟩ := h
  obtain ⟨X, h1, h2, h3⟩ := open_rowG (x := (d, p)) Dv.cells dv_len (by omega) ⟨0, 0, Mv.zero⟩ (fun d => MsgP W d.x) Try.underlying22 cl51 open_cells_do (by simpa [Value.cells] using hf) hlt
  exact ⟨X, ⟨h1, h2⟩, h3⟩
set_option maxRecDepth 20000 in
theorem open_msgs {r : Reach} {b0 : Nat} {v : Value} {d : DataW H} {p : List MemPlace} (hv : Value.okWide Try.prog W r b0 27 v) (h : DataW.Trod enc Try.prog W 0 (fun _ => true) true 27 v d p) (hlt : ∀ x ∈ p, x.block < W.heap.size) : ∃ X : List Mv, RowN 30 W v X.length (X.flatMap Mv.cells) ∧ (∀ x ∈ X, MsgP W x) ∧ X.length ≤ maxLen := by
  obtain ⟨a0, len0, cap0, rfl⟩ := okWide_slice Try.underlying27 hv
  obtain ⟨fuel, hf⟩ := h
  exact open_rowG (x := (d, p)) Mv.cells (fun _ => rfl) (by omega) Mv.zero (MsgP W) Try.underlying27 cl39 open_cells_msg (by simpa [Value.cells] using hf) hlt
set_option maxRecDepth 20000 in
theorem open_mv {r : Reach} {b0 : Nat} {v : Value} {d : DataW H} {p : List MemPlace} (hv : Value.okWide Try.prog W r b0 49 v) (h : DataW.Trod enc Try.prog W 0 (fun _ => true) true 49 v d p) (hlt : ∀ x ∈ p, x.block < W.heap.size) : ∃ x : Mv, v = .agg x.cells.toArray ∧ MsgP W x := by
  obtain ⟨cs, rfl, hsz⟩ := okWide_struct Try.underlying49 hv
  obtain ⟨fuel, hf⟩ := h
  obtain ⟨x, e, h1⟩ := open_cells_msg (x := (d, p)) (cs := cs.toList) hf (by simpa using hsz.trans cl39) hlt
  exact ⟨x, by rw [← Array.toArray_toList (xs := cs), e], h1⟩
set_option maxRecDepth 20000 in
theorem open_do {r : Reach} {b0 : Nat} {v : Value} {d : DataW H} {p : List MemPlace} (hv : Value.okWide Try.prog W r b0 51 v) (h : DataW.Trod enc Try.prog W 0 (fun _ => true) true 51 v d p) (hlt : ∀ x ∈ p, x.block < W.heap.size) : ∃ x : Dv, v = .agg x.cells.toArray ∧ MsgP W x.x := by
  obtain ⟨cs, rfl, hsz⟩ := okWide_struct Try.underlying51 hv
  obtain ⟨fuel, hf⟩ := h
  obtain ⟨x, e, h1⟩ := open_cells_do (x := (d, p)) (cs := cs.toList) hf (by simpa using hsz.trans cl51) hlt
  exact ⟨x, by rw [← Array.toArray_toList (xs := cs), e], h1⟩
end
end Go.Proofs.Ytnahboflpipfpaa
