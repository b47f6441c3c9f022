/- Records, instances as arguments; no conditions but those that they name. -/
import Derived.Test.YtpknkhgkejkpkaaGreatWiR
import Derived.Test.YtpknkhgkejkpkaaGreatPx

namespace Go.Proofs.YtpknkhgkejkpkaaGreat
open Go.ChangeShapes Go.WideShapes Go.ChangeAt Go.RowKit Go.Deep
theorem cells24 : Tryz.prog.cellsOf 32 = 2 := by kernel_rfl
theorem cells22 : Tryz.prog.cellsOf 22 = 1 := by kernel_rfl
theorem c42 : Tryz.prog.cellsOf 39 = 7 := by kernel_rfl
/-- No Seq is below all numbers that can be. -/
def Sqs (X : List Rv) : Prop := ∀ x ∈ X, -9223372036854775808 ≤ x.r.sq
section
variable {H : Type} {enc : TypeId × Value → H} {W : World} {fuel : Nat}
theorem rv_nil {w : World} (A : Option Addr) (c : Nat) : Rows w (.slice A 0 c) [] := ⟨⟨rfl, A, c, rfl, Nat.zero_le _, fun h => absurd h (by simp)⟩, fun _ h => (List.not_mem_nil h).elim⟩
theorem flat_get {α : Type} {k : Nat} (f : α → List Value) (hf : ∀ a, (f a).length = k) (hk : 0 < k) : ∀ (l : List α) (j : Nat) (x : Value), (l.flatMap f)[j]? = some x → ∃ a, l[j / k]? = some a ∧ (f a)[j % k]? = some x := by
  intro l
  induction l with
  | nil => intro j x h; simp at h
  | cons a l ih =>
    intro j x h
    rw [List.flatMap_cons] at h
    by_cases hj : j < k
    · rw [List.getElem?_append_left (by rw [hf]; exact hj)] at h
      refine ⟨a, ?_, ?_⟩
      · rw [Nat.div_eq_of_lt hj]; rfl
      · rw [Nat.mod_eq_of_lt hj]; exact h
    · rw [List.getElem?_append_right (by rw [hf]; omega), hf] at h
      obtain ⟨a', h1, h2⟩ := ih (j - k) x h
      have e1 : j / k = (j - k) / k + 1 := by rw [Nat.div_eq_sub_div hk (by omega)]
      have e2 : j % k = (j - k) % k := by rw [Nat.mod_eq_sub_mod (by omega)]
      exact ⟨a', by rw [e1]; simpa using h1, by rw [e2]; exact h2⟩
theorem add_lit' (b o k : Nat) : (⟨b, o, none⟩ : Addr).add k = ⟨b, o + k, none⟩ := Addr.add_lit ..
theorem open_recs {v : Value} {x : DataW H × List MemPlace} (h : DataW.trod enc Tryz.prog W 0 (fun _ => true) true fuel 22 [v] = some x) (hlt : ∀ y ∈ x.2, y.block < W.heap.size) : ∃ X : List Rv, Rows W v X ∧ Sqs X := by
  rcases open_slice Tryz.underlying22 h with ⟨hcs, _⟩ | ⟨a, len, cap, m, n, D, Pl, hcs, _, hl, hm, hmm, hx, hi⟩
  · simp only [List.cons.injEq, and_true] at hcs
    subst hcs
    exact ⟨[], rv_nil _ _, fun _ h => (List.not_mem_nil h).elim⟩
  · simp only [List.cons.injEq, and_true] at hcs
    subst hcs
    simp only [if_true] at hmm
    rw [cl37] at hx hi
    by_cases h0 : len = 0
    · subst h0
      exact ⟨[], rv_nil _ _, fun _ h => (List.not_mem_nil h).elim⟩
    · have key : ∀ i, i < len → ∃ r : Rv, (∀ j u, r.cells[j]? = some u → W.cell? ((a.add (i * 25)).add j) = some u) ∧ Txt W r ∧ -9223372036854775808 ≤ r.r.sq := by
        intro i hil
        obtain ⟨cs', hc, ht⟩ := hi i (by omega)
        obtain ⟨_, hcl, hat⟩ := World.cells?_some hc
        obtain ⟨r, va, vb, hcs, h1, h2, h3⟩ := open_cells_rec ht hcl (fun y hy => hlt y (by
          rw [hx]
          exact List.mem_append_right _ (List.mem_flatMap.2 ⟨i, List.mem_range.2 (by omega), hy⟩)))
        refine ⟨⟨r, va, vb⟩, fun j u hj => ?_, ⟨h1, h2⟩, h3⟩
        have hjl : j < 25 := (List.getElem?_eq_some_iff.1 hj).1
        have hcs2 : cs' = Rv.cells ⟨r, va, vb⟩ := hcs
        rw [hat j (by omega), hcs2]
        exact hj
      obtain ⟨b, off, spot⟩ := a
      have hspot : spot = none := by
        obtain ⟨r, h1, _⟩ := key 0 (by omega)
        simpa [Addr.add] using World.cell?_spot (h1 0 _ rfl)
      subst hspot
      obtain ⟨l, hll, hq⟩ := list_of Rv.zero (fun i r => (∀ j u, r.cells[j]? = some u → W.cell? ⟨b, off + i * 25 + j, none⟩ = some u) ∧ Txt W r ∧ -9223372036854775808 ≤ r.r.sq) len (fun i hil => by
        obtain ⟨r, h1, h2⟩ := key i hil
        exact ⟨r, fun j u hj => by have := h1 j u hj; rw [add_lit', add_lit'] at this; exact this, h2⟩)
      have hb : b < W.heap.size := hlt (.cell b off) (by rw [hx]; exact List.mem_append_left _ (MemPlace.mem_row.2 ⟨0, by omega, by simp⟩))
      subst hll
      have hat : ∀ i r, l[i]? = some r → i < l.length ∧ l.getD i Rv.zero = r := fun i r e => by
        have := (List.getElem?_eq_some_iff.1 e).1
        refine ⟨this, ?_⟩
        rw [List.getD, e]; rfl
      have hmem : ∀ r ∈ l, Txt W r ∧ -9223372036854775808 ≤ r.r.sq := fun r hr => by
        obtain ⟨i, hi', e⟩ := List.mem_iff_getElem.1 hr
        obtain ⟨hlt', e3⟩ := hat i r (by rw [List.getElem?_eq_getElem hi', e])
        have := (hq i hlt').2
        rw [e3] at this
        exact this
      refine ⟨l, ⟨⟨flat_len l, some ⟨b, off, none⟩, cap, rfl, hl, fun _ => ⟨b, off, rfl, hb, fun j u hj => ?_⟩⟩, fun r hr => (hmem r hr).1⟩, fun r hr => (hmem r hr).2⟩
      obtain ⟨r, e1, e2⟩ := flat_get Rv.cells (fun _ => rfl) (by omega : 0 < 25) l j u hj
      obtain ⟨hlt', e3⟩ := hat _ r e1
      have := (hq (j / 25) hlt').1 (j % 25) u (by rw [e3]; exact e2)
      rw [show off + j / 25 * 25 + j % 25 = off + j by omega] at this
      exact this
set_option maxRecDepth 100000 in
theorem open_rows {r : Reach} {b0 : Nat} {v : Value} {d : DataW H} {p : List MemPlace} (hv : Value.okWide Tryz.prog W r b0 22 v) (h : DataW.Trod enc Tryz.prog W 0 (fun _ => true) true 22 v d p)
    (hlt : ∀ x ∈ p, x.block < W.heap.size) : ∃ X : List Rv, Rows W v X ∧ Sqs X := by
  obtain ⟨a0, len, cap, rfl⟩ := okWide_slice Tryz.underlying22 hv
  obtain ⟨fuel, hf⟩ := h
  exact open_recs (x := (d, p)) (by simpa [Value.cells] using hf) hlt
set_option maxRecDepth 100000 in
theorem open_key {r : Reach} {b0 : Nat} {v : Value} {d : DataW H} {p : List MemPlace} (hv : Value.okWide Tryz.prog W r b0 32 v) (h : DataW.Trod enc Tryz.prog W 0 (fun _ => true) true 32 v d p) : ∃ a b : Int, v = .agg #[.int .i64 a, .int .i64 b] := by
  obtain ⟨cs, rfl, hsz⟩ := okWide_struct Tryz.underlying32 hv
  obtain ⟨l⟩ := cs
  obtain ⟨fuel, hf⟩ := h
  match l, hsz.trans cells24 with
  | [u0, u1], _ =>
    obtain ⟨m, n, rfl, rfl⟩ := open_two (x := (d, p)) (a := u0) (b := u1) Tryz.underlying32 rfl rfl rfl rfl (by simpa [Value.cells] using hf)
    exact ⟨m, n, rfl⟩
set_option maxRecDepth 100000 in
theorem okWide_array {t e : TypeId} {n : Nat} {r : Reach} {b0 : Nat} {v : Value} (ht : Tryz.prog.underlying t = some (.array n e)) (h : Value.okWide Tryz.prog W r b0 t v) : ∃ cs, v = .agg cs ∧ cs.size = Tryz.prog.cellsOf t := by
  unfold Value.okWide at h
  rw [ht] at h
  obtain ⟨cs, h1, h2, _⟩ := h
  exact ⟨cs, h1, h2⟩
/-- Seven numbers as a function. -/
def f7 (x0 x1 x2 x3 x4 x5 x6 : Int) : Nat → Int
  | 0 => x0
  | 1 => x1
  | 2 => x2
  | 3 => x3
  | 4 => x4
  | 5 => x5
  | _ => x6
set_option maxRecDepth 100000 in
theorem open_deps {r : Reach} {b0 : Nat} {v : Value} {d : DataW H} {p : List MemPlace} (hv : Value.okWide Tryz.prog W r b0 39 v) (h : DataW.Trod enc Tryz.prog W 0 (fun _ => true) true 39 v d p) : ∃ f : Nat → Int, v = .agg #[.int .i64 (f 0), .int .i64 (f 1), .int .i64 (f 2), .int .i64 (f 3), .int .i64 (f 4), .int .i64 (f 5), .int .i64 (f 6)] := by
  obtain ⟨cs, rfl, hsz⟩ := okWide_array Tryz.underlying39 hv
  obtain ⟨fuel, hf⟩ := h
  obtain ⟨l⟩ := cs
  obtain ⟨x0, x1, x2, x3, x4, x5, x6, e⟩ := open_cells_deps (x := (d, p)) (cs := l) hf (hsz.trans c42)
  subst e
  exact ⟨f7 x0 x1 x2 x3 x4 x5 x6, rfl⟩
end
end Go.Proofs.YtpknkhgkejkpkaaGreat
