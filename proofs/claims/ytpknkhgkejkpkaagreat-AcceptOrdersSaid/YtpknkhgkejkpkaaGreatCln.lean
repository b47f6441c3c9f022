/- Rows of one's own, made in a region that draws its order; no conditions but those that they name. -/
import Derived.Test.YtpknkhgkejkpkaaGreatKeC
import Derived.Test.YtpknkhgkejkpkaaGreatWiH
import Derived.Orders
import Derived.RegionTactic
import Derived.Great.BuildSlice
import Derived.KernelRfl

namespace Go.Proofs.YtpknkhgkejkpkaaGreat

theorem filter_le {p q : Nat → Bool} : ∀ (l : List Nat), (∀ j, q j = true → p j = true) → (l.filter q).length ≤ (l.filter p).length
  | [], _ => Nat.le_refl _
  | x :: l, h => by
    have ih := filter_le l h
    cases hq : q x
    · cases hp : p x
      · simpa [hq, hp] using ih
      · simp only [List.filter_cons, hq, hp, if_true, List.length_cons]
        simp
        omega
    · simp only [List.filter_cons, hq, h x hq, if_true, List.length_cons]
      omega
theorem filter_lt {p q : Nat → Bool} (h : ∀ j, q j = true → p j = true) {i : Nat} (hp : p i = true) (hq : q i = false) : ∀ (l : List Nat), i ∈ l → (l.filter q).length < (l.filter p).length
  | x :: l, hm => by
    have le := filter_le l h
    by_cases e : x = i
    · subst e
      simp [hq, hp]
      omega
    · have hm' : i ∈ l := by
        rcases List.mem_cons.1 hm with rfl | hm
        · exact absurd rfl e
        · exact hm
      have ih := filter_lt h hp hq l hm'
      cases hq' : q x
      · cases hp' : p x
        · simpa [hq', hp'] using ih
        · simp [hq', hp']
          omega
      · simp [hq', h x hq']
        omega

/-- How many have not come up yet. -/
def yet (ops : Array Oper) (L : Array Bool) : Nat := ((List.range ops.size).filter fun i => !L.getD i true).length

theorem wpAny_inv {P : Program} {ops : Array Oper} {Q : Exit → Act → World → Prop} {md : Region.Mode} (I : Array Bool → Act → World → Prop)
    (step : ∀ L a w, I L a w → ∀ i, i ∈ Region.ready md ops L → wpOp P ops Q i (I (L.setIfInBounds i true)) a w)
    (fin : ∀ L a w, I L a w → Region.ready md ops L = [] → Q .normal a w) :
    ∀ (fuel : Nat) (L : Array Bool) (a : Act) (w : World), yet ops L ≤ fuel → I L a w → wpAny P md ops Q fuel L a w
  | 0, L, a, w, hy, hI => by
    have h0 : Region.ready md ops L = [] := by
      cases hr : Region.ready md ops L with
      | nil => rfl
      | cons i rs =>
        have hi : i ∈ Region.ready md ops L := by rw [hr]; exact List.mem_cons_self
        obtain ⟨hu, o, ho, _⟩ := mem_ready.1 hi
        have hlt : i < ops.size := (Array.getElem?_eq_some_iff.1 ho).1
        have hm : i ∈ (List.range ops.size).filter fun i => !L.getD i true := List.mem_filter.2 ⟨List.mem_range.2 hlt, by rw [hu]; rfl⟩
        have : 0 < yet ops L := List.length_pos_of_mem hm
        omega
    exact ⟨h0, fin L a w hI h0⟩
  | fuel + 1, L, a, w, hy, hI => by
    refine ⟨fin L a w hI, fun i hi => ?_⟩
    obtain ⟨hu, o, ho, _⟩ := mem_ready.1 hi
    have hlt : i < ops.size := (Array.getElem?_eq_some_iff.1 ho).1
    have hL : i < L.size := by
      rcases Nat.lt_or_ge i L.size with h | h
      · exact h
      · simp [Array.getElem?_eq_none h] at hu
    have hd : yet ops (L.setIfInBounds i true) < yet ops L := by
      refine filter_lt (fun j hj => ?_) (by rw [hu]; rfl) (i := i) ?_ _ (List.mem_range.2 hlt)
      · by_cases e : i = j
        · subst e; rw [hu]; rfl
        · rw [getD_set_ne true e] at hj; exact hj
      · simp [hL]
    exact wpOp_mono (fun a' w' h' => wpAny_inv I step fin fuel _ a' w' (by omega) h') (step L a w hI i hi)

/-- A region that draws its order, by a relation. -/
theorem wp_region_inv {P : Program} {id : Nat} {ops : Array Oper} {Q : Exit → Act → World → Prop} {a : Act} {w : World} (hm : P.follows .mixedOrders = true) (I : Array Bool → Act → World → Prop)
    (start : I (Array.replicate ops.size false) a w.drew)
    (step : ∀ L a w, I L a w → ∀ i, i ∈ Region.ready .any ops L → wpOp P ops Q i (I (L.setIfInBounds i true)) a w)
    (fin : ∀ L a w, I L a w → Region.ready .any ops L = [] → Q .normal a w) : (Code.region id ops true).wp P Q a w :=
  wp_region_any hm (wpAny_inv I step fin _ _ _ _ (by
    unfold yet
    have := List.length_filter_le (fun i => !(Array.replicate ops.size false).getD i true) (List.range ops.size)
    simpa using this) start)
theorem up {L : Array Bool} {i j : Nat} (hne : i ≠ j) (g : (L.setIfInBounds i true).getD j false = true) : L.getD j false = true := by
  rw [getD_set_ne false hne] at g; exact g
theorem on {L : Array Bool} {i j : Nat} (g : L.getD j false = true) : (L.setIfInBounds i true).getD j false = true := getD_set_true g
theorem off {L : Array Bool} {i : Nat} {p : Prop} (hu : L.getD i true = false) (g : L.getD i false = true) : p := by
  rcases Nat.lt_or_ge i L.size with h | h
  · simp [h] at hu g; rw [hu] at g; cases g
  · simp [Array.getElem?_eq_none h] at hu

/-- Each waits for earlier ones alone. -/
def wf (ops : Array Oper) : Bool := (List.range ops.size).all fun j => ((ops[j]?).map fun o => o.after.all fun e => decide (e.on < j)).getD true
theorem all_listed {ops : Array Oper} {md : Region.Mode} {L : Array Bool} (hw : wf ops = true) (hs : L.size = ops.size) (hr : Region.ready md ops L = []) : ∀ j, j < ops.size → L.getD j false = true := by
  intro j
  induction j using Nat.strongRecOn with
  | _ j ih =>
    intro hj
    cases hg : L.getD j false
    · exfalso
      have hu : L.getD j true = false := by simp [hs, hj] at hg ⊢; exact hg
      have hm : j ∈ Region.ready md ops L := by
        refine mem_ready.2 ⟨hu, ops[j], Array.getElem?_eq_getElem hj, fun e he _ => ?_⟩
        have h1 := List.all_eq_true.1 hw j (List.mem_range.2 hj)
        rw [Array.getElem?_eq_getElem hj] at h1
        have h2 : e.on < j := by
          simp at h1
          obtain ⟨i, hi, rfl⟩ := Array.mem_iff_getElem.1 he
          exact h1 i hi
        exact ih e.on h2 (by omega)
      rw [hr] at hm
      cases hm
    · rfl
theorem upF {L : Array Bool} {i j : Nat} (hne : i ≠ j) (g : (L.setIfInBounds i true).getD j false = false) : L.getD j false = false := by
  rw [getD_set_ne false hne] at g; exact g
theorem onF {L : Array Bool} {i : Nat} {p : Prop} (hl : i < L.size) (g : (L.setIfInBounds i true).getD i false = false) : p := by
  simp [hl] at g
theorem un {L : Array Bool} {i : Nat} (hu : L.getD i true = false) : L.getD i false = false := by
  rcases Nat.lt_or_ge i L.size with h | h
  · simp [h] at hu ⊢; exact hu
  · simp [Array.getElem?_eq_none h] at hu
end Go.Proofs.YtpknkhgkejkpkaaGreat

namespace Go.Proofs.YtpknkhgkejkpkaaGreat
open Go.ChangeShapes Go.WideShapes Go.ChangeAt Go.RowKit

namespace M
end M
theorem Box.new' (w : World) (c : M.Cmd) (va vb : Value) {b : Nat} (hb : b = w.heap.size) : Box (w.alloc (.cells #[.int .i64 c.k, .int .i64 c.tc, .int .i64 c.tn, .int .i64 c.tt, .int .i64 c.tk, .int .i64 c.sh, va, vb, .bool c.cm] 30)) b c va vb := by subst hb; exact Box.new w c va vb
theorem soft_new' (w : World) (cs : Array Value) (t : TypeId) {b : Nat} (hb : b = w.heap.size) : Soft9 (w.alloc (.cells cs t)) b := by subst hb; exact soft_new w cs t
theorem cell_new' (w : World) (v : Value) (t : TypeId) {b : Nat} (hb : b = w.heap.size) : (w.alloc (.cells #[v] t)).cell? ⟨b, 0, none⟩ = some v := by subst hb; simp
theorem cell_push {w : World} {b : Nat} {v : Value} (h : w.cell? ⟨b, 0, none⟩ = some v) (o : Obj) : (w.alloc o).cell? ⟨b, 0, none⟩ = some v := (World.cell?_alloc_lt w o _ (World.block_lt_of_cell? w _ h)).trans h
theorem grown_set (w : World) (p : Addr) (u : Value) : w.grownBy (w.setCell p u) (some p.block) :=
  ⟨rfl, rfl, rfl, by simp [World.setCell], fun i _ hi => Below.heap_setCell _ _ _ _ (fun e => hi (by rw [e]))⟩
theorem Box.far {w w' : World} {b : Nat} {c : M.Cmd} {va vb : Value} {row : Option Nat} (h : Box w b c va vb) (g : w.grownBy w' row) (hn : some b ≠ row) : Box w' b c va vb :=
  ⟨Nat.lt_of_lt_of_le h.lt g.size, g.cell h.c0 hn, g.cell h.c1 hn, g.cell h.c2 hn, g.cell h.c3 hn, g.cell h.c4 hn, g.cell h.c5 hn, g.cell h.c6 hn, g.cell h.c7 hn, g.cell h.c8 hn⟩
theorem Soft9.far {w w' : World} {b : Nat} {row : Option Nat} (h : Soft9 w b) (hl : b < w.heap.size) (g : w.grownBy w' row) (hn : some b ≠ row) : Soft9 w' b := fun o => (World.frozen?_of_block (g.block b hl hn)).trans (h o)
theorem Box.set6 {w : World} {b : Nat} {c : M.Cmd} {va vb : Value} (h : Box w b c va vb) (u : Value) : Box (w.setCell ⟨b, 6, none⟩ u) b c u vb :=
  ⟨by have := h.lt; simpa [World.setCell] using this, (World.cell?_setCell_other _ _ _ _ (by simp)).trans h.c0, (World.cell?_setCell_other _ _ _ _ (by simp)).trans h.c1, (World.cell?_setCell_other _ _ _ _ (by simp)).trans h.c2, (World.cell?_setCell_other _ _ _ _ (by simp)).trans h.c3, (World.cell?_setCell_other _ _ _ _ (by simp)).trans h.c4, (World.cell?_setCell_other _ _ _ _ (by simp)).trans h.c5, World.cell?_setCell_same _ _ _ h.c6, (World.cell?_setCell_other _ _ _ _ (by simp)).trans h.c7, (World.cell?_setCell_other _ _ _ _ (by simp)).trans h.c8⟩
theorem Box.set7 {w : World} {b : Nat} {c : M.Cmd} {va vb : Value} (h : Box w b c va vb) (u : Value) : Box (w.setCell ⟨b, 7, none⟩ u) b c va u :=
  ⟨by have := h.lt; simpa [World.setCell] using this, (World.cell?_setCell_other _ _ _ _ (by simp)).trans h.c0, (World.cell?_setCell_other _ _ _ _ (by simp)).trans h.c1, (World.cell?_setCell_other _ _ _ _ (by simp)).trans h.c2, (World.cell?_setCell_other _ _ _ _ (by simp)).trans h.c3, (World.cell?_setCell_other _ _ _ _ (by simp)).trans h.c4, (World.cell?_setCell_other _ _ _ _ (by simp)).trans h.c5, (World.cell?_setCell_other _ _ _ _ (by simp)).trans h.c6, World.cell?_setCell_same _ _ _ h.c7, (World.cell?_setCell_other _ _ _ _ (by simp)).trans h.c8⟩
theorem apart {w : World} {b1 b2 : Nat} {u v : Value} {n m : Nat} {xs ys : List Value} (h : w.ownsRow b1 66 3 u n xs) (h' : w.ownsRow b2 68 2 v m ys) : (u.ownBlock = none ∨ u.ownBlock ≠ v.ownBlock) ∧ (v.ownBlock = none ∨ v.ownBlock ≠ u.ownBlock) := by
  rcases h.2 with ⟨rfl, _⟩ | ⟨g, cap, cur, rfl, _, hg, _⟩
  · rcases h'.2 with ⟨rfl, _⟩ | ⟨g', cap', cur', rfl, _, hg', _⟩
    · exact ⟨.inl rfl, .inl rfl⟩
    · exact ⟨.inl rfl, .inr (by simp [Value.ownBlock])⟩
  · rcases h'.2 with ⟨rfl, _⟩ | ⟨g', cap', cur', rfl, _, hg', _⟩
    · exact ⟨.inr (by simp [Value.ownBlock]), .inl rfl⟩
    · have hne : g ≠ g' := by
        rintro rfl
        rw [hg] at hg'
        simp at hg'
      exact ⟨.inr (fun e => hne (Option.some.inj e)), .inr (fun e => hne (Option.some.inj e).symm)⟩
theorem own_ne {w : World} {base b : Nat} {t : TypeId} {k : Nat} {v : Value} {n : Nat} {xs : List Value} (h : w.ownsRow base t k v n xs) (hb : b < base ∨ w.heap.size ≤ b) : some b ≠ v.ownBlock := fun e => by
  have := h.lt b e.symm
  omega

end Go.Proofs.YtpknkhgkejkpkaaGreat

namespace Go.Proofs.YtpknkhgkejkpkaaGreat
open Go.ChangeShapes Go.WideShapes Go.ChangeAt Go.RowKit

theorem own_emptyN (w : World) {base : Nat} (e : TypeId) (k : Nat) (h : base ≤ w.heap.size) : (w.alloc (.cells #[] e)).ownsRow base e k (.slice (some ⟨w.heap.size, 0, none⟩) 0 0) 0 [] := by
  have := World.ownsRow_lit (base := base) (e := e) (size := k) w #[] 0 h (Nat.zero_le _) (by simp)
  simpa using this
theorem own_emptyN' (w : World) {base b : Nat} (e : TypeId) (k : Nat) (h : base ≤ w.heap.size) (hb : b = w.heap.size) : (w.alloc (.cells #[] e)).ownsRow base e k (.slice (some ⟨b, 0, none⟩) 0 0) 0 [] := by
  subst hb; exact own_emptyN w e k h
theorem push_own {w : World} {base : Nat} {t : TypeId} {k : Nat} {v : Value} {n : Nat} {xs : List Value} (h : w.ownsRow base t k v n xs) (o : Obj) : (w.alloc o).ownsRow base t k v n xs := ownsRow_on h (below_new (Below.refl _ _))

/-- Both rows, new. -/
def Both (w : World) (c : M.Cmd) (v u : Value) (w' : World) : Prop := w'.ownsRow w.heap.size 66 3 v c.rs.length (rdsC c.rs) ∧ w'.ownsRow w.heap.size 68 2 u c.ws.length (wrsC c.ws) ∧ Below w.heap.size w w'

theorem ordA {w : World} (c : M.Cmd) {va vb : Value} (h : Rds w va c.rs) (h' : Wrs w vb c.ws) (hl : c.rs.length ≤ 1000) (hl' : c.ws.length ≤ 1000) : ∃ v1 w1 v2 w2, (Builtin.append_ #[27, 27] 27 #[.slice (some ⟨w.heap.size, 0, none⟩) 0 0, va]).run Tryz.prog (w.alloc (.cells #[] 66)) = .ok v1 w1 ∧ (Builtin.append_ #[28, 28] 28 #[.slice (some ⟨w1.heap.size, 0, none⟩) 0 0, vb]).run Tryz.prog (w1.alloc (.cells #[] 68)) = .ok v2 w2 ∧ Below w.heap.size w w1 ∧ Both w c v1 v2 w2 := by
  have o0 := own_emptyN w 66 3 (Nat.le_refl w.heap.size)
  have b0 : Below w.heap.size w (w.alloc (.cells #[] 66)) := below_new (Below.refl _ _)
  obtain ⟨v1, w1, r1, o1, g1⟩ := append_rds o0 (h.below b0) (by omega) b0.size
  have b1 := b0.grown g1 b0.size (fun k hk => (o0.lt k hk).1)
  rw [Nat.zero_add, List.nil_append] at o1
  have c0 := own_emptyN w1 68 2 b1.size
  have d0 : Below w.heap.size w (w1.alloc (.cells #[] 68)) := below_new b1
  obtain ⟨v2, w2, r2, o2, g2⟩ := append_wrs c0 (h'.below d0) (by omega) d0.size
  have d1 := d0.grown g2 d0.size (fun k hk => (c0.lt k hk).1)
  rw [Nat.zero_add, List.nil_append] at o2
  exact ⟨v1, w1, v2, w2, r1, r2, b1, (push_own o1 _).kept g2 (apart (push_own o1 _) c0).1, o2, d1⟩
theorem ordBoth {w w0 : World} (c : M.Cmd) {va vb ve ue : Value} (h : Rds w va c.rs) (h' : Wrs w vb c.ws) (hl : c.rs.length ≤ 1000) (hl' : c.ws.length ≤ 1000) (b0 : Below w.heap.size w w0) (o0 : w0.ownsRow w.heap.size 66 3 ve 0 []) (c0 : w0.ownsRow w.heap.size 68 2 ue 0 []) : ∃ v1 w1 v2 w2, (Builtin.append_ #[27, 27] 27 #[ve, va]).run Tryz.prog w0 = .ok v1 w1 ∧ (Builtin.append_ #[28, 28] 28 #[ue, vb]).run Tryz.prog w1 = .ok v2 w2 ∧ Below w.heap.size w w1 ∧ Both w c v1 v2 w2 := by
  obtain ⟨v1, w1, r1, o1, g1⟩ := append_rds o0 (h.below b0) (by omega) b0.size
  have b1 := b0.grown g1 b0.size (fun k hk => (o0.lt k hk).1)
  rw [Nat.zero_add, List.nil_append] at o1
  have c1 := c0.kept g1 (apart o0 c0).2
  obtain ⟨v2, w2, r2, o2, g2⟩ := append_wrs c1 (h'.below b1) (by omega) b1.size
  have d1 := b1.grown g2 b1.size (fun k hk => (c1.lt k hk).1)
  rw [Nat.zero_add, List.nil_append] at o2
  exact ⟨v1, w1, v2, w2, r1, r2, b1, o1.kept g2 (apart o1 c1).1, o2, d1⟩
theorem ordB {w : World} (c : M.Cmd) {va vb : Value} (h : Rds w va c.rs) (h' : Wrs w vb c.ws) (hl : c.rs.length ≤ 1000) (hl' : c.ws.length ≤ 1000) : ∃ v1 w1 v2 w2, (Builtin.append_ #[27, 27] 27 #[.slice (some ⟨w.heap.size, 0, none⟩) 0 0, va]).run Tryz.prog ((w.alloc (.cells #[] 66)).alloc (.cells #[] 68)) = .ok v1 w1 ∧ (Builtin.append_ #[28, 28] 28 #[.slice (some ⟨w.heap.size + 1, 0, none⟩) 0 0, vb]).run Tryz.prog w1 = .ok v2 w2 ∧ Below w.heap.size w w1 ∧ Both w c v1 v2 w2 :=
  ordBoth c h h' hl hl' (below_new (below_new (Below.refl _ _))) (push_own (own_emptyN w 66 3 (Nat.le_refl _)) _) (own_emptyN' _ 68 2 (by simp) (by simp))
theorem ordC {w : World} (c : M.Cmd) {va vb : Value} (h : Rds w va c.rs) (h' : Wrs w vb c.ws) (hl : c.rs.length ≤ 1000) (hl' : c.ws.length ≤ 1000) : ∃ v1 w1 v2 w2, (Builtin.append_ #[27, 27] 27 #[.slice (some ⟨w.heap.size + 1, 0, none⟩) 0 0, va]).run Tryz.prog ((w.alloc (.cells #[] 68)).alloc (.cells #[] 66)) = .ok v1 w1 ∧ (Builtin.append_ #[28, 28] 28 #[.slice (some ⟨w.heap.size, 0, none⟩) 0 0, vb]).run Tryz.prog w1 = .ok v2 w2 ∧ Below w.heap.size w w1 ∧ Both w c v1 v2 w2 :=
  ordBoth c h h' hl hl' (below_new (below_new (Below.refl _ _))) (own_emptyN' _ 66 3 (by simp) (by simp)) (push_own (own_emptyN w 68 2 (Nat.le_refl _)) _)

/-- Texts that may be written over: at every st-th cell, from the i-th on. -/
def SoftN (st off : Nat) (w : World) (g i n : Nat) : Prop := ∀ k, i ≤ k → k < n → ∃ s : ByteArray, w.cell? ⟨g, k * st + off, none⟩ = some (.string s) ∧ s.size ≤ 1000 ∧ w.frozen? ⟨g, k * st + off, none⟩ = false
theorem SoftN.step {st off : Nat} {w : World} {g i n : Nat} (h : SoftN st off w g i n) (hs : 0 < st) (v : Value) : SoftN st off (w.setCell ⟨g, i * st + off, none⟩ v) g (i + 1) n := fun k hk hn => by
  obtain ⟨s, h1, h2, h3⟩ := h k (by omega) hn
  refine ⟨s, ?_, h2, ?_⟩
  · rw [World.cell?_setCell_other _ _ _ _ (fun e => by
      injection e with _ e
      have : i * st < k * st := Nat.mul_lt_mul_of_pos_right (by omega) hs
      omega)]; exact h1
  · rw [World.frozen?_setCell]; exact h3
theorem SoftN.other {st off : Nat} {w : World} {g i n : Nat} (h : SoftN st off w g i n) {p : Addr} (hp : ¬ p.block = g) (v : Value) : SoftN st off (w.setCell p v) g i n := fun k hk hn => by
  obtain ⟨s, h1, h2, h3⟩ := h k hk hn
  refine ⟨s, ?_, h2, ?_⟩
  · rw [World.cell?_setCell_other _ _ _ _ (fun e => by subst e; exact hp rfl)]; exact h1
  · rw [World.frozen?_setCell]; exact h3
theorem SoftN.below {st off : Nat} {w w' : World} {g i n : Nat} (h : SoftN st off w g i n) (hg : g < w.heap.size) (hb : Below w.heap.size w w') : SoftN st off w' g i n := fun k hk hn => by
  obtain ⟨s, h1, h2, h3⟩ := h k hk hn
  exact ⟨s, (hb.cell (p := ⟨g, k * st + off, none⟩) hg).trans h1, h2, (hb.frozen (p := ⟨g, k * st + off, none⟩) hg).trans h3⟩

/-- A row of one's own of reads: its keys; of writes: its values. -/
def Loose (st off : Nat) (w : World) (base top : Nat) (A : Option Addr) (i n : Nat) : Prop := 0 < n → ∃ g, A = some ⟨g, 0, none⟩ ∧ base ≤ g ∧ g < top ∧ SoftN st off w g i n
theorem loose_rds {w : World} {base n c : Nat} {A : Option Addr} {l : List (List UInt8 × Int × Int)} (h : w.ownsRow base 66 3 (.slice A n c) n (rdsC l)) (hn : n = l.length) (hs : ∀ r ∈ l, r.1.length ≤ 1000) : Loose 3 0 w base w.heap.size A 0 n := fun h0 => by
  rcases h.2 with ⟨e, _⟩ | ⟨g, cap, cur, e, hb, hg, _⟩
  · cases e; omega
  · cases e
    refine ⟨g, rfl, hb, (Array.getElem?_eq_some_iff.1 hg).1, fun k _ hk => ?_⟩
    refine ⟨⟨(l.getD k rd0).1.toArray⟩, ?_, ?_, h.frozenAt _⟩
    · rw [h.cellAt _ (by omega), rdsC_at l k 0 (by omega) (by omega)]; rfl
    · rw [size_mk]
      rw [List.getD, List.getElem?_eq_getElem (by omega)]
      exact hs _ (List.getElem_mem _)
theorem loose_wrs {w : World} {base n c : Nat} {A : Option Addr} {l : List (List UInt8 × List UInt8)} (h : w.ownsRow base 68 2 (.slice A n c) n (wrsC l)) (hn : n = l.length) (hs : ∀ r ∈ l, r.2.length ≤ 1000) : Loose 2 1 w base w.heap.size A 0 n := fun h0 => by
  rcases h.2 with ⟨e, _⟩ | ⟨g, cap, cur, e, hb, hg, _⟩
  · cases e; omega
  · cases e
    refine ⟨g, rfl, hb, (Array.getElem?_eq_some_iff.1 hg).1, fun k _ hk => ?_⟩
    refine ⟨⟨(l.getD k wr0).2.toArray⟩, ?_, ?_, h.frozenAt _⟩
    · rw [h.cellAt _ (by omega), wrsC_at l k 1 (by omega) (by omega)]; rfl
    · rw [size_mk]
      rw [List.getD, List.getElem?_eq_getElem (by omega)]
      exact hs _ (List.getElem_mem _)
theorem Loose.on {st off : Nat} {w w' : World} {base top : Nat} {A : Option Addr} {i n : Nat} (h : Loose st off w base top A i n) (ht : top ≤ w.heap.size) (hb : Below w.heap.size w w') : Loose st off w' base top A i n := fun h0 => by
  obtain ⟨g, e, h1, h2, h3⟩ := h h0
  exact ⟨g, e, h1, h2, h3.below (by omega) hb⟩
/-- Two such rows of one world lie apart. -/
theorem apart_some {w : World} {b1 b2 n m c d : Nat} {A B : Option Addr} {xs ys : List Value} (h : w.ownsRow b1 66 3 (.slice A n c) n xs) (h' : w.ownsRow b2 68 2 (.slice B m d) m ys) : ∀ g g', A = some ⟨g, 0, none⟩ → B = some ⟨g', 0, none⟩ → ¬ g = g' := by
  rintro g g' rfl rfl e
  rcases h.2 with ⟨e1, _⟩ | ⟨g1, cap, cur, e1, _, hg, _⟩
  · cases e1
  · rcases h'.2 with ⟨e2, _⟩ | ⟨g2, cap', cur', e2, _, hg', _⟩
    · cases e2
    · cases e1; cases e2; subst e
      rw [hg] at hg'
      simp at hg'
theorem Loose.step {st off : Nat} {w : World} {base top g i n : Nat} (h : Loose st off w base top (some ⟨g, 0, none⟩) i n) (hs : 0 < st) (v : Value) : Loose st off (w.setCell ⟨g, i * st + off, none⟩ v) base top (some ⟨g, 0, none⟩) (i + 1) n := fun h0 => by
  obtain ⟨g', e, h1, h2, h3⟩ := h h0
  cases e
  exact ⟨g, rfl, h1, h2, h3.step hs v⟩
theorem Loose.other {st off : Nat} {w : World} {base top i n : Nat} {A : Option Addr} (h : Loose st off w base top A i n) {p : Addr} (hp : ∀ g, A = some ⟨g, 0, none⟩ → ¬ p.block = g) (v : Value) : Loose st off (w.setCell p v) base top A i n := fun h0 => by
  obtain ⟨g', e, h1, h2, h3⟩ := h h0
  exact ⟨g', e, h1, h2, h3.other (hp g' e) v⟩
theorem cell_far {w : World} {b o g p : Nat} {u : Value} (h : w.cell? ⟨b, o, none⟩ = some u) (hn : ¬ g = b) (v : Value) : (w.setCell ⟨g, p, none⟩ v).cell? ⟨b, o, none⟩ = some u :=
  (World.cell?_setCell_other _ _ _ _ (fun e => by injection e with e; exact hn e)).trans h

/-- The copy of a command in a box, with rows of its own. -/
structure Good (w w' : World) (b : Nat) (c : M.Cmd) (va vb v u : Value) : Prop where
  x : Box w' w.heap.size c va vb
  y : Box w' b c v u
  r : Rds w' va c.rs
  s : Wrs w' vb c.ws
  r' : Rds w' v c.rs
  s' : Wrs w' u c.ws
  b : Below w.heap.size w w'
theorem good {w w2 w4 : World} {b : Nat} {c : M.Cmd} {va vb v u : Value} (h : Rds w va c.rs) (h' : Wrs w vb c.ws) (x : Box w2 w.heap.size c va vb) (y : Box w2 b c va vb) (hb : w.heap.size < b) (B : Below w.heap.size w w2) (t : Both w2.drew c v u w4) : Good w ((w4.setCell ⟨b, 6, none⟩ v).setCell ⟨b, 7, none⟩ u) b c va vb v u := by
  obtain ⟨o1, o2, d⟩ := t
  have e : w2.drew.heap.size = w2.heap.size := rfl
  have yl := y.lt
  have d' : Below w2.heap.size w2 w4 := (Below.refl _ _).drew.trans d
  have B4 : Below w.heap.size w ((w4.setCell ⟨b, 6, none⟩ v).setCell ⟨b, 7, none⟩ u) := ((below_on B d').setCell (by show w.heap.size ≤ b; omega) _).setCell (by show w.heap.size ≤ b; omega) _
  have n6 : some w.heap.size ≠ some b := fun e => by injection e; omega
  exact ⟨((x.on d').far (grown_set w4 ⟨b, 6, none⟩ v) n6).far (grown_set _ ⟨b, 7, none⟩ u) n6, ((y.on d').set6 v).set7 u, h.below B4, h'.below B4,
    RowN.of_owns (ownsRow_set (ownsRow_set o1 (by show b < _; omega) _) (by show b < _; omega) _), RowN.of_owns (ownsRow_set (ownsRow_set o2 (by show b < _; omega) _) (by show b < _; omega) _), B4⟩
end Go.Proofs.YtpknkhgkejkpkaaGreat
