/- New rows of reads and of writes, in whatever order they are made; what may be written over; no conditions but the lengths that they name. -/
import Derived.Test.YtacieiddhkkahaaCmdsS
import Derived.Test.YtacieiddhkkahaaCmdsJ
namespace Go.Proofs.Ytacieiddhkkahaa
open Go.ChangeShapes Go.WideShapes Go.ChangeAt Go.RowKit

theorem own_emptyN (w : World) {base : Nat} (e : TypeId) (k : Nat) (h : base ≤ w.heap.size) : (w.alloc (.cells #[] e)).ownsRow base e k (.slice (some ⟨w.heap.size, 0, none⟩) 0 0) 0 [] := by
  have := World.ownsRow_lit (base := base) (e := e) (size := k) w #[] 0 h (Nat.zero_le _) (by simp)
  simpa using this
theorem own_emptyN' (w : World) {base b : Nat} (e : TypeId) (k : Nat) (h : base ≤ w.heap.size) (hb : b = w.heap.size) : (w.alloc (.cells #[] e)).ownsRow base e k (.slice (some ⟨b, 0, none⟩) 0 0) 0 [] := by
  subst hb; exact own_emptyN w e k h
theorem push_own {w : World} {base : Nat} {t : TypeId} {k : Nat} {v : Value} {n : Nat} {xs : List Value} (h : w.ownsRow base t k v n xs) (o : Obj) : (w.alloc o).ownsRow base t k v n xs := ownsRow_on h (below_new (Below.refl _ _))

/-- Both rows, new. -/
def Both (w : World) (c : M.Cmd) (v u : Value) (w' : World) : Prop := w'.ownsRow w.heap.size 40 3 v c.rs.length (rdsC c.rs) ∧ w'.ownsRow w.heap.size 42 2 u c.ws.length (wrsC c.ws) ∧ Below w.heap.size w w'

theorem ordA {w : World} (c : M.Cmd) {va vb : Value} (h : Rds w va c.rs) (h' : Wrs w vb c.ws) (hl : c.rs.length ≤ 1000) (hl' : c.ws.length ≤ 1000) : ∃ v1 w1 v2 w2, (Builtin.append_ #[26, 26] 26 #[.slice (some ⟨w.heap.size, 0, none⟩) 0 0, va]).run Try.prog (w.alloc (.cells #[] 40)) = .ok v1 w1 ∧ (Builtin.append_ #[27, 27] 27 #[.slice (some ⟨w1.heap.size, 0, none⟩) 0 0, vb]).run Try.prog (w1.alloc (.cells #[] 42)) = .ok v2 w2 ∧ Below w.heap.size w w1 ∧ Both w c v1 v2 w2 := by
  have o0 := own_emptyN w 40 3 (Nat.le_refl w.heap.size)
  have b0 : Below w.heap.size w (w.alloc (.cells #[] 40)) := below_new (Below.refl _ _)
  obtain ⟨v1, w1, r1, o1, g1⟩ := append_rds o0 (h.below b0) (by omega) b0.size
  have b1 := b0.grown g1 b0.size (fun k hk => (o0.lt k hk).1)
  rw [Nat.zero_add, List.nil_append] at o1
  have c0 := own_emptyN w1 42 2 b1.size
  have d0 : Below w.heap.size w (w1.alloc (.cells #[] 42)) := below_new b1
  obtain ⟨v2, w2, r2, o2, g2⟩ := append_wrs c0 (h'.below d0) (by omega) d0.size
  have d1 := d0.grown g2 d0.size (fun k hk => (c0.lt k hk).1)
  rw [Nat.zero_add, List.nil_append] at o2
  exact ⟨v1, w1, v2, w2, r1, r2, b1, (push_own o1 _).kept g2 (apart (push_own o1 _) c0).1, o2, d1⟩
theorem ordBoth {w w0 : World} (c : M.Cmd) {va vb ve ue : Value} (h : Rds w va c.rs) (h' : Wrs w vb c.ws) (hl : c.rs.length ≤ 1000) (hl' : c.ws.length ≤ 1000) (b0 : Below w.heap.size w w0) (o0 : w0.ownsRow w.heap.size 40 3 ve 0 []) (c0 : w0.ownsRow w.heap.size 42 2 ue 0 []) : ∃ v1 w1 v2 w2, (Builtin.append_ #[26, 26] 26 #[ve, va]).run Try.prog w0 = .ok v1 w1 ∧ (Builtin.append_ #[27, 27] 27 #[ue, vb]).run Try.prog w1 = .ok v2 w2 ∧ Below w.heap.size w w1 ∧ Both w c v1 v2 w2 := by
  obtain ⟨v1, w1, r1, o1, g1⟩ := append_rds o0 (h.below b0) (by omega) b0.size
  have b1 := b0.grown g1 b0.size (fun k hk => (o0.lt k hk).1)
  rw [Nat.zero_add, List.nil_append] at o1
  have c1 := c0.kept g1 (apart o0 c0).2
  obtain ⟨v2, w2, r2, o2, g2⟩ := append_wrs c1 (h'.below b1) (by omega) b1.size
  have d1 := b1.grown g2 b1.size (fun k hk => (c1.lt k hk).1)
  rw [Nat.zero_add, List.nil_append] at o2
  exact ⟨v1, w1, v2, w2, r1, r2, b1, o1.kept g2 (apart o1 c1).1, o2, d1⟩
theorem ordB {w : World} (c : M.Cmd) {va vb : Value} (h : Rds w va c.rs) (h' : Wrs w vb c.ws) (hl : c.rs.length ≤ 1000) (hl' : c.ws.length ≤ 1000) : ∃ v1 w1 v2 w2, (Builtin.append_ #[26, 26] 26 #[.slice (some ⟨w.heap.size, 0, none⟩) 0 0, va]).run Try.prog ((w.alloc (.cells #[] 40)).alloc (.cells #[] 42)) = .ok v1 w1 ∧ (Builtin.append_ #[27, 27] 27 #[.slice (some ⟨w.heap.size + 1, 0, none⟩) 0 0, vb]).run Try.prog w1 = .ok v2 w2 ∧ Below w.heap.size w w1 ∧ Both w c v1 v2 w2 :=
  ordBoth c h h' hl hl' (below_new (below_new (Below.refl _ _))) (push_own (own_emptyN w 40 3 (Nat.le_refl _)) _) (own_emptyN' _ 42 2 (by simp) (by simp))
theorem ordC {w : World} (c : M.Cmd) {va vb : Value} (h : Rds w va c.rs) (h' : Wrs w vb c.ws) (hl : c.rs.length ≤ 1000) (hl' : c.ws.length ≤ 1000) : ∃ v1 w1 v2 w2, (Builtin.append_ #[26, 26] 26 #[.slice (some ⟨w.heap.size + 1, 0, none⟩) 0 0, va]).run Try.prog ((w.alloc (.cells #[] 42)).alloc (.cells #[] 40)) = .ok v1 w1 ∧ (Builtin.append_ #[27, 27] 27 #[.slice (some ⟨w.heap.size, 0, none⟩) 0 0, vb]).run Try.prog w1 = .ok v2 w2 ∧ Below w.heap.size w w1 ∧ Both w c v1 v2 w2 :=
  ordBoth c h h' hl hl' (below_new (below_new (Below.refl _ _))) (own_emptyN' _ 40 3 (by simp) (by simp)) (push_own (own_emptyN w 42 2 (Nat.le_refl _)) _)

/-- Texts that may be written over: at every st-th cell, from the i-th on. -/
def SoftN (st off : Nat) (w : World) (g i n : Nat) : Prop := ∀ k, i ≤ k → k < n → ∃ s : ByteArray, w.cell? ⟨g, k * st + off, none⟩ = some (.string s) ∧ s.size ≤ 1000 ∧ w.frozen? ⟨g, k * st + off, none⟩ = false
theorem SoftN.step {st off : Nat} {w : World} {g i n : Nat} (h : SoftN st off w g i n) (hs : 0 < st) (v : Value) : SoftN st off (w.setCell ⟨g, i * st + off, none⟩ v) g (i + 1) n := fun k hk hn => by
  obtain ⟨s, h1, h2, h3⟩ := h k (by omega) hn
  refine ⟨s, ?_, h2, ?_⟩
  · rw [World.cell?_setCell_other _ _ _ _ (fun e => by
      injection e with _ e
      have : i * st < k * st := Nat.mul_lt_mul_of_pos_right (by omega) hs
      omega)]; exact h1
  · rw [World.frozen?_setCell]; exact h3
theorem SoftN.other {st off : Nat} {w : World} {g i n : Nat} (h : SoftN st off w g i n) {p : Addr} (hp : ¬ p.block = g) (v : Value) : SoftN st off (w.setCell p v) g i n := fun k hk hn => by
  obtain ⟨s, h1, h2, h3⟩ := h k hk hn
  refine ⟨s, ?_, h2, ?_⟩
  · rw [World.cell?_setCell_other _ _ _ _ (fun e => by subst e; exact hp rfl)]; exact h1
  · rw [World.frozen?_setCell]; exact h3
theorem SoftN.below {st off : Nat} {w w' : World} {g i n : Nat} (h : SoftN st off w g i n) (hg : g < w.heap.size) (hb : Below w.heap.size w w') : SoftN st off w' g i n := fun k hk hn => by
  obtain ⟨s, h1, h2, h3⟩ := h k hk hn
  exact ⟨s, (hb.cell (p := ⟨g, k * st + off, none⟩) hg).trans h1, h2, (hb.frozen (p := ⟨g, k * st + off, none⟩) hg).trans h3⟩

/-- A row of one's own of reads: its keys; of writes: its values. -/
def Loose (st off : Nat) (w : World) (base top : Nat) (A : Option Addr) (i n : Nat) : Prop := 0 < n → ∃ g, A = some ⟨g, 0, none⟩ ∧ base ≤ g ∧ g < top ∧ SoftN st off w g i n
theorem loose_rds {w : World} {base n c : Nat} {A : Option Addr} {l : List (List UInt8 × Int × Int)} (h : w.ownsRow base 40 3 (.slice A n c) n (rdsC l)) (hn : n = l.length) (hs : ∀ r ∈ l, r.1.length ≤ 1000) : Loose 3 0 w base w.heap.size A 0 n := fun h0 => by
  rcases h.2 with ⟨e, _⟩ | ⟨g, cap, cur, e, hb, hg, _⟩
  · cases e; omega
  · cases e
    refine ⟨g, rfl, hb, (Array.getElem?_eq_some_iff.1 hg).1, fun k _ hk => ?_⟩
    refine ⟨⟨(l.getD k rd0).1.toArray⟩, ?_, ?_, h.frozenAt _⟩
    · rw [h.cellAt _ (by omega), rdsC_at l k 0 (by omega) (by omega)]; rfl
    · rw [size_mk]
      rw [List.getD, List.getElem?_eq_getElem (by omega)]
      exact hs _ (List.getElem_mem _)
theorem loose_wrs {w : World} {base n c : Nat} {A : Option Addr} {l : List (List UInt8 × List UInt8)} (h : w.ownsRow base 42 2 (.slice A n c) n (wrsC l)) (hn : n = l.length) (hs : ∀ r ∈ l, r.2.length ≤ 1000) : Loose 2 1 w base w.heap.size A 0 n := fun h0 => by
  rcases h.2 with ⟨e, _⟩ | ⟨g, cap, cur, e, hb, hg, _⟩
  · cases e; omega
  · cases e
    refine ⟨g, rfl, hb, (Array.getElem?_eq_some_iff.1 hg).1, fun k _ hk => ?_⟩
    refine ⟨⟨(l.getD k wr0).2.toArray⟩, ?_, ?_, h.frozenAt _⟩
    · rw [h.cellAt _ (by omega), wrsC_at l k 1 (by omega) (by omega)]; rfl
    · rw [size_mk]
      rw [List.getD, List.getElem?_eq_getElem (by omega)]
      exact hs _ (List.getElem_mem _)
theorem Loose.on {st off : Nat} {w w' : World} {base top : Nat} {A : Option Addr} {i n : Nat} (h : Loose st off w base top A i n) (ht : top ≤ w.heap.size) (hb : Below w.heap.size w w') : Loose st off w' base top A i n := fun h0 => by
  obtain ⟨g, e, h1, h2, h3⟩ := h h0
  exact ⟨g, e, h1, h2, h3.below (by omega) hb⟩
/-- Two such rows of one world lie apart. -/
theorem apart_some {w : World} {b1 b2 n m c d : Nat} {A B : Option Addr} {xs ys : List Value} (h : w.ownsRow b1 40 3 (.slice A n c) n xs) (h' : w.ownsRow b2 42 2 (.slice B m d) m ys) : ∀ g g', A = some ⟨g, 0, none⟩ → B = some ⟨g', 0, none⟩ → ¬ g = g' := by
  rintro g g' rfl rfl e
  rcases h.2 with ⟨e1, _⟩ | ⟨g1, cap, cur, e1, _, hg, _⟩
  · cases e1
  · rcases h'.2 with ⟨e2, _⟩ | ⟨g2, cap', cur', e2, _, hg', _⟩
    · cases e2
    · cases e1; cases e2; subst e
      rw [hg] at hg'
      simp at hg'
theorem Loose.step {st off : Nat} {w : World} {base top g i n : Nat} (h : Loose st off w base top (some ⟨g, 0, none⟩) i n) (hs : 0 < st) (v : Value) : Loose st off (w.setCell ⟨g, i * st + off, none⟩ v) base top (some ⟨g, 0, none⟩) (i + 1) n := fun h0 => by
  obtain ⟨g', e, h1, h2, h3⟩ := h h0
  cases e
  exact ⟨g, rfl, h1, h2, h3.step hs v⟩
theorem Loose.other {st off : Nat} {w : World} {base top i n : Nat} {A : Option Addr} (h : Loose st off w base top A i n) {p : Addr} (hp : ∀ g, A = some ⟨g, 0, none⟩ → ¬ p.block = g) (v : Value) : Loose st off (w.setCell p v) base top A i n := fun h0 => by
  obtain ⟨g', e, h1, h2, h3⟩ := h h0
  exact ⟨g', e, h1, h2, h3.other (hp g' e) v⟩
theorem cell_far {w : World} {b o g p : Nat} {u : Value} (h : w.cell? ⟨b, o, none⟩ = some u) (hn : ¬ g = b) (v : Value) : (w.setCell ⟨g, p, none⟩ v).cell? ⟨b, o, none⟩ = some u :=
  (World.cell?_setCell_other _ _ _ _ (fun e => by injection e with e; exact hn e)).trans h

/-- What a Decide hands back, of its own memory. -/
theorem dec_own (c : M.Cmd) (cm : Bool) (F : M.Mod c) : ∃ (D : M.Cmd) (E : Int), M.Mod D ∧ ∀ (w : World) (va vb : Value), Rds w va c.rs → Wrs w vb c.ws → Calls Try.prog 12 #[.agg #[.int .i64 c.k, .int .i64 c.tc, .int .i64 c.tn, .int .i64 c.tt, .int .i64 c.tk, .int .i64 c.sh, va, vb, .bool c.cm], .bool cm] w fun e w' => ∃ va vb, e = .returned (.tuple #[.agg #[.int .i64 D.k, .int .i64 D.tc, .int .i64 D.tn, .int .i64 D.tt, .int .i64 D.tk, .int .i64 D.sh, va, vb, .bool D.cm], .int .i64 E]) ∧ w'.ownsRow w.heap.size 40 3 va D.rs.length (rdsC D.rs) ∧ w'.ownsRow w.heap.size 42 2 vb D.ws.length (wrsC D.ws) ∧ Below w.heap.size w w' := by
  rcases two (M.decB c) with d | d
  · exact ⟨⟨2, c.tc, c.tn, c.tt, c.tk, c.sh, c.rs, c.ws, cm⟩, 0, ⟨F.r, F.w, F.rk, F.wk, F.wv⟩, fun w va vb h h' => (decided_yes c cm h h' F.l F.l' d).mono fun e w1 ⟨u, v, he, r, s, hb⟩ => ⟨u, v, he, r, s, hb⟩⟩
  · exact ⟨M.zero, 1, ⟨by decide, by decide, fun r hr => (by cases hr), fun r hr => (by cases hr), fun r hr => (by cases hr)⟩, fun w va vb h h' => (decided_no c cm h h' F.l F.l' d).mono fun e w1 ⟨he, hb⟩ => ⟨_, _, he, World.ownsRow_nil _ _ _ _, World.ownsRow_nil _ _ _ _, hb⟩⟩

/-- The copy of a command in a box, with rows of its own. -/
structure Good (w w' : World) (b : Nat) (c : M.Cmd) (va vb v u : Value) : Prop where
  x : Box w' w.heap.size c va vb
  y : Box w' b c v u
  r : Rds w' va c.rs
  s : Wrs w' vb c.ws
  r' : Rds w' v c.rs
  s' : Wrs w' u c.ws
  b : Below w.heap.size w w'
theorem good {w w2 w4 : World} {b : Nat} {c : M.Cmd} {va vb v u : Value} (h : Rds w va c.rs) (h' : Wrs w vb c.ws) (x : Box w2 w.heap.size c va vb) (y : Box w2 b c va vb) (hb : w.heap.size < b) (B : Below w.heap.size w w2) (t : Both w2.drew c v u w4) : Good w ((w4.setCell ⟨b, 6, none⟩ v).setCell ⟨b, 7, none⟩ u) b c va vb v u := by
  obtain ⟨o1, o2, d⟩ := t
  have e : w2.drew.heap.size = w2.heap.size := rfl
  have yl := y.lt
  have d' : Below w2.heap.size w2 w4 := (Below.refl _ _).drew.trans d
  have B4 : Below w.heap.size w ((w4.setCell ⟨b, 6, none⟩ v).setCell ⟨b, 7, none⟩ u) := ((below_on B d').setCell (by show w.heap.size ≤ b; omega) _).setCell (by show w.heap.size ≤ b; omega) _
  have n6 : some w.heap.size ≠ some b := fun e => by injection e; omega
  exact ⟨((x.on d').far (grown_set w4 ⟨b, 6, none⟩ v) n6).far (grown_set _ ⟨b, 7, none⟩ u) n6, ((y.on d').set6 v).set7 u, h.below B4, h'.below B4,
    RowN.of_owns (ownsRow_set (ownsRow_set o1 (by show b < _; omega) _) (by show b < _; omega) _), RowN.of_owns (ownsRow_set (ownsRow_set o2 (by show b < _; omega) _) (by show b < _; omega) _), B4⟩
end Go.Proofs.Ytacieiddhkkahaa
