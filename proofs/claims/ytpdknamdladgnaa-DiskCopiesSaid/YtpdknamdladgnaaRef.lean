/- The document's disk; contracts of its New and All; no conditions but the lengths that they name. -/
import Derived.Test.YtpdknamdladgnaaByt
import Derived.Deep.RegionLaw
import Derived.Deep.RegionWith
import Derived.IntWalk
namespace Go.Proofs.Ytpdknamdladgnaa
open Go.RowKit

theorem ret_slice {A : Option Addr} {n m c : Nat} (h : n = m) : Ending.returned (.slice A n c) = .returned (.slice A m c) := by rw [h]
/-- A disk of the document's: its value reads as these bytes, in blocks of R. -/
def Doc (w : World) (R : Nat → Prop) (r : Value) (s : M.St) : Prop := ∃ v u, r = .agg #[v, u, .int .i64 s.z] ∧ Bts w v (s.bs.take s.k) ∧ Bts w u (s.bs.drop s.k) ∧ In R v ∧ In R u ∧ (∀ x, R x → x < w.heap.size) ∧ M.Ok s
theorem Doc.keeps {w w' : World} {R F : Nat → Prop} {r : Value} {s : M.St} (h : Doc w R r s) (hb : Keeps F w w') (hf : ∀ x, R x → ¬ F x) : Doc w' R r s := by
  obtain ⟨v, u, e, h1, h2, h3, h4, h5, h6⟩ := h
  exact ⟨v, u, e, h1.keeps h3 hb hf, h2.keeps h4 hb hf, h3, h4, fun x e => Nat.lt_of_lt_of_le (h5 x e) hb.size, h6⟩
theorem Doc.below {w w' : World} {R : Nat → Prop} {r : Value} {s : M.St} (h : Doc w R r s) (hb : Below w.heap.size w w') : Doc w' R r s := h.keeps (Keeps.of_below (F := fun _ => False) hb) fun _ _ e => e
theorem Doc.lt {w : World} {R : Nat → Prop} {r : Value} {s : M.St} (h : Doc w R r s) : ∀ x, R x → x < w.heap.size := by
  obtain ⟨v, u, e, h1, h2, h3, h4, h5, h6⟩ := h
  exact h5
theorem Doc.ok {w : World} {R : Nat → Prop} {r : Value} {s : M.St} (h : Doc w R r s) : M.Ok s := by
  obtain ⟨v, u, e, h1, h2, h3, h4, h5, h6⟩ := h
  exact h6
theorem Doc.nil (w : World) (n : Nat) (h : n ≤ 1048576) : Doc w (fun _ => False) (.agg #[.slice none 0 0, .slice none 0 0, .int .i64 n]) (M.nil n) :=
  ⟨_, _, rfl, Bts.nil _ _ _, Bts.nil _ _ _, In.nil _ _ _, In.nil _ _ _, fun _ e => e.elim, M.ok_nil h⟩

theorem Doc.opened {w : World} {R : Nat → Prop} {r : Value} {s : M.St} (h : Doc w R r s) : ∃ z a b A1 c1 A2 c2, s = ⟨z, a ++ b, a.length⟩ ∧ r = .agg #[.slice A1 a.length c1, .slice A2 b.length c2, .int .i64 z] ∧ Bts w (.slice A1 a.length c1) a ∧ Bts w (.slice A2 b.length c2) b ∧
    In R (.slice A1 a.length c1) ∧ In R (.slice A2 b.length c2) ∧ (∀ x, R x → x < w.heap.size) ∧ a.length ≤ c1 ∧ b.length ≤ c2 ∧ a.length + b.length ≤ z ∧ z ≤ 1048576 := by
  obtain ⟨v, u, e, h1, h2, h3, h4, h5, h6⟩ := h
  obtain ⟨A1, c1, rfl, hc1, -⟩ := h1.opened
  obtain ⟨A2, c2, rfl, hc2, -⟩ := h2.opened
  have h0 := h6.2.2
  have hl := h6.1
  refine ⟨s.z, s.bs.take s.k, s.bs.drop s.k, A1, c1, A2, c2, ?_, e, h1, h2, h3, h4, h5, hc1, hc2, ?_, h6.2.1⟩
  · rw [List.take_append_drop, List.length_take, Nat.min_eq_left h0]
  · simp; omega
theorem Doc.mk {w : World} {R : Nat → Prop} {z : Nat} {a b : List UInt8} {v u : Value} (h1 : Bts w v a) (h2 : Bts w u b) (h3 : In R v) (h4 : In R u) (h5 : ∀ x, R x → x < w.heap.size) (h6 : a.length + b.length ≤ z) (h7 : z ≤ 1048576) : Doc w R (.agg #[v, u, .int .i64 z]) ⟨z, a ++ b, a.length⟩ :=
  ⟨v, u, rfl, by rw [List.take_left]; exact h1, by rw [List.drop_left]; exact h2, h3, h4, h5, by simpa using h6, h7, by simp⟩

/-- May there be a disk of this size? -/
def M.sizeB (n : Int) : Bool := decide (0 ≤ n ∧ n ≤ 1048576)
set_option maxHeartbeats 400000 in
theorem rnew_any (n : Int) (w : World) : Calls Try.prog 13 #[.int .i64 n] w fun e w' => e = .returned (.tuple #[.agg #[.slice none 0 0, .slice none 0 0, .int .i64 n], .bool (M.sizeB n)]) ∧ Below w.heap.size w w' := by
  by_cases h0 : 0 ≤ n
  · by_cases h1 : n ≤ 1048576
    · have HS := Lib.hid (show M.sizeB n = true by simp [M.sizeB]; omega)
      rw [HS.out]
      go_enter Try.func13, Try.ntmps13
      go_wp2
      exact bodyPost_ret (v := .tuple #[.agg #[.slice none 0 0, .slice none 0 0, .int .i64 n], .bool true]) (by simp [results, Try.results13, go_sem]) rfl ⟨rfl, below_new (Below.refl _ _)⟩
    · have HS := Lib.hid (show M.sizeB n = false by simp [M.sizeB]; omega)
      rw [HS.out]
      have h2 : 1048576 < n := by omega
      go_enter Try.func13, Try.ntmps13
      go_wp2
      exact bodyPost_ret (v := .tuple #[.agg #[.slice none 0 0, .slice none 0 0, .int .i64 n], .bool false]) (by simp [results, Try.results13, go_sem]) rfl ⟨rfl, below_new (Below.refl _ _)⟩
  · have HS := Lib.hid (show M.sizeB n = false by simp [M.sizeB]; omega)
    rw [HS.out]
    have h2 : n < 0 := by omega
    go_enter Try.func13, Try.ntmps13
    go_wp2
    exact bodyPost_ret (v := .tuple #[.agg #[.slice none 0 0, .slice none 0 0, .int .i64 n], .bool false]) (by simp [results, Try.results13, go_sem]) rfl ⟨rfl, below_new (Below.refl _ _)⟩

/-- append, whose run is known, as one step of a region that draws. -/
theorem step_append_run {P : Program} {ops : Array Oper} {o : Oper} {a : Act} {w : World} {K : Act → World → Prop} {Q : Exit → Act → World → Prop} {E : Prop}
    (hg : o.guard = none) (s x : Operand) (t tn : TypeId) (hop : o.op = Op.call { callee := Callee.builtin Builtin.append, args := #[s, x], argTypes := #[t, tn] })
    (vs vx : Value) (hs : a.eval s = vs) (hx : a.eval x = vx) (v' : Value) (w' : World) (hr : (Builtin.append_ #[t, tn] o.type #[vs, vx]).run P w = .ok v' w')
    (hK : K (a.put o.dst v') w') : if Region.wanted o (yielded ops a.tmps) = true then Oper.wp P o a w K Q else E := by
  have hw : Region.wanted o (yielded ops a.tmps) = true := by simp [Region.wanted, hg]
  rw [if_pos hw]
  unfold Oper.wp
  simp [execOp, hop, resolve, invoke, builtin, hs, hx, hr, Result.andThen]
  exact hK

/-- New bytes. -/
def Made (w : World) (xs : List UInt8) (e : Ending) (w' : World) : Prop := ∃ v, e = .returned v ∧ OwnB (fun x => w.heap.size ≤ x ∧ x < w'.heap.size) w' v xs ∧ Below w.heap.size w w'

/-- The block of a document's disk. -/
def Box (w : World) (b : Nat) (v u : Value) (z : Int) : Prop := w.heap[b]? = some (.cells #[v, u, .int .i64 z] 29 (0, 0))
theorem Box.lt {w : World} {b : Nat} {v u : Value} {z : Int} (h : Box w b v u z) : b < w.heap.size := (Array.getElem?_eq_some_iff.1 h).1
theorem Box.new (w : World) (v u : Value) (z : Int) : Box (w.alloc (.cells #[v, u, .int .i64 z] 29)) w.heap.size v u z := heap_alloc_new w _
theorem Box.below {w w' : World} {b : Nat} {v u : Value} {z : Int} (h : Box w b v u z) (hb : Below w.heap.size w w') : Box w' b v u z := (hb.block b h.lt).trans h
theorem Box.keeps {w w' : World} {b : Nat} {v u : Value} {z : Int} {F : Nat → Prop} (h : Box w b v u z) (hb : Keeps F w w') (hf : ¬ F b) : Box w' b v u z := (hb.block b h.lt hf).trans h
theorem Box.at_ {w : World} {b : Nat} {v u : Value} {z : Int} (h : Box w b v u z) : w.cell? ⟨b, 0, none⟩ = some v ∧ w.cell? ⟨b, 1, none⟩ = some u ∧ w.cell? ⟨b, 2, none⟩ = some (.int .i64 z) := by
  unfold Box at h
  simp [World.cell?, h]
theorem Box.unfrozen {w : World} {b : Nat} {v u : Value} {z : Int} (h : Box w b v u z) (i : Nat) : w.frozen? ⟨b, i, none⟩ = false := frozen_of_row w b i _ 29 h

/-- A row without bytes. -/
def Bare (w : World) (g : Nat) : Prop := w.heap[g]? = some (.cells #[] 5 (0, 0))
theorem Bare.new (w : World) : Bare (w.alloc (.cells #[] 5)) w.heap.size := heap_alloc_new w _
theorem Bare.own {w : World} {g : Nat} (h : Bare w g) : OwnB (fun x => x = g) w (.slice (some ⟨g, 0, none⟩) 0 0) [] :=
  .inr ⟨g, 0, #[], rfl, rfl, h, Nat.le_refl _, Nat.le_refl _, rfl⟩
/-- An append onto a row without bytes. -/
theorem join_one {W : World} {g : Nat} {v : Value} {a : List UInt8} (hg : Bare W g) (h1 : Bts W v a) (hl : a.length ≤ 10000000) :
    ∃ v1 w1, (Builtin.append_ #[27, 27] 27 #[.slice (some ⟨g, 0, none⟩) 0 0, v]).run Try.prog W = .ok v1 w1 ∧ Keeps (fun x => x = g) W w1 ∧ (∃ A c, v1 = .slice A a.length c ∧ a.length ≤ c) ∧ OwnB (fun x => x = g ∨ (W.heap.size ≤ x ∧ x < w1.heap.size)) w1 v1 a := by
  obtain ⟨v1, w1, hr1, ho1, hg1⟩ := append_b hg.own h1 (by simpa using hl)
  have b1 : Keeps (fun x => x = g) W w1 := Keeps.of_grown hg1 fun x e => by simp [Value.ownBlock] at e; omega
  exact ⟨v1, w1, hr1, b1, by simpa using ho1.slice, by simpa using ho1⟩
/-- Two appends onto a row without bytes. -/
theorem join_two {W : World} {g : Nat} {v u : Value} {a b : List UInt8} (hg : Bare W g) (h1 : Bts W v a) (h2 : ∀ W', Keeps (fun x => x = g) W W' → Bts W' u b) (hl : a.length + b.length ≤ 10000000) :
    ∃ v1 w1 v2 w2, (Builtin.append_ #[27, 27] 27 #[.slice (some ⟨g, 0, none⟩) 0 0, v]).run Try.prog W = .ok v1 w1 ∧ Keeps (fun x => x = g) W w1 ∧
      (Builtin.append_ #[27, 27] 27 #[v1, u]).run Try.prog w1 = .ok v2 w2 ∧ Keeps (fun x => x = g) W w2 ∧ (∃ A c, v1 = .slice A a.length c ∧ a.length ≤ c) ∧ OwnB (fun x => x = g ∨ (W.heap.size ≤ x ∧ x < w2.heap.size)) w2 v2 (a ++ b) := by
  obtain ⟨v1, w1, hr1, b1, hs1, ho1⟩ := join_one hg h1 (by omega)
  obtain ⟨v2, w2, hr2, ho2, hg2⟩ := append_b ho1 (h2 w1 b1) hl
  have b2 : Keeps (fun x => x = g) W w2 := b1.trans (Keeps.of_grown (F := fun x => v1.ownBlock = some x) hg2 fun x e => e) fun x hx e => by
    have := ho1.in_ x e
    omega
  have hs := b1.size
  have hs2 := hg2.size
  exact ⟨v1, w1, v2, w2, hr1, b1, hr2, b2, hs1, ho2.wide fun x e => by omega⟩

set_option maxHeartbeats 1000000 in
theorem all_any {w : World} {R : Nat → Prop} {r : Value} {s : M.St} (h : Doc w R r s) : Calls Try.prog 31 #[r] w (Made w s.bs) := by
  obtain ⟨z, a, b, A1, c1, A2, c2, rfl, rfl, h1, h2, i1, i2, hR, hc1, hc2, hl, hz⟩ := h.opened
  have nb : Below w.heap.size w (((w.alloc (.cells #[.slice A1 a.length c1, .slice A2 b.length c2, .int .i64 z] 29)).alloc (.cells #[] 5)).drew) := (below_new (below_new (Below.refl _ _))).drew
  have hB : Bare (((w.alloc (.cells #[.slice A1 a.length c1, .slice A2 b.length c2, .int .i64 z] 29)).alloc (.cells #[] 5)).drew) (w.heap.size + 1) := by
    have := Bare.new (w.alloc (.cells #[.slice A1 a.length c1, .slice A2 b.length c2, .int .i64 z] 29))
    rwa [show (w.alloc (.cells #[.slice A1 a.length c1, .slice A2 b.length c2, .int .i64 z] 29)).heap.size = w.heap.size + 1 by simp] at this
  obtain ⟨v1, w1, v2, w2, hr1, b1, hr2, b2, ⟨A3, c3, rfl, hc3⟩, ho⟩ := join_two hB (h1.below nb) (fun W' k => h2.below (nb.trans (k.below (B := w.heap.size) (fun x e => by omega) (by simp; omega)))) (by omega)
  have hX : Box (((w.alloc (.cells #[.slice A1 a.length c1, .slice A2 b.length c2, .int .i64 z] 29)).alloc (.cells #[] 5)).drew) w.heap.size (.slice A1 a.length c1) (.slice A2 b.length c2) z := (Box.new w (.slice A1 a.length c1) (.slice A2 b.length c2) z).below (below_new (Below.refl _ _)).drew
  obtain ⟨p0, p1, p2⟩ := hX.at_
  obtain ⟨q0, q1, q2⟩ := (hX.keeps b1 (by omega)).at_
  obtain ⟨A4, c4, rfl, hc4⟩ := ho.slice
  have hs2 := b2.size
  have HO := Lib.hid (show OwnB (fun x => w.heap.size ≤ x ∧ x < w2.heap.size) w2 (.slice A4 (a ++ b).length c4) (a ++ b) from ho.wide fun x e => by
    simp at hs2 e
    omega)
  have HB := Lib.hid (nb.trans (b2.below (B := w.heap.size) (fun x e => by omega) (by simp; omega)))
  clear h h1 h2 nb b1 b2 ho hR i1 i2 hB hX hs2
  go_enter Try.func31, Try.ntmps31
  go_wp2
  go_region_law (first
    | refine step_append_run rfl (.tmp 3) (.tmp 5) 27 27 rfl _ _ (by simp [Act.eval]) (by simp [Act.eval]) _ _ hr1 ?_
    | refine step_append_run rfl (.tmp 6) (.tmp 8) 27 27 rfl _ _ (by simp [Act.eval]) (by simp [Act.eval]) _ _ hr2 ?_)
  all_goals
    go_wp2
    go_ret
    exact ⟨_, ret_slice List.length_append.symm, HO.out, HB.out⟩
/-- What a step of the document's tells. -/
def Told (x : Value → Ending) (w : World) (R : Nat → Prop) (s : M.St) (e : Ending) (w' : World) : Prop := ∃ q R', e = x q ∧ Doc w' R' q s ∧ Below w.heap.size w w' ∧ (∀ y, R' y → R y ∨ w.heap.size ≤ y)
end Go.Proofs.Ytpdknamdladgnaa
