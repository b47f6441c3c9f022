/- The region 'a, b := deps.With(d, i), deps.Without(d, i)': whatever its order, two new boxes with what the two calls hand back; no conditions but that a slot is an int. -/
import Derived.Test.YtcombmifjimkoaaLawsB
import Derived.Test.YtcombmifjimkoaaInv
import Derived.Deep.MidRow
import Derived.Lib.LazyBuf
import Derived.Great.BuildSlice
import Derived.KernelRfl
namespace Go.Proofs.Ytcombmifjimkoaa
open Go.RowKit

theorem up {L : Array Bool} {i j : Nat} (hne : i ≠ j) (g : (L.setIfInBounds i true).getD j false = true) : L.getD j false = true := by
  rw [getD_set_ne false hne] at g; exact g
theorem on {L : Array Bool} {i j : Nat} (g : L.getD j false = true) : (L.setIfInBounds i true).getD j false = true := getD_set_true g
theorem off {L : Array Bool} {i : Nat} {p : Prop} (hu : L.getD i true = false) (g : L.getD i false = true) : p := by
  rcases Nat.lt_or_ge i L.size with h | h
  · simp [h] at hu g; rw [hu] at g; cases g
  · simp [Array.getElem?_eq_none h] at hu

/-- Each waits for earlier ones alone. -/
def wf (ops : Array Oper) : Bool := (List.range ops.size).all fun j => ((ops[j]?).map fun o => o.after.all fun e => decide (e.on < j)).getD true
theorem all_listed {ops : Array Oper} {md : Region.Mode} {L : Array Bool} (hw : wf ops = true) (hs : L.size = ops.size) (hr : Region.ready md ops L = []) : ∀ j, j < ops.size → L.getD j false = true := by
  intro j
  induction j using Nat.strongRecOn with
  | _ j ih =>
    intro hj
    cases hg : L.getD j false
    · exfalso
      have hu : L.getD j true = false := by simp [hs, hj] at hg ⊢; exact hg
      have hm : j ∈ Region.ready md ops L := by
        refine mem_ready.2 ⟨hu, ops[j], Array.getElem?_eq_getElem hj, fun e he _ => ?_⟩
        have h1 := List.all_eq_true.1 hw j (List.mem_range.2 hj)
        rw [Array.getElem?_eq_getElem hj] at h1
        have h2 : e.on < j := by
          simp at h1
          obtain ⟨i, hi, rfl⟩ := Array.mem_iff_getElem.1 he
          exact h1 i hi
        exact ih e.on h2 (by omega)
      rw [hr] at hm
      cases hm
    · rfl

theorem At7.range {w : World} {b : Nat} {f : Nat → Int} (h : At7 w b f) : w.rangeAt b 0 [.int .i64 (f 0), .int .i64 (f 1), .int .i64 (f 2), .int .i64 (f 3), .int .i64 (f 4), .int .i64 (f 5), .int .i64 (f 6)] := fun j v hv => by
  rw [Nat.zero_add]
  match j, hv with
  | 0, hv => simp at hv; subst hv; exact h.c0
  | 1, hv => simp at hv; subst hv; exact h.c1
  | 2, hv => simp at hv; subst hv; exact h.c2
  | 3, hv => simp at hv; subst hv; exact h.c3
  | 4, hv => simp at hv; subst hv; exact h.c4
  | 5, hv => simp at hv; subst hv; exact h.c5
  | 6, hv => simp at hv; subst hv; exact h.c6
theorem At2.range {w : World} {b : Nat} {r s : Int} (h : At2 w b r s) : w.rangeAt b 0 [.int .i64 r, .int .i64 s] := fun j v hv => by
  rw [Nat.zero_add]
  match j, hv with
  | 0, hv => simp at hv; subst hv; exact h.one
  | 1, hv => simp at hv; subst hv; exact h.two
theorem At7.of_range {w : World} {b : Nat} {f : Nat → Int} (h : w.rangeAt b 0 [.int .i64 (f 0), .int .i64 (f 1), .int .i64 (f 2), .int .i64 (f 3), .int .i64 (f 4), .int .i64 (f 5), .int .i64 (f 6)]) : At7 w b f := by
  have g : ∀ j v, [.int .i64 (f 0), .int .i64 (f 1), .int .i64 (f 2), .int .i64 (f 3), .int .i64 (f 4), .int .i64 (f 5), .int .i64 (f 6)][j]? = some v → w.cell? ⟨b, j, none⟩ = some v := fun j v hv => by have := h j v hv; rwa [Nat.zero_add] at this
  exact ⟨World.block_lt_of_cell? w _ (g 0 _ rfl), g 0 _ rfl, g 1 _ rfl, g 2 _ rfl, g 3 _ rfl, g 4 _ rfl, g 5 _ rfl, g 6 _ rfl⟩
theorem there_lt {w : World} {p : Nat} (h : w.there p 0 7) : p < w.heap.size := by
  obtain ⟨u, hu⟩ := Option.isSome_iff_exists.1 (h 0 (by omega)).1
  exact World.block_lt_of_cell? w _ hu
theorem there_on {w w' : World} {p : Nat} (h : w.there p 0 7) (k : Below w.heap.size w w') : w'.there p 0 7 := fun j hj => by
  rw [k.cell (p := ⟨p, 0 + j, none⟩) (there_lt h), k.frozen (p := ⟨p, 0 + j, none⟩) (there_lt h)]
  exact h j hj
theorem there_new (w : World) : (w.alloc (.cells #[.int .i64 0, .int .i64 0, .int .i64 0, .int .i64 0, .int .i64 0, .int .i64 0, .int .i64 0] 23)).there w.heap.size 0 7 := fun j hj => by
  rcases M.seven hj with rfl | rfl | rfl | rfl | rfl | rfl | rfl <;> simp [go_sem]
theorem At7.set {w : World} {p : Nat} (f : Nat → Int) (h : w.there p 0 7) : At7 (w.setCells p 0 [.int .i64 (f 0), .int .i64 (f 1), .int .i64 (f 2), .int .i64 (f 3), .int .i64 (f 4), .int .i64 (f 5), .int .i64 (f 6)]) p f := At7.of_range (World.rangeAt_setCells_same w p 0 _ h)
theorem At7.apart {w : World} {p q : Nat} {f : Nat → Int} (h : At7 w q f) (vs : List Value) (hne : q ≠ p) : At7 (w.setCells p 0 vs) q f := At7.of_range (World.rangeAt_setCells_apart h.range p 0 vs (.inl hne))

/-- What holds when those of L have come up. -/
structure Inv6 (w0 : World) (a : Nat → Int) (r s : Int) (L : Array Bool) (x5 x6 x9 x10 x11 x12 x13 x14 : Value) (w : World) : Prop where
  bel : Below w0.heap.size w0 w
  c0 : L.getD 0 false = true → x9 = .agg #[.int .i64 (a 0), .int .i64 (a 1), .int .i64 (a 2), .int .i64 (a 3), .int .i64 (a 4), .int .i64 (a 5), .int .i64 (a 6)]
  c1 : L.getD 1 false = true → x10 = .agg #[.int .i64 r, .int .i64 s]
  c2 : L.getD 2 false = true → x11 = .agg #[.int .i64 (M.wit a r s 0), .int .i64 (M.wit a r s 1), .int .i64 (M.wit a r s 2), .int .i64 (M.wit a r s 3), .int .i64 (M.wit a r s 4), .int .i64 (M.wit a r s 5), .int .i64 (M.wit a r s 6)]
  c3 : L.getD 3 false = true → x12 = .agg #[.int .i64 (a 0), .int .i64 (a 1), .int .i64 (a 2), .int .i64 (a 3), .int .i64 (a 4), .int .i64 (a 5), .int .i64 (a 6)]
  c4 : L.getD 4 false = true → x13 = .agg #[.int .i64 r, .int .i64 s]
  c5 : L.getD 5 false = true → x14 = .agg #[.int .i64 (M.out a r s 0), .int .i64 (M.out a r s 1), .int .i64 (M.out a r s 2), .int .i64 (M.out a r s 3), .int .i64 (M.out a r s 4), .int .i64 (M.out a r s 5), .int .i64 (M.out a r s 6)]
  c6 : L.getD 6 false = true → ∃ p, x5 = .pointer (some ⟨p, 0, none⟩) ∧ w0.heap.size ≤ p ∧ w.there p 0 7
  c7 : L.getD 7 false = true → ∃ p, x6 = .pointer (some ⟨p, 0, none⟩) ∧ w0.heap.size ≤ p ∧ w.there p 0 7
  ne : L.getD 6 false = true → L.getD 7 false = true → x5 ≠ x6
  c8 : L.getD 8 false = true → ∃ p, x5 = .pointer (some ⟨p, 0, none⟩) ∧ At7 w p (M.wit a r s)
  c9 : L.getD 9 false = true → ∃ p, x6 = .pointer (some ⟨p, 0, none⟩) ∧ At7 w p (M.out a r s)
  d8 : L.getD 8 false = true → L.getD 6 false = true
  d9 : L.getD 9 false = true → L.getD 7 false = true
  d98 : L.getD 9 false = true → L.getD 8 false = true

set_option maxHeartbeats 4000000 in
set_option maxRecDepth 100000 in
theorem region6 {Q : Exit → Act → World → Prop} {w0 : World} {B C : Nat} {a : Nat → Int} {r s : Int} {t0 t1 t4 t7 t8 t15 t16 t17 t18 t19 t20 t21 t22 t23 t24 t25 t26 t27 t28 t29 t30 t31 t32 t33 t34 t35 t36 t37 t38 t39 t40 t41 t42 t43 t44 t45 t46 t47 t48 t49 t50 t51 t52 t53 t54 t55 t56 t57 t58 t59 t60 t61 t62 t63 t64 t65 t66 t67 t68 t69 t70 t71 t72 t73 t74 t75 t76 x5 x6 x9 x10 x11 x12 x13 x14 : Value} {ds : List Deferred} {z0 z1 z2 z3 z4 z5 z6 z7 z8 z9 : String} (hs : s ≤ 9223372036854775807) (hA : At7 w0 B a) (hI : At2 w0 C r s)
    (fin : ∀ (p q : Nat) (w : World), Below w0.heap.size w0 w → At7 w p (M.wit a r s) → At7 w q (M.out a r s) → Q .normal ⟨#[t0, t1, .pointer (some ⟨B, 0, none⟩), .pointer (some ⟨C, 0, none⟩), t4, .pointer (some ⟨p, 0, none⟩), .pointer (some ⟨q, 0, none⟩), t7, t8, .agg #[.int .i64 (a 0), .int .i64 (a 1), .int .i64 (a 2), .int .i64 (a 3), .int .i64 (a 4), .int .i64 (a 5), .int .i64 (a 6)], .agg #[.int .i64 r, .int .i64 s], .agg #[.int .i64 (M.wit a r s 0), .int .i64 (M.wit a r s 1), .int .i64 (M.wit a r s 2), .int .i64 (M.wit a r s 3), .int .i64 (M.wit a r s 4), .int .i64 (M.wit a r s 5), .int .i64 (M.wit a r s 6)], .agg #[.int .i64 (a 0), .int .i64 (a 1), .int .i64 (a 2), .int .i64 (a 3), .int .i64 (a 4), .int .i64 (a 5), .int .i64 (a 6)], .agg #[.int .i64 r, .int .i64 s], .agg #[.int .i64 (M.out a r s 0), .int .i64 (M.out a r s 1), .int .i64 (M.out a r s 2), .int .i64 (M.out a r s 3), .int .i64 (M.out a r s 4), .int .i64 (M.out a r s 5), .int .i64 (M.out a r s 6)], t15, t16, t17, t18, t19, t20, t21, t22, t23, t24, t25, t26, t27, t28, t29, t30, t31, t32, t33, t34, t35, t36, t37, t38, t39, t40, t41, t42, t43, t44, t45, t46, t47, t48, t49, t50, t51, t52, t53, t54, t55, t56, t57, t58, t59, t60, t61, t62, t63, t64, t65, t66, t67, t68, t69, t70, t71, t72, t73, t74, t75, t76], ds⟩ w) :
    (Code.region 1 #[{ dst := some 9, op := Op.load 23 (Operand.tmp 2), type := 23, pos := z0, after := #[], guard := none }, { dst := some 10, op := Op.load 25 (Operand.tmp 3), type := 25, pos := z1, after := #[], guard := none }, { dst := some 11, op := Op.call { callee := Callee.value (Operand.func 17), args := #[Operand.tmp 9, Operand.tmp 10], argTypes := #[23, 25] }, type := 23, pos := z2, after := #[{ on := 0, ground := Ground.data }, { on := 1, ground := Ground.data }], guard := none }, { dst := some 12, op := Op.load 23 (Operand.tmp 2), type := 23, pos := z3, after := #[], guard := none }, { dst := some 13, op := Op.load 25 (Operand.tmp 3), type := 25, pos := z4, after := #[], guard := none }, { dst := some 14, op := Op.call { callee := Callee.value (Operand.func 19), args := #[Operand.tmp 12, Operand.tmp 13], argTypes := #[23, 25] }, type := 23, pos := z5, after := #[{ on := 3, ground := Ground.data }, { on := 4, ground := Ground.data }, { on := 2, ground := Ground.chain }], guard := none }, { dst := some 5, op := Op.alloc 23, type := 0, pos := z6, after := #[], guard := none }, { dst := some 6, op := Op.alloc 23, type := 0, pos := z7, after := #[], guard := none }, { dst := none, op := Op.store 23 (Operand.tmp 5) (Operand.tmp 11), type := 0, pos := z8, after := #[{ on := 6, ground := Ground.data }, { on := 2, ground := Ground.data }, { on := 5, ground := Ground.chain }, { on := 0, ground := Ground.phase }, { on := 1, ground := Ground.phase }, { on := 2, ground := Ground.phase }, { on := 3, ground := Ground.textOnly Departure.lateStores }, { on := 4, ground := Ground.textOnly Departure.lateStores }, { on := 5, ground := Ground.textOnly Departure.lateStoresUnsure }, { on := 6, ground := Ground.phase }, { on := 7, ground := Ground.phase }], guard := none }, { dst := none, op := Op.store 23 (Operand.tmp 6) (Operand.tmp 14), type := 0, pos := z9, after := #[{ on := 7, ground := Ground.data }, { on := 5, ground := Ground.data }, { on := 8, ground := Ground.chain }, { on := 0, ground := Ground.phase }, { on := 1, ground := Ground.phase }, { on := 2, ground := Ground.phase }, { on := 3, ground := Ground.phase }, { on := 4, ground := Ground.phase }, { on := 5, ground := Ground.phase }, { on := 6, ground := Ground.phase }, { on := 7, ground := Ground.phase }, { on := 8, ground := Ground.phase }], guard := none }] true).wp Try.prog Q ⟨#[t0, t1, .pointer (some ⟨B, 0, none⟩), .pointer (some ⟨C, 0, none⟩), t4, x5, x6, t7, t8, x9, x10, x11, x12, x13, x14, t15, t16, t17, t18, t19, t20, t21, t22, t23, t24, t25, t26, t27, t28, t29, t30, t31, t32, t33, t34, t35, t36, t37, t38, t39, t40, t41, t42, t43, t44, t45, t46, t47, t48, t49, t50, t51, t52, t53, t54, t55, t56, t57, t58, t59, t60, t61, t62, t63, t64, t65, t66, t67, t68, t69, t70, t71, t72, t73, t74, t75, t76], ds⟩ w0 := by
  let IH : Array Bool → Act → World → Prop := fun L A w => L.size = 10 ∧ ∃ x5 x6 x9 x10 x11 x12 x13 x14 : Value, A = ⟨#[t0, t1, .pointer (some ⟨B, 0, none⟩), .pointer (some ⟨C, 0, none⟩), t4, x5, x6, t7, t8, x9, x10, x11, x12, x13, x14, t15, t16, t17, t18, t19, t20, t21, t22, t23, t24, t25, t26, t27, t28, t29, t30, t31, t32, t33, t34, t35, t36, t37, t38, t39, t40, t41, t42, t43, t44, t45, t46, t47, t48, t49, t50, t51, t52, t53, t54, t55, t56, t57, t58, t59, t60, t61, t62, t63, t64, t65, t66, t67, t68, t69, t70, t71, t72, t73, t74, t75, t76], ds⟩ ∧ Inv6 w0 a r s L x5 x6 x9 x10 x11 x12 x13 x14 w
  refine wp_region_inv (by kernel_rfl) IH ?_ ?_ ?_
  · refine ⟨rfl, x5, x6, x9, x10, x11, x12, x13, x14, rfl, ?_⟩
    have no : ∀ j, (Array.replicate 10 false).getD j false = true → False := fun j g => by
      rcases Nat.lt_or_ge j 10 with h | h
      · simp [h] at g
      · simp [Array.getElem?_eq_none (xs := Array.replicate 10 false) (by simpa using h)] at g
    exact { bel := (Below.refl _ _).drew, c0 := fun g => (no _ g).elim, c1 := fun g => (no _ g).elim, c2 := fun g => (no _ g).elim, c3 := fun g => (no _ g).elim, c4 := fun g => (no _ g).elim, c5 := fun g => (no _ g).elim, c6 := fun g => (no _ g).elim, c7 := fun g => (no _ g).elim, ne := fun g => (no _ g).elim, c8 := fun g => (no _ g).elim, c9 := fun g => (no _ g).elim, d8 := fun g => (no _ g).elim, d9 := fun g => (no _ g).elim, d98 := fun g => (no _ g).elim }
  · intro L A w hI' i hi
    obtain ⟨hL, x5, x6, x9, x10, x11, x12, x13, x14, rfl, h⟩ := hI'
    obtain ⟨hu, o, ho, hd⟩ := mem_ready.1 hi
    have hi10 : i < 10 := (Array.getElem?_eq_some_iff.1 ho).1
    have hi' : i = 0 ∨ i = 1 ∨ i = 2 ∨ i = 3 ∨ i = 4 ∨ i = 5 ∨ i = 6 ∨ i = 7 ∨ i = 8 ∨ i = 9 := by omega
    rcases hi' with rfl | rfl | rfl | rfl | rfl | rfl | rfl | rfl | rfl | rfl

    · refine wpOp_step (o := { dst := some 9, op := Op.load 23 (Operand.tmp 2), type := 23, pos := z0, after := #[], guard := none }) rfl (fun K hK' => ?_)
      have hK : ∀ a w, IH (L.setIfInBounds 0 true) a w → K a w := hK'
      rw [if_pos (by rfl)]
      refine wp_load_mid 23 (.tmp 2) rfl B 0 rfl [.int .i64 (a 0), .int .i64 (a 1), .int .i64 (a 2), .int .i64 (a 3), .int .i64 (a 4), .int .i64 (a 5), .int .i64 (a 6)] (.array 7 3) (hA.on h.bel).range Try.underlying23 rfl (by kernel_rfl) ?_
      exact hK _ _ ⟨by simpa using hL, x5, x6, _, x10, x11, x12, x13, x14, rfl, { bel := h.bel, c0 := fun _ => rfl, c1 := fun g => h.c1 (up (by decide) g), c2 := fun g => h.c2 (up (by decide) g), c3 := fun g => h.c3 (up (by decide) g), c4 := fun g => h.c4 (up (by decide) g), c5 := fun g => h.c5 (up (by decide) g), c6 := fun g => by obtain ⟨p, e, l, k⟩ := h.c6 (up (by decide) g); exact ⟨p, e, l, k⟩, c7 := fun g => by obtain ⟨p, e, l, k⟩ := h.c7 (up (by decide) g); exact ⟨p, e, l, k⟩, ne := fun g g' => h.ne (up (by decide) g) (up (by decide) g'), c8 := fun g => by obtain ⟨p, e, k⟩ := h.c8 (up (by decide) g); exact ⟨p, e, k⟩, c9 := fun g => by obtain ⟨p, e, k⟩ := h.c9 (up (by decide) g); exact ⟨p, e, k⟩, d8 := fun g => on (h.d8 (up (by decide) g)), d9 := fun g => on (h.d9 (up (by decide) g)), d98 := fun g => on (h.d98 (up (by decide) g)) }⟩
    · refine wpOp_step (o := { dst := some 10, op := Op.load 25 (Operand.tmp 3), type := 25, pos := z1, after := #[], guard := none }) rfl (fun K hK' => ?_)
      have hK : ∀ a w, IH (L.setIfInBounds 1 true) a w → K a w := hK'
      rw [if_pos (by rfl)]
      refine wp_load_mid 25 (.tmp 3) rfl C 0 rfl [.int .i64 r, .int .i64 s] _ (hI.on h.bel).range Try.underlying25 rfl (by kernel_rfl) ?_
      exact hK _ _ ⟨by simpa using hL, x5, x6, x9, _, x11, x12, x13, x14, rfl, { bel := h.bel, c0 := fun g => h.c0 (up (by decide) g), c1 := fun _ => rfl, c2 := fun g => h.c2 (up (by decide) g), c3 := fun g => h.c3 (up (by decide) g), c4 := fun g => h.c4 (up (by decide) g), c5 := fun g => h.c5 (up (by decide) g), c6 := fun g => by obtain ⟨p, e, l, k⟩ := h.c6 (up (by decide) g); exact ⟨p, e, l, k⟩, c7 := fun g => by obtain ⟨p, e, l, k⟩ := h.c7 (up (by decide) g); exact ⟨p, e, l, k⟩, ne := fun g g' => h.ne (up (by decide) g) (up (by decide) g'), c8 := fun g => by obtain ⟨p, e, k⟩ := h.c8 (up (by decide) g); exact ⟨p, e, k⟩, c9 := fun g => by obtain ⟨p, e, k⟩ := h.c9 (up (by decide) g); exact ⟨p, e, k⟩, d8 := fun g => on (h.d8 (up (by decide) g)), d9 := fun g => on (h.d9 (up (by decide) g)), d98 := fun g => on (h.d98 (up (by decide) g)) }⟩
    · have ho' : { dst := some 11, op := Op.call { callee := Callee.value (Operand.func 17), args := #[Operand.tmp 9, Operand.tmp 10], argTypes := #[23, 25] }, type := 23, pos := z2, after := #[{ on := 0, ground := Ground.data }, { on := 1, ground := Ground.data }], guard := none } = o := Option.some.inj ho
      subst ho'
      obtain rfl := h.c0 (hd { on := 0, ground := .data } (by simp) (by rfl))
      obtain rfl := h.c1 (hd { on := 1, ground := .data } (by simp) (by rfl))
      refine wpOp_step (o := { dst := some 11, op := Op.call { callee := Callee.value (Operand.func 17), args := #[Operand.tmp 9, Operand.tmp 10], argTypes := #[23, 25] }, type := 23, pos := z2, after := #[{ on := 0, ground := Ground.data }, { on := 1, ground := Ground.data }], guard := none }) rfl (fun K hK' => ?_)
      have hK : ∀ a w, IH (L.setIfInBounds 2 true) a w → K a w := hK'
      rw [if_pos (by rfl)]
      unfold Oper.wp
      rw [show (execOp _ _).run Try.prog w = .ok (.enter 17 #[.agg #[.int .i64 (a 0), .int .i64 (a 1), .int .i64 (a 2), .int .i64 (a 3), .int .i64 (a 4), .int .i64 (a 5), .int .i64 (a 6)], .agg #[.int .i64 r, .int .i64 s]]) w from by kernel_rfl, Oper.upon_enter]
      refine (with_any a r s w).mono fun e w'' hh => ?_
      obtain ⟨rfl, hb⟩ := hh
      exact hK _ _ ⟨by simpa using hL, x5, x6, _, _, _, x12, x13, x14, rfl, { bel := h.bel.trans (hb.mono h.bel.size), c0 := fun g => h.c0 (up (by decide) g), c1 := fun g => h.c1 (up (by decide) g), c2 := fun _ => rfl, c3 := fun g => h.c3 (up (by decide) g), c4 := fun g => h.c4 (up (by decide) g), c5 := fun g => h.c5 (up (by decide) g), c6 := fun g => by obtain ⟨p, e, l, k⟩ := h.c6 (up (by decide) g); exact ⟨p, e, l, there_on k hb⟩, c7 := fun g => by obtain ⟨p, e, l, k⟩ := h.c7 (up (by decide) g); exact ⟨p, e, l, there_on k hb⟩, ne := fun g g' => h.ne (up (by decide) g) (up (by decide) g'), c8 := fun g => by obtain ⟨p, e, k⟩ := h.c8 (up (by decide) g); exact ⟨p, e, k.on hb⟩, c9 := fun g => by obtain ⟨p, e, k⟩ := h.c9 (up (by decide) g); exact ⟨p, e, k.on hb⟩, d8 := fun g => on (h.d8 (up (by decide) g)), d9 := fun g => on (h.d9 (up (by decide) g)), d98 := fun g => on (h.d98 (up (by decide) g)) }⟩
    · refine wpOp_step (o := { dst := some 12, op := Op.load 23 (Operand.tmp 2), type := 23, pos := z3, after := #[], guard := none }) rfl (fun K hK' => ?_)
      have hK : ∀ a w, IH (L.setIfInBounds 3 true) a w → K a w := hK'
      rw [if_pos (by rfl)]
      refine wp_load_mid 23 (.tmp 2) rfl B 0 rfl [.int .i64 (a 0), .int .i64 (a 1), .int .i64 (a 2), .int .i64 (a 3), .int .i64 (a 4), .int .i64 (a 5), .int .i64 (a 6)] (.array 7 3) (hA.on h.bel).range Try.underlying23 rfl (by kernel_rfl) ?_
      exact hK _ _ ⟨by simpa using hL, x5, x6, x9, x10, x11, _, x13, x14, rfl, { bel := h.bel, c0 := fun g => h.c0 (up (by decide) g), c1 := fun g => h.c1 (up (by decide) g), c2 := fun g => h.c2 (up (by decide) g), c3 := fun _ => rfl, c4 := fun g => h.c4 (up (by decide) g), c5 := fun g => h.c5 (up (by decide) g), c6 := fun g => by obtain ⟨p, e, l, k⟩ := h.c6 (up (by decide) g); exact ⟨p, e, l, k⟩, c7 := fun g => by obtain ⟨p, e, l, k⟩ := h.c7 (up (by decide) g); exact ⟨p, e, l, k⟩, ne := fun g g' => h.ne (up (by decide) g) (up (by decide) g'), c8 := fun g => by obtain ⟨p, e, k⟩ := h.c8 (up (by decide) g); exact ⟨p, e, k⟩, c9 := fun g => by obtain ⟨p, e, k⟩ := h.c9 (up (by decide) g); exact ⟨p, e, k⟩, d8 := fun g => on (h.d8 (up (by decide) g)), d9 := fun g => on (h.d9 (up (by decide) g)), d98 := fun g => on (h.d98 (up (by decide) g)) }⟩
    · refine wpOp_step (o := { dst := some 13, op := Op.load 25 (Operand.tmp 3), type := 25, pos := z4, after := #[], guard := none }) rfl (fun K hK' => ?_)
      have hK : ∀ a w, IH (L.setIfInBounds 4 true) a w → K a w := hK'
      rw [if_pos (by rfl)]
      refine wp_load_mid 25 (.tmp 3) rfl C 0 rfl [.int .i64 r, .int .i64 s] _ (hI.on h.bel).range Try.underlying25 rfl (by kernel_rfl) ?_
      exact hK _ _ ⟨by simpa using hL, x5, x6, x9, x10, x11, x12, _, x14, rfl, { bel := h.bel, c0 := fun g => h.c0 (up (by decide) g), c1 := fun g => h.c1 (up (by decide) g), c2 := fun g => h.c2 (up (by decide) g), c3 := fun g => h.c3 (up (by decide) g), c4 := fun _ => rfl, c5 := fun g => h.c5 (up (by decide) g), c6 := fun g => by obtain ⟨p, e, l, k⟩ := h.c6 (up (by decide) g); exact ⟨p, e, l, k⟩, c7 := fun g => by obtain ⟨p, e, l, k⟩ := h.c7 (up (by decide) g); exact ⟨p, e, l, k⟩, ne := fun g g' => h.ne (up (by decide) g) (up (by decide) g'), c8 := fun g => by obtain ⟨p, e, k⟩ := h.c8 (up (by decide) g); exact ⟨p, e, k⟩, c9 := fun g => by obtain ⟨p, e, k⟩ := h.c9 (up (by decide) g); exact ⟨p, e, k⟩, d8 := fun g => on (h.d8 (up (by decide) g)), d9 := fun g => on (h.d9 (up (by decide) g)), d98 := fun g => on (h.d98 (up (by decide) g)) }⟩
    · have ho' : { dst := some 14, op := Op.call { callee := Callee.value (Operand.func 19), args := #[Operand.tmp 12, Operand.tmp 13], argTypes := #[23, 25] }, type := 23, pos := z5, after := #[{ on := 3, ground := Ground.data }, { on := 4, ground := Ground.data }, { on := 2, ground := Ground.chain }], guard := none } = o := Option.some.inj ho
      subst ho'
      obtain rfl := h.c3 (hd { on := 3, ground := .data } (by simp) (by rfl))
      obtain rfl := h.c4 (hd { on := 4, ground := .data } (by simp) (by rfl))
      refine wpOp_step (o := { dst := some 14, op := Op.call { callee := Callee.value (Operand.func 19), args := #[Operand.tmp 12, Operand.tmp 13], argTypes := #[23, 25] }, type := 23, pos := z5, after := #[{ on := 3, ground := Ground.data }, { on := 4, ground := Ground.data }, { on := 2, ground := Ground.chain }], guard := none }) rfl (fun K hK' => ?_)
      have hK : ∀ a w, IH (L.setIfInBounds 5 true) a w → K a w := hK'
      rw [if_pos (by rfl)]
      unfold Oper.wp
      rw [show (execOp _ _).run Try.prog w = .ok (.enter 19 #[.agg #[.int .i64 (a 0), .int .i64 (a 1), .int .i64 (a 2), .int .i64 (a 3), .int .i64 (a 4), .int .i64 (a 5), .int .i64 (a 6)], .agg #[.int .i64 r, .int .i64 s]]) w from by kernel_rfl, Oper.upon_enter]
      refine (out_any a r s w hs).mono fun e w'' hh => ?_
      obtain ⟨rfl, hb⟩ := hh
      exact hK _ _ ⟨by simpa using hL, x5, x6, x9, x10, x11, _, _, _, rfl, { bel := h.bel.trans (hb.mono h.bel.size), c0 := fun g => h.c0 (up (by decide) g), c1 := fun g => h.c1 (up (by decide) g), c2 := fun g => h.c2 (up (by decide) g), c3 := fun g => h.c3 (up (by decide) g), c4 := fun g => h.c4 (up (by decide) g), c5 := fun _ => rfl, c6 := fun g => by obtain ⟨p, e, l, k⟩ := h.c6 (up (by decide) g); exact ⟨p, e, l, there_on k hb⟩, c7 := fun g => by obtain ⟨p, e, l, k⟩ := h.c7 (up (by decide) g); exact ⟨p, e, l, there_on k hb⟩, ne := fun g g' => h.ne (up (by decide) g) (up (by decide) g'), c8 := fun g => by obtain ⟨p, e, k⟩ := h.c8 (up (by decide) g); exact ⟨p, e, k.on hb⟩, c9 := fun g => by obtain ⟨p, e, k⟩ := h.c9 (up (by decide) g); exact ⟨p, e, k.on hb⟩, d8 := fun g => on (h.d8 (up (by decide) g)), d9 := fun g => on (h.d9 (up (by decide) g)), d98 := fun g => on (h.d98 (up (by decide) g)) }⟩
    · refine wpOp_step (o := { dst := some 5, op := Op.alloc 23, type := 0, pos := z6, after := #[], guard := none }) rfl (fun K hK' => ?_)
      have hK : ∀ a w, IH (L.setIfInBounds 6 true) a w → K a w := hK'
      rw [if_pos (by rfl)]
      unfold Oper.wp
      rw [show (execOp _ _).run Try.prog w = .ok (.value (.pointer (some ⟨w.heap.size, 0, none⟩))) (w.alloc (.cells #[.int .i64 0, .int .i64 0, .int .i64 0, .int .i64 0, .int .i64 0, .int .i64 0, .int .i64 0] 23)) from by kernel_rfl, Oper.upon_value]
      exact hK _ _ ⟨by simpa using hL, _, x6, x9, x10, x11, x12, x13, x14, rfl, { bel := below_new h.bel, c0 := fun g => h.c0 (up (by decide) g), c1 := fun g => h.c1 (up (by decide) g), c2 := fun g => h.c2 (up (by decide) g), c3 := fun g => h.c3 (up (by decide) g), c4 := fun g => h.c4 (up (by decide) g), c5 := fun g => h.c5 (up (by decide) g), c6 := fun _ => ⟨w.heap.size, rfl, h.bel.size, there_new w⟩, c7 := fun g => by obtain ⟨p, e, l, k⟩ := h.c7 (up (by decide) g); exact ⟨p, e, l, World.there_alloc k _⟩, ne := fun _ g' => by obtain ⟨q, e, l, k⟩ := h.c7 (up (by decide) g'); rw [e]; intro hq; simp at hq; have := there_lt k; omega, c8 := fun g => off hu (h.d8 (up (by decide) g)), c9 := fun g => by obtain ⟨p, e, k⟩ := h.c9 (up (by decide) g); exact ⟨p, e, k.push _⟩, d8 := fun g => off hu (h.d8 (up (by decide) g)), d9 := fun g => on (h.d9 (up (by decide) g)), d98 := fun g => on (h.d98 (up (by decide) g)) }⟩
    · refine wpOp_step (o := { dst := some 6, op := Op.alloc 23, type := 0, pos := z7, after := #[], guard := none }) rfl (fun K hK' => ?_)
      have hK : ∀ a w, IH (L.setIfInBounds 7 true) a w → K a w := hK'
      rw [if_pos (by rfl)]
      unfold Oper.wp
      rw [show (execOp _ _).run Try.prog w = .ok (.value (.pointer (some ⟨w.heap.size, 0, none⟩))) (w.alloc (.cells #[.int .i64 0, .int .i64 0, .int .i64 0, .int .i64 0, .int .i64 0, .int .i64 0, .int .i64 0] 23)) from by kernel_rfl, Oper.upon_value]
      exact hK _ _ ⟨by simpa using hL, x5, _, x9, x10, x11, x12, x13, x14, rfl, { bel := below_new h.bel, c0 := fun g => h.c0 (up (by decide) g), c1 := fun g => h.c1 (up (by decide) g), c2 := fun g => h.c2 (up (by decide) g), c3 := fun g => h.c3 (up (by decide) g), c4 := fun g => h.c4 (up (by decide) g), c5 := fun g => h.c5 (up (by decide) g), c6 := fun g => by obtain ⟨p, e, l, k⟩ := h.c6 (up (by decide) g); exact ⟨p, e, l, World.there_alloc k _⟩, c7 := fun _ => ⟨w.heap.size, rfl, h.bel.size, there_new w⟩, ne := fun g _ => by obtain ⟨q, e, l, k⟩ := h.c6 (up (by decide) g); rw [e]; intro hq; simp at hq; have := there_lt k; omega, c8 := fun g => by obtain ⟨p, e, k⟩ := h.c8 (up (by decide) g); exact ⟨p, e, k.push _⟩, c9 := fun g => off hu (h.d9 (up (by decide) g)), d8 := fun g => on (h.d8 (up (by decide) g)), d9 := fun g => off hu (h.d9 (up (by decide) g)), d98 := fun g => on (h.d98 (up (by decide) g)) }⟩
    · have ho' : { dst := none, op := Op.store 23 (Operand.tmp 5) (Operand.tmp 11), type := 0, pos := z8, after := #[{ on := 6, ground := Ground.data }, { on := 2, ground := Ground.data }, { on := 5, ground := Ground.chain }, { on := 0, ground := Ground.phase }, { on := 1, ground := Ground.phase }, { on := 2, ground := Ground.phase }, { on := 3, ground := Ground.textOnly Departure.lateStores }, { on := 4, ground := Ground.textOnly Departure.lateStores }, { on := 5, ground := Ground.textOnly Departure.lateStoresUnsure }, { on := 6, ground := Ground.phase }, { on := 7, ground := Ground.phase }], guard := none } = o := Option.some.inj ho
      subst ho'
      have ga := hd { on := 6, ground := .data } (by simp) (by rfl)
      obtain ⟨p, rfl, pl, pk⟩ := h.c6 ga
      obtain rfl := h.c2 (hd { on := 2, ground := .data } (by simp) (by rfl))
      refine wpOp_step (o := { dst := none, op := Op.store 23 (Operand.tmp 5) (Operand.tmp 11), type := 0, pos := z8, after := #[{ on := 6, ground := Ground.data }, { on := 2, ground := Ground.data }, { on := 5, ground := Ground.chain }, { on := 0, ground := Ground.phase }, { on := 1, ground := Ground.phase }, { on := 2, ground := Ground.phase }, { on := 3, ground := Ground.textOnly Departure.lateStores }, { on := 4, ground := Ground.textOnly Departure.lateStores }, { on := 5, ground := Ground.textOnly Departure.lateStoresUnsure }, { on := 6, ground := Ground.phase }, { on := 7, ground := Ground.phase }], guard := none }) rfl (fun K hK' => ?_)
      have hK : ∀ a w, IH (L.setIfInBounds 8 true) a w → K a w := hK'
      rw [if_pos (by rfl)]
      refine wp_store_mid 23 (.tmp 5) (.tmp 11) rfl p 0 #[.int .i64 (M.wit a r s 0), .int .i64 (M.wit a r s 1), .int .i64 (M.wit a r s 2), .int .i64 (M.wit a r s 3), .int .i64 (M.wit a r s 4), .int .i64 (M.wit a r s 5), .int .i64 (M.wit a r s 6)] rfl rfl pk (by kernel_rfl) (by simp [Value.oneCell']) ?_
      exact hK _ _ ⟨by simpa using hL, _, x6, x9, x10, _, x12, x13, x14, rfl, { bel := below_setCells pl _ _ _ h.bel, c0 := fun g => h.c0 (up (by decide) g), c1 := fun g => h.c1 (up (by decide) g), c2 := fun g => h.c2 (up (by decide) g), c3 := fun g => h.c3 (up (by decide) g), c4 := fun g => h.c4 (up (by decide) g), c5 := fun g => h.c5 (up (by decide) g), c6 := fun g => by obtain ⟨p, e, l, k⟩ := h.c6 (up (by decide) g); exact ⟨p, e, l, World.there_setCells k _ _ _⟩, c7 := fun g => by obtain ⟨p, e, l, k⟩ := h.c7 (up (by decide) g); exact ⟨p, e, l, World.there_setCells k _ _ _⟩, ne := fun g g' => h.ne (up (by decide) g) (up (by decide) g'), c8 := fun _ => ⟨p, rfl, At7.set (M.wit a r s) pk⟩, c9 := fun g => off hu (h.d98 (up (by decide) g)), d8 := fun _ => on ga, d9 := fun g => on (h.d9 (up (by decide) g)), d98 := fun g => off hu (h.d98 (up (by decide) g)) }⟩
    · have ho' : { dst := none, op := Op.store 23 (Operand.tmp 6) (Operand.tmp 14), type := 0, pos := z9, after := #[{ on := 7, ground := Ground.data }, { on := 5, ground := Ground.data }, { on := 8, ground := Ground.chain }, { on := 0, ground := Ground.phase }, { on := 1, ground := Ground.phase }, { on := 2, ground := Ground.phase }, { on := 3, ground := Ground.phase }, { on := 4, ground := Ground.phase }, { on := 5, ground := Ground.phase }, { on := 6, ground := Ground.phase }, { on := 7, ground := Ground.phase }, { on := 8, ground := Ground.phase }], guard := none } = o := Option.some.inj ho
      subst ho'
      have ga := hd { on := 7, ground := .data } (by simp) (by rfl)
      obtain ⟨p, rfl, pl, pk⟩ := h.c7 ga
      obtain rfl := h.c5 (hd { on := 5, ground := .data } (by simp) (by rfl))
      refine wpOp_step (o := { dst := none, op := Op.store 23 (Operand.tmp 6) (Operand.tmp 14), type := 0, pos := z9, after := #[{ on := 7, ground := Ground.data }, { on := 5, ground := Ground.data }, { on := 8, ground := Ground.chain }, { on := 0, ground := Ground.phase }, { on := 1, ground := Ground.phase }, { on := 2, ground := Ground.phase }, { on := 3, ground := Ground.phase }, { on := 4, ground := Ground.phase }, { on := 5, ground := Ground.phase }, { on := 6, ground := Ground.phase }, { on := 7, ground := Ground.phase }, { on := 8, ground := Ground.phase }], guard := none }) rfl (fun K hK' => ?_)
      have hK : ∀ a w, IH (L.setIfInBounds 9 true) a w → K a w := hK'
      rw [if_pos (by rfl)]
      refine wp_store_mid 23 (.tmp 6) (.tmp 14) rfl p 0 #[.int .i64 (M.out a r s 0), .int .i64 (M.out a r s 1), .int .i64 (M.out a r s 2), .int .i64 (M.out a r s 3), .int .i64 (M.out a r s 4), .int .i64 (M.out a r s 5), .int .i64 (M.out a r s 6)] rfl rfl pk (by kernel_rfl) (by simp [Value.oneCell']) ?_
      exact hK _ _ ⟨by simpa using hL, x5, _, x9, x10, x11, x12, x13, _, rfl, { bel := below_setCells pl _ _ _ h.bel, c0 := fun g => h.c0 (up (by decide) g), c1 := fun g => h.c1 (up (by decide) g), c2 := fun g => h.c2 (up (by decide) g), c3 := fun g => h.c3 (up (by decide) g), c4 := fun g => h.c4 (up (by decide) g), c5 := fun g => h.c5 (up (by decide) g), c6 := fun g => by obtain ⟨p, e, l, k⟩ := h.c6 (up (by decide) g); exact ⟨p, e, l, World.there_setCells k _ _ _⟩, c7 := fun g => by obtain ⟨p, e, l, k⟩ := h.c7 (up (by decide) g); exact ⟨p, e, l, World.there_setCells k _ _ _⟩, ne := fun g g' => h.ne (up (by decide) g) (up (by decide) g'), c8 := fun g => by obtain ⟨q, e, k⟩ := h.c8 (up (by decide) g); exact ⟨q, e, k.apart _ (fun hq => h.ne (h.d8 (up (by decide) g)) ga (by rw [e, hq]))⟩, c9 := fun _ => ⟨p, rfl, At7.set (M.out a r s) pk⟩, d8 := fun g => on (h.d8 (up (by decide) g)), d9 := fun _ => on ga, d98 := fun _ => on (hd { on := 8, ground := .chain } (by simp) (by rfl)) }⟩
  · intro L A w hI' hr
    obtain ⟨hL, x5, x6, x9, x10, x11, x12, x13, x14, rfl, h⟩ := hI'
    have all : ∀ j, j < 10 → L.getD j false = true := all_listed (by kernel_rfl) hL hr
    obtain ⟨p, rfl, hp⟩ := h.c8 (all 8 (by decide))
    obtain ⟨q, rfl, hq⟩ := h.c9 (all 9 (by decide))
    obtain rfl := h.c0 (all 0 (by decide))
    obtain rfl := h.c1 (all 1 (by decide))
    obtain rfl := h.c2 (all 2 (by decide))
    obtain rfl := h.c3 (all 3 (by decide))
    obtain rfl := h.c4 (all 4 (by decide))
    obtain rfl := h.c5 (all 5 (by decide))
    exact fin p q w h.bel hp hq
end Go.Proofs.Ytcombmifjimkoaa
