/- The region 'x.Reads, x.Writes = append([]Read{}, c.Reads...), append([]Write{}, c.Writes...)': whatever its order, the box has rows of its own; no conditions but the lengths that it names. -/
import Derived.Test.YtacieiddhkkahaaClonA
import Derived.Test.YtacieiddhkkahaaInv
import Derived.Test.YtacieiddhkkahaaWalksO
import Derived.Sort.OwnSorted
namespace Go.Proofs.Ytacieiddhkkahaa
open Go.ChangeShapes Go.WideShapes Go.ChangeAt Go.RowKit

/-- What holds when those of L have come up. -/
structure Inv4 (w w2 : World) (b : Nat) (c : M.Cmd) (va vb : Value) (L : Array Bool) (x17 x18 x19 x20 x21 x22 x23 x24 x25 x26 : Value) (W : World) : Prop where
  be : Below w.heap.size w W
  x : Box W w.heap.size c va vb
  yb : ∃ y6 y7, Box W b c y6 y7 ∧ (L.getD 9 false = true → y6 = x20) ∧ (L.getD 11 false = true → y7 = x24)
  fz : Soft9 W b
  sz : w2.heap.size ≤ W.heap.size
  c0 : L.getD 0 false = true → L.getD 3 false = false → W.ownsRow w2.heap.size 40 3 x17 0 []
  c1 : L.getD 1 false = true → x18 = .pointer (some ⟨w.heap.size, 6, none⟩)
  c2 : L.getD 2 false = true → x19 = va
  c3 : L.getD 3 false = true → W.ownsRow w2.heap.size 40 3 x20 c.rs.length (rdsC c.rs)
  c4 : L.getD 4 false = true → L.getD 7 false = false → W.ownsRow w2.heap.size 42 2 x21 0 []
  c5 : L.getD 5 false = true → x22 = .pointer (some ⟨w.heap.size, 7, none⟩)
  c6 : L.getD 6 false = true → x23 = vb
  c7 : L.getD 7 false = true → W.ownsRow w2.heap.size 42 2 x24 c.ws.length (wrsC c.ws)
  c8 : L.getD 8 false = true → x25 = .pointer (some ⟨b, 6, none⟩)
  d9 : L.getD 9 false = true → L.getD 3 false = true
  d11 : L.getD 11 false = true → L.getD 7 false = true
  c10 : L.getD 10 false = true → x26 = .pointer (some ⟨b, 7, none⟩)

set_option maxHeartbeats 8000000 in
set_option maxRecDepth 100000 in
theorem region4 {Q : Exit → Act → World → Prop} {w w2 : World} {b : Nat} {c : M.Cmd} {A8 A9 : Option Addr} {j8 j9 : Nat} {t0 t2 t4 t5 t6 t7 t8 t9 t10 t11 t12 t13 t14 t15 t16 t27 t28 t29 t30 t31 t32 t33 t34 t35 t36 t37 t38 t39 t40 t41 t42 t43 t44 t45 t46 t47 t48 t49 t50 t51 t52 t53 t54 t55 t56 t57 t58 t59 t60 t61 t62 t63 t64 t65 t66 t67 t68 t69 t70 t71 t72 t73 t74 t75 t76 t77 t78 t79 t80 t81 t82 t83 t84 t85 t86 t87 t88 t89 t90 t91 t92 t93 t94 t95 t96 t97 t98 x17 x18 x19 x20 x21 x22 x23 x24 x25 x26 : Value} {ds : List Deferred} {z0 z1 z2 z3 z4 z5 z6 z7 z8 z9 z10 z11 : String} (h1 : Rds w (.slice A8 c.rs.length j8) c.rs) (h2 : Wrs w (.slice A9 c.ws.length j9) c.ws) (F : M.Mod c) (hx : Box w2 w.heap.size c (.slice A8 c.rs.length j8) (.slice A9 c.ws.length j9)) (hy : Box w2 b c (.slice A8 c.rs.length j8) (.slice A9 c.ws.length j9)) (hf : Soft9 w2 b) (hb : w.heap.size < b) (hB : Below w.heap.size w w2)
    (fin : ∀ (x17 x18 x19 x20 x21 x22 x23 x24 x25 x26 : Value) (A1 : Option Addr) (j1 : Nat) (D1 : Option Addr) (g1 : Nat) (W : World), Good w W b c (.slice A8 c.rs.length j8) (.slice A9 c.ws.length j9) (.slice A1 c.rs.length j1) (.slice D1 c.ws.length g1) → Q .normal ⟨#[t0, .pointer (some ⟨w.heap.size, 0, none⟩), t2, .pointer (some ⟨b, 0, none⟩), t4, t5, t6, t7, t8, t9, t10, t11, t12, t13, t14, t15, t16, x17, x18, x19, x20, x21, x22, x23, x24, x25, x26, t27, t28, t29, t30, t31, t32, t33, t34, t35, t36, t37, t38, t39, t40, t41, t42, t43, t44, t45, t46, t47, t48, t49, t50, t51, t52, t53, t54, t55, t56, t57, t58, t59, t60, t61, t62, t63, t64, t65, t66, t67, t68, t69, t70, t71, t72, t73, t74, t75, t76, t77, t78, t79, t80, t81, t82, t83, t84, t85, t86, t87, t88, t89, t90, t91, t92, t93, t94, t95, t96, t97, t98], ds⟩ W) :
    (Code.region 4 #[{ dst := some 17, op := Op.buildSlice 26 0 #[], type := 26, pos := z0, after := #[], guard := none }, { dst := some 18, op := Op.fieldAddr 29 (Operand.tmp 1) 4, type := 0, pos := z1, after := #[], guard := none }, { dst := some 19, op := Op.load 26 (Operand.tmp 18), type := 26, pos := z2, after := #[{ on := 1, ground := Ground.data }], guard := none }, { dst := some 20, op := Op.call { callee := Callee.builtin Builtin.append, args := #[Operand.tmp 17, Operand.tmp 19], argTypes := #[26, 26] }, type := 26, pos := z3, after := #[{ on := 0, ground := Ground.data }, { on := 2, ground := Ground.data }], guard := none }, { dst := some 21, op := Op.buildSlice 27 0 #[], type := 27, pos := z4, after := #[], guard := none }, { dst := some 22, op := Op.fieldAddr 29 (Operand.tmp 1) 5, type := 0, pos := z5, after := #[], guard := none }, { dst := some 23, op := Op.load 27 (Operand.tmp 22), type := 27, pos := z6, after := #[{ on := 5, ground := Ground.data }], guard := none }, { dst := some 24, op := Op.call { callee := Callee.builtin Builtin.append, args := #[Operand.tmp 21, Operand.tmp 23], argTypes := #[27, 27] }, type := 27, pos := z7, after := #[{ on := 4, ground := Ground.data }, { on := 6, ground := Ground.data }, { on := 3, ground := Ground.chain }], guard := none }, { dst := some 25, op := Op.fieldAddr 29 (Operand.tmp 3) 4, type := 0, pos := z8, after := #[{ on := 0, ground := Ground.phase }, { on := 1, ground := Ground.phase }, { on := 2, ground := Ground.phase }, { on := 3, ground := Ground.phase }, { on := 4, ground := Ground.textOnly Departure.lateStores }, { on := 5, ground := Ground.textOnly Departure.lateStores }, { on := 6, ground := Ground.textOnly Departure.lateStores }, { on := 7, ground := Ground.textOnly Departure.lateStoresUnsure }], guard := none }, { dst := none, op := Op.store 26 (Operand.tmp 25) (Operand.tmp 20), type := 0, pos := z9, after := #[{ on := 8, ground := Ground.data }, { on := 3, ground := Ground.data }, { on := 7, ground := Ground.chain }, { on := 0, ground := Ground.phase }, { on := 1, ground := Ground.phase }, { on := 2, ground := Ground.phase }, { on := 3, ground := Ground.phase }, { on := 4, ground := Ground.textOnly Departure.lateStores }, { on := 5, ground := Ground.textOnly Departure.lateStores }, { on := 6, ground := Ground.textOnly Departure.lateStores }, { on := 7, ground := Ground.textOnly Departure.lateStoresUnsure }], guard := none }, { dst := some 26, op := Op.fieldAddr 29 (Operand.tmp 3) 5, type := 0, pos := z10, after := #[{ on := 0, ground := Ground.phase }, { on := 1, ground := Ground.phase }, { on := 2, ground := Ground.phase }, { on := 3, ground := Ground.phase }, { on := 4, ground := Ground.phase }, { on := 5, ground := Ground.phase }, { on := 6, ground := Ground.phase }, { on := 7, ground := Ground.phase }, { on := 8, ground := Ground.phase }, { on := 9, ground := Ground.phase }], guard := none }, { dst := none, op := Op.store 27 (Operand.tmp 26) (Operand.tmp 24), type := 0, pos := z11, after := #[{ on := 10, ground := Ground.data }, { on := 7, ground := Ground.data }, { on := 9, ground := Ground.chain }, { on := 0, ground := Ground.phase }, { on := 1, ground := Ground.phase }, { on := 2, ground := Ground.phase }, { on := 3, ground := Ground.phase }, { on := 4, ground := Ground.phase }, { on := 5, ground := Ground.phase }, { on := 6, ground := Ground.phase }, { on := 7, ground := Ground.phase }, { on := 8, ground := Ground.phase }, { on := 9, ground := Ground.phase }], guard := none }] true).wp Try.prog Q ⟨#[t0, .pointer (some ⟨w.heap.size, 0, none⟩), t2, .pointer (some ⟨b, 0, none⟩), t4, t5, t6, t7, t8, t9, t10, t11, t12, t13, t14, t15, t16, x17, x18, x19, x20, x21, x22, x23, x24, x25, x26, t27, t28, t29, t30, t31, t32, t33, t34, t35, t36, t37, t38, t39, t40, t41, t42, t43, t44, t45, t46, t47, t48, t49, t50, t51, t52, t53, t54, t55, t56, t57, t58, t59, t60, t61, t62, t63, t64, t65, t66, t67, t68, t69, t70, t71, t72, t73, t74, t75, t76, t77, t78, t79, t80, t81, t82, t83, t84, t85, t86, t87, t88, t89, t90, t91, t92, t93, t94, t95, t96, t97, t98], ds⟩ w2 := by
  have bl := hy.lt
  have hl := F.l
  have hl' := F.l'
  let IH : Array Bool → Act → World → Prop := fun L A W => L.size = 12 ∧ ∃ x17 x18 x19 x20 x21 x22 x23 x24 x25 x26 : Value, A = ⟨#[t0, .pointer (some ⟨w.heap.size, 0, none⟩), t2, .pointer (some ⟨b, 0, none⟩), t4, t5, t6, t7, t8, t9, t10, t11, t12, t13, t14, t15, t16, x17, x18, x19, x20, x21, x22, x23, x24, x25, x26, t27, t28, t29, t30, t31, t32, t33, t34, t35, t36, t37, t38, t39, t40, t41, t42, t43, t44, t45, t46, t47, t48, t49, t50, t51, t52, t53, t54, t55, t56, t57, t58, t59, t60, t61, t62, t63, t64, t65, t66, t67, t68, t69, t70, t71, t72, t73, t74, t75, t76, t77, t78, t79, t80, t81, t82, t83, t84, t85, t86, t87, t88, t89, t90, t91, t92, t93, t94, t95, t96, t97, t98], ds⟩ ∧ Inv4 w w2 b c (.slice A8 c.rs.length j8) (.slice A9 c.ws.length j9) L x17 x18 x19 x20 x21 x22 x23 x24 x25 x26 W
  refine wp_region_inv (by kernel_rfl) IH ?_ ?_ ?_
  · refine ⟨rfl, x17, x18, x19, x20, x21, x22, x23, x24, x25, x26, rfl, ?_⟩
    have no : ∀ j, (Array.replicate 12 false).getD j false = true → False := fun j g => by
      rcases Nat.lt_or_ge j 12 with h | h
      · simp [h] at g
      · simp [Array.getElem?_eq_none (xs := Array.replicate 12 false) (by simpa using h)] at g
    have dr : Below w2.heap.size w2 w2.drew := (Below.refl _ _).drew
    exact { be := hB.drew, x := hx.on dr, yb := ⟨_, _, hy.on dr, fun g => (no _ g).elim, fun g => (no _ g).elim⟩, fz := hf.on bl dr, sz := Nat.le_refl _, c0 := fun g => (no _ g).elim, c1 := fun g => (no _ g).elim, c2 := fun g => (no _ g).elim, c3 := fun g => (no _ g).elim, c4 := fun g => (no _ g).elim, c5 := fun g => (no _ g).elim, c6 := fun g => (no _ g).elim, c7 := fun g => (no _ g).elim, c8 := fun g => (no _ g).elim, c10 := fun g => (no _ g).elim, d9 := fun g => (no _ g).elim, d11 := fun g => (no _ g).elim }
  · intro L A W hI i hi
    obtain ⟨hL, x17, x18, x19, x20, x21, x22, x23, x24, x25, x26, rfl, h⟩ := hI
    obtain ⟨hu, o, ho, hd⟩ := mem_ready.1 hi
    have hi12 : i < 12 := (Array.getElem?_eq_some_iff.1 ho).1
    have xl := h.x.lt
    have hs := h.sz
    have hi' : i = 0 ∨ i = 1 ∨ i = 2 ∨ i = 3 ∨ i = 4 ∨ i = 5 ∨ i = 6 ∨ i = 7 ∨ i = 8 ∨ i = 9 ∨ i = 10 ∨ i = 11 := by omega
    rcases hi' with rfl | rfl | rfl | rfl | rfl | rfl | rfl | rfl | rfl | rfl | rfl | rfl
    · have ho' : { dst := some 17, op := Op.buildSlice 26 0 #[], type := 26, pos := z0, after := #[], guard := none } = o := Option.some.inj ho
      subst ho'
      refine wpOp_step (o := { dst := some 17, op := Op.buildSlice 26 0 #[], type := 26, pos := z0, after := #[], guard := none }) rfl (fun K hK' => ?_)
      have hK : ∀ a w, IH (L.setIfInBounds 0 true) a w → K a w := hK'
      rw [if_pos (by rfl)]
      unfold Oper.wp
      rw [show (execOp _ _).run Try.prog W = .ok (.value (.slice (some ⟨W.heap.size, 0, none⟩) 0 0)) (W.alloc (.cells #[] 40)) from by kernel_rfl, Oper.upon_value]
      exact hK _ _ ⟨by simpa using hL, _, x18, x19, x20, x21, x22, x23, x24, x25, x26, rfl, { be := below_new h.be, x := h.x.push _, yb := by obtain ⟨y6, y7, B, e1, e2⟩ := h.yb; exact ⟨y6, y7, Box.push B _, fun g => e1 (up (by decide) g), fun g => e2 (up (by decide) g)⟩, fz := soft_push h.fz (by omega) _, sz := by simp; omega, c0 := fun _ _ => own_emptyN W 40 3 h.sz, c1 := fun g => h.c1 (up (by decide) g), c2 := fun g => h.c2 (up (by decide) g), c3 := fun g => push_own (h.c3 (up (by decide) g)) _, c4 := fun g g' => push_own (h.c4 (up (by decide) g) (upF (by decide) g')) _, c5 := fun g => h.c5 (up (by decide) g), c6 := fun g => h.c6 (up (by decide) g), c7 := fun g => push_own (h.c7 (up (by decide) g)) _, c8 := fun g => h.c8 (up (by decide) g), c10 := fun g => h.c10 (up (by decide) g), d9 := fun g => on (h.d9 (up (by decide) g)), d11 := fun g => on (h.d11 (up (by decide) g)) }⟩
    · have ho' : { dst := some 18, op := Op.fieldAddr 29 (Operand.tmp 1) 4, type := 0, pos := z1, after := #[], guard := none } = o := Option.some.inj ho
      subst ho'
      refine wpOp_step (o := { dst := some 18, op := Op.fieldAddr 29 (Operand.tmp 1) 4, type := 0, pos := z1, after := #[], guard := none }) rfl (fun K hK' => ?_)
      have hK : ∀ a w, IH (L.setIfInBounds 1 true) a w → K a w := hK'
      rw [if_pos (by rfl)]
      unfold Oper.wp
      rw [show (execOp _ _).run Try.prog W = .ok (.value (.pointer (some ⟨w.heap.size, 6, none⟩))) W from by kernel_rfl, Oper.upon_value]
      exact hK _ _ ⟨by simpa using hL, x17, _, x19, x20, x21, x22, x23, x24, x25, x26, rfl, { be := h.be, x := h.x, yb := by obtain ⟨y6, y7, B, e1, e2⟩ := h.yb; exact ⟨y6, y7, B, fun g => e1 (up (by decide) g), fun g => e2 (up (by decide) g)⟩, fz := h.fz, sz := h.sz, c0 := fun g g' => (h.c0 (up (by decide) g) (upF (by decide) g')), c1 := fun _ => rfl, c2 := fun g => h.c2 (up (by decide) g), c3 := fun g => (h.c3 (up (by decide) g)), c4 := fun g g' => (h.c4 (up (by decide) g) (upF (by decide) g')), c5 := fun g => h.c5 (up (by decide) g), c6 := fun g => h.c6 (up (by decide) g), c7 := fun g => (h.c7 (up (by decide) g)), c8 := fun g => h.c8 (up (by decide) g), c10 := fun g => h.c10 (up (by decide) g), d9 := fun g => on (h.d9 (up (by decide) g)), d11 := fun g => on (h.d11 (up (by decide) g)) }⟩
    · have ho' : { dst := some 19, op := Op.load 26 (Operand.tmp 18), type := 26, pos := z2, after := #[{ on := 1, ground := Ground.data }], guard := none } = o := Option.some.inj ho
      subst ho'
      obtain rfl := h.c1 (hd { on := 1, ground := .data } (by simp) (by rfl))
      have y := h.x.c6
      refine wpOp_step (o := { dst := some 19, op := Op.load 26 (Operand.tmp 18), type := 26, pos := z2, after := #[{ on := 1, ground := Ground.data }], guard := none }) rfl (fun K hK' => ?_)
      have hK : ∀ a w, IH (L.setIfInBounds 2 true) a w → K a w := hK'
      go_simp
      exact hK _ _ ⟨by simpa using hL, x17, _, _, x20, x21, x22, x23, x24, x25, x26, rfl, { be := h.be, x := h.x, yb := by obtain ⟨y6, y7, B, e1, e2⟩ := h.yb; exact ⟨y6, y7, B, fun g => e1 (up (by decide) g), fun g => e2 (up (by decide) g)⟩, fz := h.fz, sz := h.sz, c0 := fun g g' => (h.c0 (up (by decide) g) (upF (by decide) g')), c1 := fun g => h.c1 (up (by decide) g), c2 := fun _ => rfl, c3 := fun g => (h.c3 (up (by decide) g)), c4 := fun g g' => (h.c4 (up (by decide) g) (upF (by decide) g')), c5 := fun g => h.c5 (up (by decide) g), c6 := fun g => h.c6 (up (by decide) g), c7 := fun g => (h.c7 (up (by decide) g)), c8 := fun g => h.c8 (up (by decide) g), c10 := fun g => h.c10 (up (by decide) g), d9 := fun g => on (h.d9 (up (by decide) g)), d11 := fun g => on (h.d11 (up (by decide) g)) }⟩
    · have ho' : { dst := some 20, op := Op.call { callee := Callee.builtin Builtin.append, args := #[Operand.tmp 17, Operand.tmp 19], argTypes := #[26, 26] }, type := 26, pos := z3, after := #[{ on := 0, ground := Ground.data }, { on := 2, ground := Ground.data }], guard := none } = o := Option.some.inj ho
      subst ho'
      have o0 := h.c0 (hd { on := 0, ground := .data } (by simp) (by rfl)) (un hu)
      obtain rfl := h.c2 (hd { on := 2, ground := .data } (by simp) (by rfl))
      obtain ⟨v1, W1, r1, o1, g1⟩ := append_rds o0 (h1.below h.be) (by omega) hs
      rw [Nat.zero_add, List.nil_append] at o1
      have hn : ∀ k, k < w2.heap.size → some k ≠ x17.ownBlock := fun k hk => row_ne_low o0 hk
      refine wpOp_step (o := { dst := some 20, op := Op.call { callee := Callee.builtin Builtin.append, args := #[Operand.tmp 17, Operand.tmp 19], argTypes := #[26, 26] }, type := 26, pos := z3, after := #[{ on := 0, ground := Ground.data }, { on := 2, ground := Ground.data }], guard := none }) rfl (fun K hK' => ?_)
      have hK : ∀ a w, IH (L.setIfInBounds 3 true) a w → K a w := hK'
      refine step_append_run rfl (.tmp 17) (.tmp 19) 26 26 rfl _ _ rfl rfl _ _ r1 ?_
      exact hK _ _ ⟨by simpa using hL, x17, x18, _, _, x21, x22, x23, x24, x25, x26, rfl, { be := h.be.grown g1 (by omega) (fun k hk => by have := (o0.lt k hk).1; omega), x := h.x.far g1 (hn _ (by have := hx.lt; omega)), yb := by obtain ⟨y6, y7, B, e1, e2⟩ := h.yb; exact ⟨y6, y7, B.far g1 (hn _ bl), fun g => off hu (h.d9 (up (by decide) g)), fun g => e2 (up (by decide) g)⟩, fz := h.fz.far (by omega) g1 (hn _ bl), sz := Nat.le_trans hs g1.size, c0 := fun _ g' => onF (by omega) g', c1 := fun g => h.c1 (up (by decide) g), c2 := fun g => h.c2 (up (by decide) g), c3 := fun _ => o1, c4 := fun g g' => (h.c4 (up (by decide) g) (upF (by decide) g')).kept g1 (apart o0 (h.c4 (up (by decide) g) (upF (by decide) g'))).2, c5 := fun g => h.c5 (up (by decide) g), c6 := fun g => h.c6 (up (by decide) g), c7 := fun g => (h.c7 (up (by decide) g)).kept g1 (apart o0 (h.c7 (up (by decide) g))).2, c8 := fun g => h.c8 (up (by decide) g), c10 := fun g => h.c10 (up (by decide) g), d9 := fun g => off hu (h.d9 (up (by decide) g)), d11 := fun g => on (h.d11 (up (by decide) g)) }⟩
    · have ho' : { dst := some 21, op := Op.buildSlice 27 0 #[], type := 27, pos := z4, after := #[], guard := none } = o := Option.some.inj ho
      subst ho'
      refine wpOp_step (o := { dst := some 21, op := Op.buildSlice 27 0 #[], type := 27, pos := z4, after := #[], guard := none }) rfl (fun K hK' => ?_)
      have hK : ∀ a w, IH (L.setIfInBounds 4 true) a w → K a w := hK'
      rw [if_pos (by rfl)]
      unfold Oper.wp
      rw [show (execOp _ _).run Try.prog W = .ok (.value (.slice (some ⟨W.heap.size, 0, none⟩) 0 0)) (W.alloc (.cells #[] 42)) from by kernel_rfl, Oper.upon_value]
      exact hK _ _ ⟨by simpa using hL, x17, x18, x19, x20, _, x22, x23, x24, x25, x26, rfl, { be := below_new h.be, x := h.x.push _, yb := by obtain ⟨y6, y7, B, e1, e2⟩ := h.yb; exact ⟨y6, y7, Box.push B _, fun g => e1 (up (by decide) g), fun g => e2 (up (by decide) g)⟩, fz := soft_push h.fz (by omega) _, sz := by simp; omega, c0 := fun g g' => push_own (h.c0 (up (by decide) g) (upF (by decide) g')) _, c1 := fun g => h.c1 (up (by decide) g), c2 := fun g => h.c2 (up (by decide) g), c3 := fun g => push_own (h.c3 (up (by decide) g)) _, c4 := fun _ _ => own_emptyN W 42 2 h.sz, c5 := fun g => h.c5 (up (by decide) g), c6 := fun g => h.c6 (up (by decide) g), c7 := fun g => push_own (h.c7 (up (by decide) g)) _, c8 := fun g => h.c8 (up (by decide) g), c10 := fun g => h.c10 (up (by decide) g), d9 := fun g => on (h.d9 (up (by decide) g)), d11 := fun g => on (h.d11 (up (by decide) g)) }⟩
    · have ho' : { dst := some 22, op := Op.fieldAddr 29 (Operand.tmp 1) 5, type := 0, pos := z5, after := #[], guard := none } = o := Option.some.inj ho
      subst ho'
      refine wpOp_step (o := { dst := some 22, op := Op.fieldAddr 29 (Operand.tmp 1) 5, type := 0, pos := z5, after := #[], guard := none }) rfl (fun K hK' => ?_)
      have hK : ∀ a w, IH (L.setIfInBounds 5 true) a w → K a w := hK'
      rw [if_pos (by rfl)]
      unfold Oper.wp
      rw [show (execOp _ _).run Try.prog W = .ok (.value (.pointer (some ⟨w.heap.size, 7, none⟩))) W from by kernel_rfl, Oper.upon_value]
      exact hK _ _ ⟨by simpa using hL, x17, x18, x19, x20, x21, _, x23, x24, x25, x26, rfl, { be := h.be, x := h.x, yb := by obtain ⟨y6, y7, B, e1, e2⟩ := h.yb; exact ⟨y6, y7, B, fun g => e1 (up (by decide) g), fun g => e2 (up (by decide) g)⟩, fz := h.fz, sz := h.sz, c0 := fun g g' => (h.c0 (up (by decide) g) (upF (by decide) g')), c1 := fun g => h.c1 (up (by decide) g), c2 := fun g => h.c2 (up (by decide) g), c3 := fun g => (h.c3 (up (by decide) g)), c4 := fun g g' => (h.c4 (up (by decide) g) (upF (by decide) g')), c5 := fun _ => rfl, c6 := fun g => h.c6 (up (by decide) g), c7 := fun g => (h.c7 (up (by decide) g)), c8 := fun g => h.c8 (up (by decide) g), c10 := fun g => h.c10 (up (by decide) g), d9 := fun g => on (h.d9 (up (by decide) g)), d11 := fun g => on (h.d11 (up (by decide) g)) }⟩
    · have ho' : { dst := some 23, op := Op.load 27 (Operand.tmp 22), type := 27, pos := z6, after := #[{ on := 5, ground := Ground.data }], guard := none } = o := Option.some.inj ho
      subst ho'
      obtain rfl := h.c5 (hd { on := 5, ground := .data } (by simp) (by rfl))
      have y := h.x.c7
      refine wpOp_step (o := { dst := some 23, op := Op.load 27 (Operand.tmp 22), type := 27, pos := z6, after := #[{ on := 5, ground := Ground.data }], guard := none }) rfl (fun K hK' => ?_)
      have hK : ∀ a w, IH (L.setIfInBounds 6 true) a w → K a w := hK'
      go_simp
      exact hK _ _ ⟨by simpa using hL, x17, x18, x19, x20, x21, _, _, x24, x25, x26, rfl, { be := h.be, x := h.x, yb := by obtain ⟨y6, y7, B, e1, e2⟩ := h.yb; exact ⟨y6, y7, B, fun g => e1 (up (by decide) g), fun g => e2 (up (by decide) g)⟩, fz := h.fz, sz := h.sz, c0 := fun g g' => (h.c0 (up (by decide) g) (upF (by decide) g')), c1 := fun g => h.c1 (up (by decide) g), c2 := fun g => h.c2 (up (by decide) g), c3 := fun g => (h.c3 (up (by decide) g)), c4 := fun g g' => (h.c4 (up (by decide) g) (upF (by decide) g')), c5 := fun g => h.c5 (up (by decide) g), c6 := fun _ => rfl, c7 := fun g => (h.c7 (up (by decide) g)), c8 := fun g => h.c8 (up (by decide) g), c10 := fun g => h.c10 (up (by decide) g), d9 := fun g => on (h.d9 (up (by decide) g)), d11 := fun g => on (h.d11 (up (by decide) g)) }⟩
    · have ho' : { dst := some 24, op := Op.call { callee := Callee.builtin Builtin.append, args := #[Operand.tmp 21, Operand.tmp 23], argTypes := #[27, 27] }, type := 27, pos := z7, after := #[{ on := 4, ground := Ground.data }, { on := 6, ground := Ground.data }, { on := 3, ground := Ground.chain }], guard := none } = o := Option.some.inj ho
      subst ho'
      have o0 := h.c4 (hd { on := 4, ground := .data } (by simp) (by rfl)) (un hu)
      obtain rfl := h.c6 (hd { on := 6, ground := .data } (by simp) (by rfl))
      obtain ⟨v1, W1, r1, o1, g1⟩ := append_wrs o0 (h2.below h.be) (by omega) hs
      rw [Nat.zero_add, List.nil_append] at o1
      have hn : ∀ k, k < w2.heap.size → some k ≠ x21.ownBlock := fun k hk => row_ne_low o0 hk
      refine wpOp_step (o := { dst := some 24, op := Op.call { callee := Callee.builtin Builtin.append, args := #[Operand.tmp 21, Operand.tmp 23], argTypes := #[27, 27] }, type := 27, pos := z7, after := #[{ on := 4, ground := Ground.data }, { on := 6, ground := Ground.data }, { on := 3, ground := Ground.chain }], guard := none }) rfl (fun K hK' => ?_)
      have hK : ∀ a w, IH (L.setIfInBounds 7 true) a w → K a w := hK'
      refine step_append_run rfl (.tmp 21) (.tmp 23) 27 27 rfl _ _ rfl rfl _ _ r1 ?_
      exact hK _ _ ⟨by simpa using hL, x17, x18, x19, x20, x21, x22, _, _, x25, x26, rfl, { be := h.be.grown g1 (by omega) (fun k hk => by have := (o0.lt k hk).1; omega), x := h.x.far g1 (hn _ (by have := hx.lt; omega)), yb := by obtain ⟨y6, y7, B, e1, e2⟩ := h.yb; exact ⟨y6, y7, B.far g1 (hn _ bl), fun g => e1 (up (by decide) g), fun g => off hu (h.d11 (up (by decide) g))⟩, fz := h.fz.far (by omega) g1 (hn _ bl), sz := Nat.le_trans hs g1.size, c0 := fun g g' => (h.c0 (up (by decide) g) (upF (by decide) g')).kept g1 (apart (h.c0 (up (by decide) g) (upF (by decide) g')) o0).1, c1 := fun g => h.c1 (up (by decide) g), c2 := fun g => h.c2 (up (by decide) g), c3 := fun g => (h.c3 (up (by decide) g)).kept g1 (apart (h.c3 (up (by decide) g)) o0).1, c4 := fun _ g' => onF (by omega) g', c5 := fun g => h.c5 (up (by decide) g), c6 := fun g => h.c6 (up (by decide) g), c7 := fun _ => o1, c8 := fun g => h.c8 (up (by decide) g), c10 := fun g => h.c10 (up (by decide) g), d9 := fun g => on (h.d9 (up (by decide) g)), d11 := fun g => off hu (h.d11 (up (by decide) g)) }⟩
    · have ho' : { dst := some 25, op := Op.fieldAddr 29 (Operand.tmp 3) 4, type := 0, pos := z8, after := #[{ on := 0, ground := Ground.phase }, { on := 1, ground := Ground.phase }, { on := 2, ground := Ground.phase }, { on := 3, ground := Ground.phase }, { on := 4, ground := Ground.textOnly Departure.lateStores }, { on := 5, ground := Ground.textOnly Departure.lateStores }, { on := 6, ground := Ground.textOnly Departure.lateStores }, { on := 7, ground := Ground.textOnly Departure.lateStoresUnsure }], guard := none } = o := Option.some.inj ho
      subst ho'
      refine wpOp_step (o := { dst := some 25, op := Op.fieldAddr 29 (Operand.tmp 3) 4, type := 0, pos := z8, after := #[{ on := 0, ground := Ground.phase }, { on := 1, ground := Ground.phase }, { on := 2, ground := Ground.phase }, { on := 3, ground := Ground.phase }, { on := 4, ground := Ground.textOnly Departure.lateStores }, { on := 5, ground := Ground.textOnly Departure.lateStores }, { on := 6, ground := Ground.textOnly Departure.lateStores }, { on := 7, ground := Ground.textOnly Departure.lateStoresUnsure }], guard := none }) rfl (fun K hK' => ?_)
      have hK : ∀ a w, IH (L.setIfInBounds 8 true) a w → K a w := hK'
      rw [if_pos (by rfl)]
      unfold Oper.wp
      rw [show (execOp _ _).run Try.prog W = .ok (.value (.pointer (some ⟨b, 6, none⟩))) W from by kernel_rfl, Oper.upon_value]
      exact hK _ _ ⟨by simpa using hL, x17, x18, x19, x20, x21, x22, x23, x24, _, x26, rfl, { be := h.be, x := h.x, yb := by obtain ⟨y6, y7, B, e1, e2⟩ := h.yb; exact ⟨y6, y7, B, fun g => e1 (up (by decide) g), fun g => e2 (up (by decide) g)⟩, fz := h.fz, sz := h.sz, c0 := fun g g' => (h.c0 (up (by decide) g) (upF (by decide) g')), c1 := fun g => h.c1 (up (by decide) g), c2 := fun g => h.c2 (up (by decide) g), c3 := fun g => (h.c3 (up (by decide) g)), c4 := fun g g' => (h.c4 (up (by decide) g) (upF (by decide) g')), c5 := fun g => h.c5 (up (by decide) g), c6 := fun g => h.c6 (up (by decide) g), c7 := fun g => (h.c7 (up (by decide) g)), c8 := fun _ => rfl, c10 := fun g => h.c10 (up (by decide) g), d9 := fun g => on (h.d9 (up (by decide) g)), d11 := fun g => on (h.d11 (up (by decide) g)) }⟩
    · have ho' : { dst := none, op := Op.store 26 (Operand.tmp 25) (Operand.tmp 20), type := 0, pos := z9, after := #[{ on := 8, ground := Ground.data }, { on := 3, ground := Ground.data }, { on := 7, ground := Ground.chain }, { on := 0, ground := Ground.phase }, { on := 1, ground := Ground.phase }, { on := 2, ground := Ground.phase }, { on := 3, ground := Ground.phase }, { on := 4, ground := Ground.textOnly Departure.lateStores }, { on := 5, ground := Ground.textOnly Departure.lateStores }, { on := 6, ground := Ground.textOnly Departure.lateStores }, { on := 7, ground := Ground.textOnly Departure.lateStoresUnsure }], guard := none } = o := Option.some.inj ho
      subst ho'
      obtain rfl := h.c8 (hd { on := 8, ground := .data } (by simp) (by rfl))
      have o1 := h.c3 (hd { on := 3, ground := .data } (by simp) (by rfl))
      obtain ⟨A1, j1, rfl⟩ := ownsRow_slice o1
      obtain ⟨y6, y7, B, e1, e2⟩ := h.yb
      have y := B.c6
      have z := h.fz 6
      refine wpOp_step (o := { dst := none, op := Op.store 26 (Operand.tmp 25) (Operand.tmp 20), type := 0, pos := z9, after := #[{ on := 8, ground := Ground.data }, { on := 3, ground := Ground.data }, { on := 7, ground := Ground.chain }, { on := 0, ground := Ground.phase }, { on := 1, ground := Ground.phase }, { on := 2, ground := Ground.phase }, { on := 3, ground := Ground.phase }, { on := 4, ground := Ground.textOnly Departure.lateStores }, { on := 5, ground := Ground.textOnly Departure.lateStores }, { on := 6, ground := Ground.textOnly Departure.lateStores }, { on := 7, ground := Ground.textOnly Departure.lateStoresUnsure }], guard := none }) rfl (fun K hK' => ?_)
      have hK : ∀ a w, IH (L.setIfInBounds 9 true) a w → K a w := hK'
      go_simp
      exact hK _ _ ⟨by simpa using hL, x17, x18, x19, _, x21, x22, x23, x24, _, x26, rfl, { be := h.be.setCell (by show w.heap.size ≤ b; omega) _, x := h.x.far (grown_set W ⟨b, 6, none⟩ _) (fun e => by have e : w.heap.size = b := Option.some.inj e; omega), yb := ⟨_, y7, B.set6 _, fun _ => rfl, fun g => e2 (up (by decide) g)⟩, fz := fun o => by rw [World.frozen?_setCell]; exact h.fz o, sz := by simpa [World.setCell] using hs, c0 := fun g g' => ownsRow_set (h.c0 (up (by decide) g) (upF (by decide) g')) bl _, c1 := fun g => h.c1 (up (by decide) g), c2 := fun g => h.c2 (up (by decide) g), c3 := fun g => ownsRow_set (h.c3 (up (by decide) g)) bl _, c4 := fun g g' => ownsRow_set (h.c4 (up (by decide) g) (upF (by decide) g')) bl _, c5 := fun g => h.c5 (up (by decide) g), c6 := fun g => h.c6 (up (by decide) g), c7 := fun g => ownsRow_set (h.c7 (up (by decide) g)) bl _, c8 := fun g => h.c8 (up (by decide) g), c10 := fun g => h.c10 (up (by decide) g), d9 := fun _ => on (hd { on := 3, ground := .data } (by simp) (by rfl)), d11 := fun g => on (h.d11 (up (by decide) g)) }⟩
    · have ho' : { dst := some 26, op := Op.fieldAddr 29 (Operand.tmp 3) 5, type := 0, pos := z10, after := #[{ on := 0, ground := Ground.phase }, { on := 1, ground := Ground.phase }, { on := 2, ground := Ground.phase }, { on := 3, ground := Ground.phase }, { on := 4, ground := Ground.phase }, { on := 5, ground := Ground.phase }, { on := 6, ground := Ground.phase }, { on := 7, ground := Ground.phase }, { on := 8, ground := Ground.phase }, { on := 9, ground := Ground.phase }], guard := none } = o := Option.some.inj ho
      subst ho'
      refine wpOp_step (o := { dst := some 26, op := Op.fieldAddr 29 (Operand.tmp 3) 5, type := 0, pos := z10, after := #[{ on := 0, ground := Ground.phase }, { on := 1, ground := Ground.phase }, { on := 2, ground := Ground.phase }, { on := 3, ground := Ground.phase }, { on := 4, ground := Ground.phase }, { on := 5, ground := Ground.phase }, { on := 6, ground := Ground.phase }, { on := 7, ground := Ground.phase }, { on := 8, ground := Ground.phase }, { on := 9, ground := Ground.phase }], guard := none }) rfl (fun K hK' => ?_)
      have hK : ∀ a w, IH (L.setIfInBounds 10 true) a w → K a w := hK'
      rw [if_pos (by rfl)]
      unfold Oper.wp
      rw [show (execOp _ _).run Try.prog W = .ok (.value (.pointer (some ⟨b, 7, none⟩))) W from by kernel_rfl, Oper.upon_value]
      exact hK _ _ ⟨by simpa using hL, x17, x18, x19, x20, x21, x22, x23, x24, x25, _, rfl, { be := h.be, x := h.x, yb := by obtain ⟨y6, y7, B, e1, e2⟩ := h.yb; exact ⟨y6, y7, B, fun g => e1 (up (by decide) g), fun g => e2 (up (by decide) g)⟩, fz := h.fz, sz := h.sz, c0 := fun g g' => (h.c0 (up (by decide) g) (upF (by decide) g')), c1 := fun g => h.c1 (up (by decide) g), c2 := fun g => h.c2 (up (by decide) g), c3 := fun g => (h.c3 (up (by decide) g)), c4 := fun g g' => (h.c4 (up (by decide) g) (upF (by decide) g')), c5 := fun g => h.c5 (up (by decide) g), c6 := fun g => h.c6 (up (by decide) g), c7 := fun g => (h.c7 (up (by decide) g)), c8 := fun g => h.c8 (up (by decide) g), c10 := fun _ => rfl, d9 := fun g => on (h.d9 (up (by decide) g)), d11 := fun g => on (h.d11 (up (by decide) g)) }⟩
    · have ho' : { dst := none, op := Op.store 27 (Operand.tmp 26) (Operand.tmp 24), type := 0, pos := z11, after := #[{ on := 10, ground := Ground.data }, { on := 7, ground := Ground.data }, { on := 9, ground := Ground.chain }, { on := 0, ground := Ground.phase }, { on := 1, ground := Ground.phase }, { on := 2, ground := Ground.phase }, { on := 3, ground := Ground.phase }, { on := 4, ground := Ground.phase }, { on := 5, ground := Ground.phase }, { on := 6, ground := Ground.phase }, { on := 7, ground := Ground.phase }, { on := 8, ground := Ground.phase }, { on := 9, ground := Ground.phase }], guard := none } = o := Option.some.inj ho
      subst ho'
      obtain rfl := h.c10 (hd { on := 10, ground := .data } (by simp) (by rfl))
      have o1 := h.c7 (hd { on := 7, ground := .data } (by simp) (by rfl))
      obtain ⟨A1, j1, rfl⟩ := ownsRow_slice o1
      obtain ⟨y6, y7, B, e1, e2⟩ := h.yb
      have y := B.c7
      have z := h.fz 7
      refine wpOp_step (o := { dst := none, op := Op.store 27 (Operand.tmp 26) (Operand.tmp 24), type := 0, pos := z11, after := #[{ on := 10, ground := Ground.data }, { on := 7, ground := Ground.data }, { on := 9, ground := Ground.chain }, { on := 0, ground := Ground.phase }, { on := 1, ground := Ground.phase }, { on := 2, ground := Ground.phase }, { on := 3, ground := Ground.phase }, { on := 4, ground := Ground.phase }, { on := 5, ground := Ground.phase }, { on := 6, ground := Ground.phase }, { on := 7, ground := Ground.phase }, { on := 8, ground := Ground.phase }, { on := 9, ground := Ground.phase }], guard := none }) rfl (fun K hK' => ?_)
      have hK : ∀ a w, IH (L.setIfInBounds 11 true) a w → K a w := hK'
      go_simp
      exact hK _ _ ⟨by simpa using hL, x17, x18, x19, x20, x21, x22, x23, _, x25, _, rfl, { be := h.be.setCell (by show w.heap.size ≤ b; omega) _, x := h.x.far (grown_set W ⟨b, 7, none⟩ _) (fun e => by have e : w.heap.size = b := Option.some.inj e; omega), yb := ⟨y6, _, B.set7 _, fun g => e1 (up (by decide) g), fun _ => rfl⟩, fz := fun o => by rw [World.frozen?_setCell]; exact h.fz o, sz := by simpa [World.setCell] using hs, c0 := fun g g' => ownsRow_set (h.c0 (up (by decide) g) (upF (by decide) g')) bl _, c1 := fun g => h.c1 (up (by decide) g), c2 := fun g => h.c2 (up (by decide) g), c3 := fun g => ownsRow_set (h.c3 (up (by decide) g)) bl _, c4 := fun g g' => ownsRow_set (h.c4 (up (by decide) g) (upF (by decide) g')) bl _, c5 := fun g => h.c5 (up (by decide) g), c6 := fun g => h.c6 (up (by decide) g), c7 := fun g => ownsRow_set (h.c7 (up (by decide) g)) bl _, c8 := fun g => h.c8 (up (by decide) g), c10 := fun g => h.c10 (up (by decide) g), d9 := fun g => on (h.d9 (up (by decide) g)), d11 := fun _ => on (hd { on := 7, ground := .data } (by simp) (by rfl)) }⟩
  · intro L A W hI hr
    obtain ⟨hL, x17, x18, x19, x20, x21, x22, x23, x24, x25, x26, rfl, h⟩ := hI
    have all : ∀ j, j < 12 → L.getD j false = true := all_listed (by kernel_rfl) hL hr
    have o1 := h.c3 (all 3 (by decide))
    have o2 := h.c7 (all 7 (by decide))
    obtain ⟨y6, y7, B, e1, e2⟩ := h.yb
    obtain rfl := e1 (all 9 (by decide))
    obtain rfl := e2 (all 11 (by decide))
    obtain ⟨A1, j1, rfl⟩ := ownsRow_slice o1
    obtain ⟨D1, g1, rfl⟩ := ownsRow_slice o2
    exact fin _ _ _ _ _ _ _ _ _ _ A1 j1 D1 g1 W ⟨h.x, B, h1.below h.be, h2.below h.be, RowN.of_owns o1, RowN.of_owns o2, h.be⟩
end Go.Proofs.Ytacieiddhkkahaa
