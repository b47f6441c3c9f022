/- A region that draws its order, with calls of own: whatever its order, what it leaves; no conditions but those that it names. -/
import Derived.Test.YtgaglcfoodbcfaaReg
import Derived.Test.YtgaglcfoodbcfaaRgn
import Derived.Sort.OwnSorted
namespace Go.Proofs.Ytgaglcfoodbcfaa
open Go.ChangeShapes Go.WideShapes Go.ChangeAt Go.RowKit
/-- What holds when those of L have come up. -/
structure Ireg8 (w0 : World) (X : List Rv) (A : Option Addr) (n0 cap0 : Nat) (i1 i2 : Int) (c : M.Cmd) (A5 A6 : Option Addr) (c5 c6 : Nat) (p : Int) (d : Nat → Int) (r : M.Rec) (A3 A4 : Option Addr) (c3 c4 : Nat) (nn : Int) (nd : Nat → Int) (L : Array Bool) (x10 x49 x50 x51 x52 x53 x54 x55 : Value) (W : World) : Prop where
  be : Below w0.heap.size w0 W
  f0 : L.getD 0 false = true → x49 = (.slice A n0 cap0)
  f2 : L.getD 2 false = true → x51 = (.agg #[.int .i64 r.ir, .int .i64 r.is, .int .i64 r.st, .int .i64 r.pn, .int .i64 r.pr, .int .i64 r.bn, .int .i64 r.br, .int .i64 r.c.k, .int .i64 r.c.tc, .int .i64 r.c.tn, .int .i64 r.c.tt, .int .i64 r.c.tk, .int .i64 r.c.sh, (.slice A3 r.c.rs.length c3), (.slice A4 r.c.ws.length c4), .bool r.c.cm, .int .i64 r.sq, .int .i64 r.d0, .int .i64 r.d1, .int .i64 r.d2, .int .i64 r.d3, .int .i64 r.d4, .int .i64 r.d5, .int .i64 r.d6, .bool r.kp])
  f5 : L.getD 5 false = true → x54 = (.int .i64 p)
  f6 : L.getD 6 false = true → x55 = (.int .i64 nn)
  f7 : L.getD 7 false = true → x10 = (.int .i64 nn)
  co : L.getD 1 false = true → L.getD 4 false = false → ∃ Y, rcs Y = rcs X ∧ OwnRows W w0.heap.size x50 Y
  cb : L.getD 3 false = true → L.getD 4 false = false → ∃ q, x52 = .slice (some ⟨q, 0, none⟩) 1 1 ∧ Hold W q 44 [.int .i64 r.ir, .int .i64 r.is, .int .i64 r.st, .int .i64 r.pn, .int .i64 r.pr, .int .i64 r.bn, .int .i64 r.br, .int .i64 r.c.k, .int .i64 r.c.tc, .int .i64 r.c.tn, .int .i64 r.c.tt, .int .i64 r.c.tk, .int .i64 r.c.sh, (.slice A3 r.c.rs.length c3), (.slice A4 r.c.ws.length c4), .bool r.c.cm, .int .i64 r.sq, .int .i64 r.d0, .int .i64 r.d1, .int .i64 r.d2, .int .i64 r.d3, .int .i64 r.d4, .int .i64 r.d5, .int .i64 r.d6, .bool r.kp]
  ca : L.getD 4 false = true → L.getD 6 false = false → ∃ Y, rcs Y = rcs (X ++ [⟨r, .slice A3 r.c.rs.length c3, .slice A4 r.c.ws.length c4⟩]) ∧ Rows W x53 Y
set_option maxHeartbeats 8000000 in
set_option maxRecDepth 100000 in
theorem reg8 {Q : Exit → Act → World → Prop} {w0 : World} {X : List Rv} {A : Option Addr} {n0 cap0 : Nat} {i1 i2 : Int} {c : M.Cmd} {A5 A6 : Option Addr} {c5 c6 : Nat} {p : Int} {d : Nat → Int} {r : M.Rec} {A3 A4 : Option Addr} {c3 c4 : Nat} {br : Nat} {nn : Int} {nd : Nat → Int} {t1 t3 t5 t6 t7 t8 t9 t11 t12 t13 t14 t15 t16 t17 t18 t19 t20 t21 t22 t23 t24 t25 t26 t27 t28 t29 t30 t31 t32 t33 t34 t35 t36 t37 t38 t39 t40 t41 t42 t43 t44 t45 t46 t47 t48 t56 t57 t58 t59 t60 t61 t62 t63 t64 t65 t66 t67 t68 t69 t70 t71 t72 t73 t74 t75 t76 t77 x10 x49 x50 x51 x52 x53 x54 x55 : Value} {ds : List Deferred} {z0 z1 z2 z3 z4 z5 z6 z7 : String} (hR : Rows w0 (.slice A n0 cap0) X) (hl : X.length ≤ 999) (hm : ∀ y ∈ (X ++ [⟨r, .slice A3 r.c.rs.length c3, .slice A4 r.c.ws.length c4⟩]), M.Mod y.r.c) (hX : w0.rangeAt br 0 [.int .i64 r.ir, .int .i64 r.is, .int .i64 r.st, .int .i64 r.pn, .int .i64 r.pr, .int .i64 r.bn, .int .i64 r.br, .int .i64 r.c.k, .int .i64 r.c.tc, .int .i64 r.c.tn, .int .i64 r.c.tt, .int .i64 r.c.tk, .int .i64 r.c.sh, (.slice A3 r.c.rs.length c3), (.slice A4 r.c.ws.length c4), .bool r.c.cm, .int .i64 r.sq, .int .i64 r.d0, .int .i64 r.d1, .int .i64 r.d2, .int .i64 r.d3, .int .i64 r.d4, .int .i64 r.d5, .int .i64 r.d6, .bool r.kp]) (hXl : br < w0.heap.size) (hT : Txt w0 ⟨r, .slice A3 r.c.rs.length c3, .slice A4 r.c.ws.length c4⟩) (hn : nn = nextSlot p (rcs (X ++ [⟨r, .slice A3 r.c.rs.length c3, .slice A4 r.c.ws.length c4⟩])))
    (fin : ∀ (x49 x50 x51 x52 x53 x54 x55 : Value) (W : World), Below w0.heap.size w0 W → Q .normal ⟨#[.slice A n0 cap0, t1, .int .i64 p, t3, .pointer (some ⟨br, 0, none⟩), t5, t6, t7, t8, t9, .int .i64 nn, t11, t12, t13, t14, t15, t16, t17, t18, t19, t20, t21, t22, t23, t24, t25, t26, t27, t28, t29, t30, t31, t32, t33, t34, t35, t36, t37, t38, t39, t40, t41, t42, t43, t44, t45, t46, t47, t48, x49, x50, x51, x52, x53, x54, x55, t56, t57, t58, t59, t60, t61, t62, t63, t64, t65, t66, t67, t68, t69, t70, t71, t72, t73, t74, t75, t76, t77], ds⟩ W) :
    (Code.region 10 #[{ dst := some 49, op := Op.move (Operand.tmp 0), type := 22, pos := z0, after := #[], guard := none }, { dst := some 50, op := Op.call { callee := Callee.value (Operand.func 13), args := #[Operand.tmp 49], argTypes := #[22] }, type := 22, pos := z1, after := #[{ on := 0, ground := Ground.data }], guard := none }, { dst := some 51, op := Op.load 44 (Operand.tmp 4), type := 44, pos := z2, after := #[], guard := none }, { dst := some 52, op := Op.buildSlice 22 1 #[(0, Operand.tmp 51)], type := 22, pos := z3, after := #[{ on := 2, ground := Ground.data }], guard := none }, { dst := some 53, op := Op.call { callee := Callee.builtin Builtin.append, args := #[Operand.tmp 50, Operand.tmp 52], argTypes := #[22, 22] }, type := 22, pos := z4, after := #[{ on := 1, ground := Ground.data }, { on := 3, ground := Ground.data }, { on := 1, ground := Ground.chain }], guard := none }, { dst := some 54, op := Op.move (Operand.tmp 2), type := 3, pos := z5, after := #[], guard := none }, { dst := some 55, op := Op.call { callee := Callee.value (Operand.func 19), args := #[Operand.tmp 53, Operand.tmp 54], argTypes := #[22, 3] }, type := 3, pos := z6, after := #[{ on := 4, ground := Ground.data }, { on := 5, ground := Ground.data }, { on := 4, ground := Ground.chain }], guard := none }, { dst := some 10, op := Op.assign (Operand.tmp 55), type := 3, pos := z7, after := #[{ on := 6, ground := Ground.data }, { on := 6, ground := Ground.chain }, { on := 0, ground := Ground.phase }, { on := 1, ground := Ground.phase }, { on := 2, ground := Ground.phase }, { on := 3, ground := Ground.phase }, { on := 4, ground := Ground.phase }, { on := 5, ground := Ground.phase }, { on := 6, ground := Ground.phase }], guard := none }] true).wp Try.prog Q ⟨#[.slice A n0 cap0, t1, .int .i64 p, t3, .pointer (some ⟨br, 0, none⟩), t5, t6, t7, t8, t9, x10, t11, t12, t13, t14, t15, t16, t17, t18, t19, t20, t21, t22, t23, t24, t25, t26, t27, t28, t29, t30, t31, t32, t33, t34, t35, t36, t37, t38, t39, t40, t41, t42, t43, t44, t45, t46, t47, t48, x49, x50, x51, x52, x53, x54, x55, t56, t57, t58, t59, t60, t61, t62, t63, t64, t65, t66, t67, t68, t69, t70, t71, t72, t73, t74, t75, t76, t77], ds⟩ w0 := by
  have hmX : ∀ y ∈ X, M.Mod y.r.c := fun y hy => hm y (List.mem_append_left _ hy)
  let IH : Array Bool → Act → World → Prop := fun L A' W => L.size = 8 ∧ ∃ x10 x49 x50 x51 x52 x53 x54 x55 : Value, A' = ⟨#[.slice A n0 cap0, t1, .int .i64 p, t3, .pointer (some ⟨br, 0, none⟩), t5, t6, t7, t8, t9, x10, t11, t12, t13, t14, t15, t16, t17, t18, t19, t20, t21, t22, t23, t24, t25, t26, t27, t28, t29, t30, t31, t32, t33, t34, t35, t36, t37, t38, t39, t40, t41, t42, t43, t44, t45, t46, t47, t48, x49, x50, x51, x52, x53, x54, x55, t56, t57, t58, t59, t60, t61, t62, t63, t64, t65, t66, t67, t68, t69, t70, t71, t72, t73, t74, t75, t76, t77], ds⟩ ∧ Ireg8 w0 X A n0 cap0 i1 i2 c A5 A6 c5 c6 p d r A3 A4 c3 c4 nn nd L x10 x49 x50 x51 x52 x53 x54 x55 W
  refine wp_region_inv (by kernel_rfl) IH ?_ ?_ ?_
  · refine ⟨rfl, x10, x49, x50, x51, x52, x53, x54, x55, rfl, ?_⟩
    have no : ∀ j, (Array.replicate 8 false).getD j false = true → False := fun j g => by
      rcases Nat.lt_or_ge j 8 with h | h
      · simp [h] at g
      · simp [Array.getElem?_eq_none (xs := Array.replicate 8 false) (by simpa using h)] at g
    exact { be := (Below.refl _ _).drew, f0 := fun g => (no _ g).elim, f2 := fun g => (no _ g).elim, f5 := fun g => (no _ g).elim, f6 := fun g => (no _ g).elim, f7 := fun g => (no _ g).elim, co := fun g => (no _ g).elim, cb := fun g => (no _ g).elim, ca := fun g => (no _ g).elim }
  · intro L A' W hI i hi
    obtain ⟨hL, x10, x49, x50, x51, x52, x53, x54, x55, rfl, h⟩ := hI
    obtain ⟨hu, o, ho, hdd⟩ := mem_ready.1 hi
    have hin : i < 8 := (Array.getElem?_eq_some_iff.1 ho).1
    have hi' : i = 0 ∨ i = 1 ∨ i = 2 ∨ i = 3 ∨ i = 4 ∨ i = 5 ∨ i = 6 ∨ i = 7 := by omega
    rcases hi' with rfl | rfl | rfl | rfl | rfl | rfl | rfl | rfl
    · have ho' : { dst := some 49, op := Op.move (Operand.tmp 0), type := 22, pos := z0, after := #[], guard := none } = o := Option.some.inj ho
      subst ho'
      refine wpOp_step (o := { dst := some 49, op := Op.move (Operand.tmp 0), type := 22, pos := z0, after := #[], guard := none }) rfl (fun K hK' => ?_)
      have hK : ∀ a w, IH (L.setIfInBounds 0 true) a w → K a w := hK'
      rw [if_pos (by rfl)]
      unfold Oper.wp
      rw [show (execOp _ _).run Try.prog W = .ok (.value (.slice A n0 cap0)) W from by kernel_rfl, Oper.upon_value]
      exact hK _ _ ⟨by simpa using hL, x10, _, x50, x51, x52, x53, x54, x55, rfl, { be := h.be, f0 := fun _ => rfl, f2 := fun g => h.f2 (up (by decide) g), f5 := fun g => h.f5 (up (by decide) g), f6 := fun g => h.f6 (up (by decide) g), f7 := fun g => h.f7 (up (by decide) g), co := fun g g' => by obtain ⟨Y, e, k⟩ := h.co (up (by decide) g) (upF (by decide) g'); exact ⟨Y, e, k.below (Below.refl _ _)⟩, cb := fun g g' => by obtain ⟨q, e, k⟩ := h.cb (up (by decide) g) (upF (by decide) g'); exact ⟨q, e, k.on (Below.refl _ _)⟩, ca := fun g g' => by obtain ⟨Y, e, k⟩ := h.ca (up (by decide) g) (upF (by decide) g'); exact ⟨Y, e, k.below (Below.refl _ _)⟩ }⟩
    · have ho' : { dst := some 50, op := Op.call { callee := Callee.value (Operand.func 13), args := #[Operand.tmp 49], argTypes := #[22] }, type := 22, pos := z1, after := #[{ on := 0, ground := Ground.data }], guard := none } = o := Option.some.inj ho
      subst ho'
      obtain rfl := h.f0 (hdd { on := 0, ground := .data } (by simp) (by rfl))
      refine wpOp_step (o := { dst := some 50, op := Op.call { callee := Callee.value (Operand.func 13), args := #[Operand.tmp 49], argTypes := #[22] }, type := 22, pos := z1, after := #[{ on := 0, ground := Ground.data }], guard := none }) rfl (fun K hK' => ?_)
      have hK : ∀ a w, IH (L.setIfInBounds 1 true) a w → K a w := hK'
      rw [if_pos (by rfl)]
      unfold Oper.wp
      rw [show (execOp _ _).run Try.prog W = .ok (.enter 13 #[.slice A n0 cap0]) W from by kernel_rfl, Oper.upon_enter]
      refine (own_any (hR.below h.be) (by omega) (hmX)).mono fun e w'' hh => ?_
      obtain ⟨u, Y, rfl, hy, hoo, hb⟩ := hh
      exact hK _ _ ⟨by simpa using hL, x10, _, _, x51, x52, x53, x54, x55, rfl, { be := h.be.trans (hb.mono h.be.size), f0 := fun g => h.f0 (up (by decide) g), f2 := fun g => h.f2 (up (by decide) g), f5 := fun g => h.f5 (up (by decide) g), f6 := fun g => h.f6 (up (by decide) g), f7 := fun g => h.f7 (up (by decide) g), co := fun _ _ => ⟨Y, hy.out, hoo.mono h.be.size⟩, cb := fun g g' => by obtain ⟨q, e, k⟩ := h.cb (up (by decide) g) (upF (by decide) g'); exact ⟨q, e, k.on hb⟩, ca := fun g g' => by obtain ⟨Y, e, k⟩ := h.ca (up (by decide) g) (upF (by decide) g'); exact ⟨Y, e, k.below hb⟩ }⟩
    · have ho' : { dst := some 51, op := Op.load 44 (Operand.tmp 4), type := 44, pos := z2, after := #[], guard := none } = o := Option.some.inj ho
      subst ho'
      refine wpOp_step (o := { dst := some 51, op := Op.load 44 (Operand.tmp 4), type := 44, pos := z2, after := #[], guard := none }) rfl (fun K hK' => ?_)
      have hK : ∀ a w, IH (L.setIfInBounds 2 true) a w → K a w := hK'
      have hrw := range_on hXl hX h.be
      refine step_load rfl 44 (.tmp 4) rfl br 0 rfl [.int .i64 r.ir, .int .i64 r.is, .int .i64 r.st, .int .i64 r.pn, .int .i64 r.pr, .int .i64 r.bn, .int .i64 r.br, .int .i64 r.c.k, .int .i64 r.c.tc, .int .i64 r.c.tn, .int .i64 r.c.tt, .int .i64 r.c.tk, .int .i64 r.c.sh, (.slice A3 r.c.rs.length c3), (.slice A4 r.c.ws.length c4), .bool r.c.cm, .int .i64 r.sq, .int .i64 r.d0, .int .i64 r.d1, .int .i64 r.d2, .int .i64 r.d3, .int .i64 r.d4, .int .i64 r.d5, .int .i64 r.d6, .bool r.kp] _ hrw Try.underlying44 rfl (by kernel_rfl) ?_
      exact hK _ _ ⟨by simpa using hL, x10, x49, x50, _, x52, x53, x54, x55, rfl, { be := h.be, f0 := fun g => h.f0 (up (by decide) g), f2 := fun _ => rfl, f5 := fun g => h.f5 (up (by decide) g), f6 := fun g => h.f6 (up (by decide) g), f7 := fun g => h.f7 (up (by decide) g), co := fun g g' => by obtain ⟨Y, e, k⟩ := h.co (up (by decide) g) (upF (by decide) g'); exact ⟨Y, e, k.below (Below.refl _ _)⟩, cb := fun g g' => by obtain ⟨q, e, k⟩ := h.cb (up (by decide) g) (upF (by decide) g'); exact ⟨q, e, k.on (Below.refl _ _)⟩, ca := fun g g' => by obtain ⟨Y, e, k⟩ := h.ca (up (by decide) g) (upF (by decide) g'); exact ⟨Y, e, k.below (Below.refl _ _)⟩ }⟩
    · have ho' : { dst := some 52, op := Op.buildSlice 22 1 #[(0, Operand.tmp 51)], type := 22, pos := z3, after := #[{ on := 2, ground := Ground.data }], guard := none } = o := Option.some.inj ho
      subst ho'
      obtain rfl := h.f2 (hdd { on := 2, ground := .data } (by simp) (by rfl))
      refine wpOp_step (o := { dst := some 52, op := Op.buildSlice 22 1 #[(0, Operand.tmp 51)], type := 22, pos := z3, after := #[{ on := 2, ground := Ground.data }], guard := none }) rfl (fun K hK' => ?_)
      have hK : ∀ a w, IH (L.setIfInBounds 3 true) a w → K a w := hK'
      refine step_build44 rfl (.tmp 51) rfl ⟨r, .slice A3 r.c.rs.length c3, .slice A4 r.c.ws.length c4⟩ rfl ?_
      exact hK _ _ ⟨by simpa using hL, x10, x49, x50, _, _, x53, x54, x55, rfl, { be := below_new h.be, f0 := fun g => h.f0 (up (by decide) g), f2 := fun g => h.f2 (up (by decide) g), f5 := fun g => h.f5 (up (by decide) g), f6 := fun g => h.f6 (up (by decide) g), f7 := fun g => h.f7 (up (by decide) g), co := fun g g' => by obtain ⟨Y, e, k⟩ := h.co (up (by decide) g) (upF (by decide) g'); exact ⟨Y, e, k.below (below_new (Below.refl _ _))⟩, cb := fun _ _ => ⟨_, rfl, Hold.new W _ 44⟩, ca := fun g g' => by obtain ⟨Y, e, k⟩ := h.ca (up (by decide) g) (upF (by decide) g'); exact ⟨Y, e, k.below (below_new (Below.refl _ _))⟩ }⟩
    · have ho' : { dst := some 53, op := Op.call { callee := Callee.builtin Builtin.append, args := #[Operand.tmp 50, Operand.tmp 52], argTypes := #[22, 22] }, type := 22, pos := z4, after := #[{ on := 1, ground := Ground.data }, { on := 3, ground := Ground.data }, { on := 1, ground := Ground.chain }], guard := none } = o := Option.some.inj ho
      subst ho'
      obtain ⟨Y, hy, hoo⟩ := h.co (hdd { on := 1, ground := .data } (by simp) (by rfl)) (un hu)
      obtain ⟨q, rfl, hq⟩ := h.cb (hdd { on := 3, ground := .data } (by simp) (by rfl)) (un hu)
      obtain ⟨v1, W1, r1, o1, g1⟩ := append_recs (X := [⟨r, .slice A3 r.c.rs.length c3, .slice A4 r.c.ws.length c4⟩]) hoo.row (rowOne (x := ⟨r, .slice A3 r.c.rs.length c3, .slice A4 r.c.ws.length c4⟩) hq) (fun y hy => by rw [List.mem_singleton] at hy; subst hy; exact ⟨rfl, rfl⟩) (by rw [len_rcs hy]; simp; omega) h.be.size
      have hlow : ∀ k, k < w0.heap.size → some k ≠ x50.ownBlock := fun k hk => row_ne_low hoo.row hk
      have hbe : Below w0.heap.size w0 W1 := h.be.grown g1 h.be.size (fun k hk => (hoo.row.lt k hk).1)
      have hrow := own_snoc hoo o1 g1 (hT.below hbe)
      refine wpOp_step (o := { dst := some 53, op := Op.call { callee := Callee.builtin Builtin.append, args := #[Operand.tmp 50, Operand.tmp 52], argTypes := #[22, 22] }, type := 22, pos := z4, after := #[{ on := 1, ground := Ground.data }, { on := 3, ground := Ground.data }, { on := 1, ground := Ground.chain }], guard := none }) rfl (fun K hK' => ?_)
      have hK : ∀ a w, IH (L.setIfInBounds 4 true) a w → K a w := hK'
      refine step_append_run rfl (.tmp 50) (.tmp 52) 22 22 rfl _ _ rfl rfl _ _ r1 ?_
      exact hK _ _ ⟨by simpa using hL, x10, x49, x50, x51, _, _, x54, x55, rfl, { be := hbe, f0 := fun g => h.f0 (up (by decide) g), f2 := fun g => h.f2 (up (by decide) g), f5 := fun g => h.f5 (up (by decide) g), f6 := fun g => h.f6 (up (by decide) g), f7 := fun g => h.f7 (up (by decide) g), co := fun _ g' => onF (by omega) g', cb := fun _ g' => onF (by omega) g', ca := fun _ _ => ⟨_, by unfold rcs at hy ⊢; rw [List.map_append, List.map_append, hy], hrow⟩ }⟩
    · have ho' : { dst := some 54, op := Op.move (Operand.tmp 2), type := 3, pos := z5, after := #[], guard := none } = o := Option.some.inj ho
      subst ho'
      refine wpOp_step (o := { dst := some 54, op := Op.move (Operand.tmp 2), type := 3, pos := z5, after := #[], guard := none }) rfl (fun K hK' => ?_)
      have hK : ∀ a w, IH (L.setIfInBounds 5 true) a w → K a w := hK'
      rw [if_pos (by rfl)]
      unfold Oper.wp
      rw [show (execOp _ _).run Try.prog W = .ok (.value (.int .i64 p)) W from by kernel_rfl, Oper.upon_value]
      exact hK _ _ ⟨by simpa using hL, x10, x49, x50, x51, x52, x53, _, x55, rfl, { be := h.be, f0 := fun g => h.f0 (up (by decide) g), f2 := fun g => h.f2 (up (by decide) g), f5 := fun _ => rfl, f6 := fun g => h.f6 (up (by decide) g), f7 := fun g => h.f7 (up (by decide) g), co := fun g g' => by obtain ⟨Y, e, k⟩ := h.co (up (by decide) g) (upF (by decide) g'); exact ⟨Y, e, k.below (Below.refl _ _)⟩, cb := fun g g' => by obtain ⟨q, e, k⟩ := h.cb (up (by decide) g) (upF (by decide) g'); exact ⟨q, e, k.on (Below.refl _ _)⟩, ca := fun g g' => by obtain ⟨Y, e, k⟩ := h.ca (up (by decide) g) (upF (by decide) g'); exact ⟨Y, e, k.below (Below.refl _ _)⟩ }⟩
    · have ho' : { dst := some 55, op := Op.call { callee := Callee.value (Operand.func 19), args := #[Operand.tmp 53, Operand.tmp 54], argTypes := #[22, 3] }, type := 3, pos := z6, after := #[{ on := 4, ground := Ground.data }, { on := 5, ground := Ground.data }, { on := 4, ground := Ground.chain }], guard := none } = o := Option.some.inj ho
      subst ho'
      obtain rfl := h.f5 (hdd { on := 5, ground := .data } (by simp) (by rfl))
      obtain ⟨Y, hy, hoo⟩ := h.ca (hdd { on := 4, ground := .data } (by simp) (by rfl)) (un hu)
      refine wpOp_step (o := { dst := some 55, op := Op.call { callee := Callee.value (Operand.func 19), args := #[Operand.tmp 53, Operand.tmp 54], argTypes := #[22, 3] }, type := 3, pos := z6, after := #[{ on := 4, ground := Ground.data }, { on := 5, ground := Ground.data }, { on := 4, ground := Ground.chain }], guard := none }) rfl (fun K hK' => ?_)
      have hK : ∀ a w, IH (L.setIfInBounds 6 true) a w → K a w := hK'
      rw [if_pos (by rfl)]
      unfold Oper.wp
      rw [show (execOp _ _).run Try.prog W = .ok (.enter 19 #[x53, (.int .i64 p)]) W from by kernel_rfl, Oper.upon_enter]
      refine (slot_as (X := (X ++ [⟨r, .slice A3 r.c.rs.length c3, .slice A4 r.c.ws.length c4⟩])) p hoo hy (by first | omega | (simp; omega))).mono fun e w'' hh => ?_
      obtain ⟨rfl, hb⟩ := hh
      exact hK _ _ ⟨by simpa using hL, x10, x49, x50, x51, x52, x53, _, _, rfl, { be := h.be.trans (hb.mono h.be.size), f0 := fun g => h.f0 (up (by decide) g), f2 := fun g => h.f2 (up (by decide) g), f5 := fun g => h.f5 (up (by decide) g), f6 := fun _ => by rw [hn], f7 := fun g => h.f7 (up (by decide) g), co := fun g g' => by obtain ⟨Y, e, k⟩ := h.co (up (by decide) g) (upF (by decide) g'); exact ⟨Y, e, k.below hb⟩, cb := fun g g' => by obtain ⟨q, e, k⟩ := h.cb (up (by decide) g) (upF (by decide) g'); exact ⟨q, e, k.on hb⟩, ca := fun _ g' => onF (by omega) g' }⟩
    · have ho' : { dst := some 10, op := Op.assign (Operand.tmp 55), type := 3, pos := z7, after := #[{ on := 6, ground := Ground.data }, { on := 6, ground := Ground.chain }, { on := 0, ground := Ground.phase }, { on := 1, ground := Ground.phase }, { on := 2, ground := Ground.phase }, { on := 3, ground := Ground.phase }, { on := 4, ground := Ground.phase }, { on := 5, ground := Ground.phase }, { on := 6, ground := Ground.phase }], guard := none } = o := Option.some.inj ho
      subst ho'
      obtain rfl := h.f6 (hdd { on := 6, ground := .data } (by simp) (by rfl))
      refine wpOp_step (o := { dst := some 10, op := Op.assign (Operand.tmp 55), type := 3, pos := z7, after := #[{ on := 6, ground := Ground.data }, { on := 6, ground := Ground.chain }, { on := 0, ground := Ground.phase }, { on := 1, ground := Ground.phase }, { on := 2, ground := Ground.phase }, { on := 3, ground := Ground.phase }, { on := 4, ground := Ground.phase }, { on := 5, ground := Ground.phase }, { on := 6, ground := Ground.phase }], guard := none }) rfl (fun K hK' => ?_)
      have hK : ∀ a w, IH (L.setIfInBounds 7 true) a w → K a w := hK'
      rw [if_pos (by rfl)]
      unfold Oper.wp
      rw [show (execOp _ _).run Try.prog W = .ok (.value (.int .i64 nn)) W from by kernel_rfl, Oper.upon_value]
      exact hK _ _ ⟨by simpa using hL, _, x49, x50, x51, x52, x53, x54, _, rfl, { be := h.be, f0 := fun g => h.f0 (up (by decide) g), f2 := fun g => h.f2 (up (by decide) g), f5 := fun g => h.f5 (up (by decide) g), f6 := fun g => h.f6 (up (by decide) g), f7 := fun _ => rfl, co := fun g g' => by obtain ⟨Y, e, k⟩ := h.co (up (by decide) g) (upF (by decide) g'); exact ⟨Y, e, k.below (Below.refl _ _)⟩, cb := fun g g' => by obtain ⟨q, e, k⟩ := h.cb (up (by decide) g) (upF (by decide) g'); exact ⟨q, e, k.on (Below.refl _ _)⟩, ca := fun g g' => by obtain ⟨Y, e, k⟩ := h.ca (up (by decide) g) (upF (by decide) g'); exact ⟨Y, e, k.below (Below.refl _ _)⟩ }⟩
  · intro L A' W hI hr
    obtain ⟨hL, x10, x49, x50, x51, x52, x53, x54, x55, rfl, h⟩ := hI
    have all : ∀ j, j < 8 → L.getD j false = true := all_listed2 (by kernel_rfl) hL hr
    obtain rfl := h.f7 (all 7 (by decide))
    exact fin _ _ _ _ _ _ _ W h.be
end Go.Proofs.Ytgaglcfoodbcfaa
