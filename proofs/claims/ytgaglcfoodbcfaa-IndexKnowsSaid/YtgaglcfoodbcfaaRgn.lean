/- The region 'c.Reads, c.Writes = append([]Read{}, c.Reads...), append([]Write{}, c.Writes...)': whatever its order, the box has rows of its own; no conditions but the lengths that it names. -/
import Derived.Test.YtgaglcfoodbcfaaCln
import Derived.Sort.OwnSorted
namespace Go.Proofs.Ytgaglcfoodbcfaa
open Go.ChangeShapes Go.WideShapes Go.ChangeAt Go.RowKit

/-- What holds when those of L have come up. -/
structure Inv30 (w w2 : World) (b : Nat) (c : M.Cmd) (va vb : Value) (L : Array Bool) (x3 x4 x5 x6 x7 x8 x9 x10 x11 x12 : Value) (W : World) : Prop where
  be : Below w.heap.size w W
  yb : ∃ y6 y7, Box W b c y6 y7 ∧ (L.getD 9 false = true → y6 = x6) ∧ (L.getD 11 false = true → y7 = x10) ∧ (L.getD 2 false = false → y6 = va) ∧ (L.getD 6 false = false → y7 = vb)
  fz : Soft9 W b
  sz : w2.heap.size ≤ W.heap.size
  c0 : L.getD 0 false = true → L.getD 3 false = false → W.ownsRow w2.heap.size 61 3 x3 0 []
  c1 : L.getD 1 false = true → x4 = .pointer (some ⟨b, 6, none⟩)
  c2 : L.getD 2 false = true → x5 = va
  c3 : L.getD 3 false = true → W.ownsRow w2.heap.size 61 3 x6 c.rs.length (rdsC c.rs)
  c4 : L.getD 4 false = true → L.getD 7 false = false → W.ownsRow w2.heap.size 46 2 x7 0 []
  c5 : L.getD 5 false = true → x8 = .pointer (some ⟨b, 7, none⟩)
  c6 : L.getD 6 false = true → x9 = vb
  c7 : L.getD 7 false = true → W.ownsRow w2.heap.size 46 2 x10 c.ws.length (wrsC c.ws)
  c8 : L.getD 8 false = true → x11 = .pointer (some ⟨b, 6, none⟩)
  d9 : L.getD 9 false = true → L.getD 3 false = true
  d11 : L.getD 11 false = true → L.getD 7 false = true
  d3 : L.getD 3 false = true → L.getD 2 false = true
  d7 : L.getD 7 false = true → L.getD 6 false = true
  c10 : L.getD 10 false = true → x12 = .pointer (some ⟨b, 7, none⟩)

set_option maxHeartbeats 8000000 in
set_option maxRecDepth 100000 in
theorem region30 {Q : Exit → Act → World → Prop} {w w2 : World} {b : Nat} {c : M.Cmd} {A8 A9 : Option Addr} {j8 j9 : Nat} {t0 t2 t13 x3 x4 x5 x6 x7 x8 x9 x10 x11 x12 : Value} {ds : List Deferred} {z0 z1 z2 z3 z4 z5 z6 z7 z8 z9 z10 z11 : String} (h1 : Rds w (.slice A8 c.rs.length j8) c.rs) (h2 : Wrs w (.slice A9 c.ws.length j9) c.ws) (hl : c.rs.length ≤ 1000) (hl' : c.ws.length ≤ 1000) (hy : Box w2 b c (.slice A8 c.rs.length j8) (.slice A9 c.ws.length j9)) (hf : Soft9 w2 b) (hB : Below w.heap.size w w2) (hb : w.heap.size ≤ b)
    (fin : ∀ (x3 x4 x5 x6 x7 x8 x9 x10 x11 x12 : Value) (A1 : Option Addr) (j1 : Nat) (D1 : Option Addr) (g1 : Nat) (W : World), Box W b c (.slice A1 c.rs.length j1) (.slice D1 c.ws.length g1) → W.ownsRow w2.heap.size 61 3 (.slice A1 c.rs.length j1) c.rs.length (rdsC c.rs) → W.ownsRow w2.heap.size 46 2 (.slice D1 c.ws.length g1) c.ws.length (wrsC c.ws) → Below w.heap.size w W → Soft9 W b → (∀ q, q < w2.heap.size → q ≠ b → W.heap[q]? = w2.heap[q]?) → Q .normal ⟨#[t0, .pointer (some ⟨b, 0, none⟩), t2, x3, x4, x5, x6, x7, x8, x9, x10, x11, x12, t13], ds⟩ W) :
    (Code.region 1 #[{ dst := some 3, op := Op.buildSlice 29 0 #[], type := 29, pos := z0, after := #[], guard := none }, { dst := some 4, op := Op.fieldAddr 32 (Operand.tmp 1) 4, type := 0, pos := z1, after := #[], guard := none }, { dst := some 5, op := Op.load 29 (Operand.tmp 4), type := 29, pos := z2, after := #[{ on := 1, ground := Ground.data }], guard := none }, { dst := some 6, op := Op.call { callee := Callee.builtin Builtin.append, args := #[Operand.tmp 3, Operand.tmp 5], argTypes := #[29, 29] }, type := 29, pos := z3, after := #[{ on := 0, ground := Ground.data }, { on := 2, ground := Ground.data }], guard := none }, { dst := some 7, op := Op.buildSlice 30 0 #[], type := 30, pos := z4, after := #[], guard := none }, { dst := some 8, op := Op.fieldAddr 32 (Operand.tmp 1) 5, type := 0, pos := z5, after := #[], guard := none }, { dst := some 9, op := Op.load 30 (Operand.tmp 8), type := 30, pos := z6, after := #[{ on := 5, ground := Ground.data }], guard := none }, { dst := some 10, op := Op.call { callee := Callee.builtin Builtin.append, args := #[Operand.tmp 7, Operand.tmp 9], argTypes := #[30, 30] }, type := 30, pos := z7, after := #[{ on := 4, ground := Ground.data }, { on := 6, ground := Ground.data }, { on := 3, ground := Ground.chain }], guard := none }, { dst := some 11, op := Op.fieldAddr 32 (Operand.tmp 1) 4, type := 0, pos := z8, after := #[{ on := 0, ground := Ground.phase }, { on := 1, ground := Ground.phase }, { on := 2, ground := Ground.phase }, { on := 3, ground := Ground.phase }, { on := 4, ground := Ground.textOnly Departure.lateStores }, { on := 5, ground := Ground.phase }, { on := 6, ground := Ground.phase }, { on := 7, ground := Ground.textOnly Departure.lateStoresUnsure }], guard := none }, { dst := none, op := Op.store 29 (Operand.tmp 11) (Operand.tmp 6), type := 0, pos := z9, after := #[{ on := 8, ground := Ground.data }, { on := 3, ground := Ground.data }, { on := 7, ground := Ground.chain }, { on := 0, ground := Ground.phase }, { on := 1, ground := Ground.phase }, { on := 2, ground := Ground.phase }, { on := 3, ground := Ground.phase }, { on := 4, ground := Ground.textOnly Departure.lateStores }, { on := 5, ground := Ground.phase }, { on := 6, ground := Ground.phase }, { on := 7, ground := Ground.textOnly Departure.lateStoresUnsure }], guard := none }, { dst := some 12, op := Op.fieldAddr 32 (Operand.tmp 1) 5, type := 0, pos := z10, after := #[{ on := 0, ground := Ground.phase }, { on := 1, ground := Ground.phase }, { on := 2, ground := Ground.phase }, { on := 3, ground := Ground.phase }, { on := 4, ground := Ground.phase }, { on := 5, ground := Ground.phase }, { on := 6, ground := Ground.phase }, { on := 7, ground := Ground.phase }, { on := 8, ground := Ground.phase }, { on := 9, ground := Ground.phase }], guard := none }, { dst := none, op := Op.store 30 (Operand.tmp 12) (Operand.tmp 10), type := 0, pos := z11, after := #[{ on := 10, ground := Ground.data }, { on := 7, ground := Ground.data }, { on := 9, ground := Ground.chain }, { on := 0, ground := Ground.phase }, { on := 1, ground := Ground.phase }, { on := 2, ground := Ground.phase }, { on := 3, ground := Ground.phase }, { on := 4, ground := Ground.phase }, { on := 5, ground := Ground.phase }, { on := 6, ground := Ground.phase }, { on := 7, ground := Ground.phase }, { on := 8, ground := Ground.phase }, { on := 9, ground := Ground.phase }], guard := none }] true).wp Try.prog Q ⟨#[t0, .pointer (some ⟨b, 0, none⟩), t2, x3, x4, x5, x6, x7, x8, x9, x10, x11, x12, t13], ds⟩ w2 := by
  have bl := hy.lt
  let IH : Array Bool → Act → World → Prop := fun L A W => L.size = 12 ∧ ∃ x3 x4 x5 x6 x7 x8 x9 x10 x11 x12 : Value, A = ⟨#[t0, .pointer (some ⟨b, 0, none⟩), t2, x3, x4, x5, x6, x7, x8, x9, x10, x11, x12, t13], ds⟩ ∧ Inv30 w w2 b c (.slice A8 c.rs.length j8) (.slice A9 c.ws.length j9) L x3 x4 x5 x6 x7 x8 x9 x10 x11 x12 W ∧ ∀ q, q < w2.heap.size → q ≠ b → W.heap[q]? = w2.heap[q]?
  refine wp_region_inv (by kernel_rfl) IH ?_ ?_ ?_
  · refine ⟨rfl, x3, x4, x5, x6, x7, x8, x9, x10, x11, x12, rfl, ?_, fun q _ _ => rfl⟩
    have no : ∀ j, (Array.replicate 12 false).getD j false = true → False := fun j g => by
      rcases Nat.lt_or_ge j 12 with h | h
      · simp [h] at g
      · simp [Array.getElem?_eq_none (xs := Array.replicate 12 false) (by simpa using h)] at g
    have dr : Below w2.heap.size w2 w2.drew := (Below.refl _ _).drew
    exact { be := hB.drew, yb := ⟨_, _, hy.on dr, fun g => (no _ g).elim, fun g => (no _ g).elim, fun _ => rfl, fun _ => rfl⟩, fz := hf.on bl dr, sz := Nat.le_refl _, c0 := fun g => (no _ g).elim, c1 := fun g => (no _ g).elim, c2 := fun g => (no _ g).elim, c3 := fun g => (no _ g).elim, c4 := fun g => (no _ g).elim, c5 := fun g => (no _ g).elim, c6 := fun g => (no _ g).elim, c7 := fun g => (no _ g).elim, c8 := fun g => (no _ g).elim, c10 := fun g => (no _ g).elim, d9 := fun g => (no _ g).elim, d11 := fun g => (no _ g).elim, d3 := fun g => (no _ g).elim, d7 := fun g => (no _ g).elim }
  · intro L A W hI i hi
    obtain ⟨hL, x3, x4, x5, x6, x7, x8, x9, x10, x11, x12, rfl, h, hk⟩ := hI
    obtain ⟨hu, o, ho, hd⟩ := mem_ready.1 hi
    have hi12 : i < 12 := (Array.getElem?_eq_some_iff.1 ho).1
    have hs := h.sz
    have hi' : i = 0 ∨ i = 1 ∨ i = 2 ∨ i = 3 ∨ i = 4 ∨ i = 5 ∨ i = 6 ∨ i = 7 ∨ i = 8 ∨ i = 9 ∨ i = 10 ∨ i = 11 := by omega
    rcases hi' with rfl | rfl | rfl | rfl | rfl | rfl | rfl | rfl | rfl | rfl | rfl | rfl
    · have ho' : { dst := some 3, op := Op.buildSlice 29 0 #[], type := 29, pos := z0, after := #[], guard := none } = o := Option.some.inj ho
      subst ho'
      refine wpOp_step (o := { dst := some 3, op := Op.buildSlice 29 0 #[], type := 29, pos := z0, after := #[], guard := none }) rfl (fun K hK' => ?_)
      have hK : ∀ a w, IH (L.setIfInBounds 0 true) a w → K a w := hK'
      rw [if_pos (by rfl)]
      unfold Oper.wp
      rw [show (execOp _ _).run Try.prog W = .ok (.value (.slice (some ⟨W.heap.size, 0, none⟩) 0 0)) (W.alloc (.cells #[] 61)) from by kernel_rfl, Oper.upon_value]
      exact hK _ _ ⟨by simpa using hL, _, x4, x5, x6, x7, x8, x9, x10, x11, x12, rfl, { be := below_new h.be, yb := by obtain ⟨y6, y7, B, e1, e2, e3, e4⟩ := h.yb; exact ⟨y6, y7, Box.push B _, fun g => e1 (up (by decide) g), fun g => e2 (up (by decide) g), fun g => e3 (upF (by decide) g), fun g => e4 (upF (by decide) g)⟩, fz := soft_push h.fz (by omega) _, sz := by simp; omega, c0 := fun _ _ => own_emptyN W 61 3 h.sz, c1 := fun g => h.c1 (up (by decide) g), c2 := fun g => h.c2 (up (by decide) g), c3 := fun g => push_own (h.c3 (up (by decide) g)) _, c4 := fun g g' => push_own (h.c4 (up (by decide) g) (upF (by decide) g')) _, c5 := fun g => h.c5 (up (by decide) g), c6 := fun g => h.c6 (up (by decide) g), c7 := fun g => push_own (h.c7 (up (by decide) g)) _, c8 := fun g => h.c8 (up (by decide) g), c10 := fun g => h.c10 (up (by decide) g), d9 := fun g => on (h.d9 (up (by decide) g)), d11 := fun g => on (h.d11 (up (by decide) g)), d3 := fun g => on (h.d3 (up (by decide) g)), d7 := fun g => on (h.d7 (up (by decide) g)) }, fun q hq hn => ((below_new (Below.refl W.heap.size W)).block q (by omega)).trans (hk q hq hn)⟩
    · have ho' : { dst := some 4, op := Op.fieldAddr 32 (Operand.tmp 1) 4, type := 0, pos := z1, after := #[], guard := none } = o := Option.some.inj ho
      subst ho'
      refine wpOp_step (o := { dst := some 4, op := Op.fieldAddr 32 (Operand.tmp 1) 4, type := 0, pos := z1, after := #[], guard := none }) rfl (fun K hK' => ?_)
      have hK : ∀ a w, IH (L.setIfInBounds 1 true) a w → K a w := hK'
      rw [if_pos (by rfl)]
      unfold Oper.wp
      rw [show (execOp _ _).run Try.prog W = .ok (.value (.pointer (some ⟨b, 6, none⟩))) W from by kernel_rfl, Oper.upon_value]
      exact hK _ _ ⟨by simpa using hL, x3, _, x5, x6, x7, x8, x9, x10, x11, x12, rfl, { be := h.be, yb := by obtain ⟨y6, y7, B, e1, e2, e3, e4⟩ := h.yb; exact ⟨y6, y7, B, fun g => e1 (up (by decide) g), fun g => e2 (up (by decide) g), fun g => e3 (upF (by decide) g), fun g => e4 (upF (by decide) g)⟩, fz := h.fz, sz := h.sz, c0 := fun g g' => (h.c0 (up (by decide) g) (upF (by decide) g')), c1 := fun _ => rfl, c2 := fun g => h.c2 (up (by decide) g), c3 := fun g => (h.c3 (up (by decide) g)), c4 := fun g g' => (h.c4 (up (by decide) g) (upF (by decide) g')), c5 := fun g => h.c5 (up (by decide) g), c6 := fun g => h.c6 (up (by decide) g), c7 := fun g => (h.c7 (up (by decide) g)), c8 := fun g => h.c8 (up (by decide) g), c10 := fun g => h.c10 (up (by decide) g), d9 := fun g => on (h.d9 (up (by decide) g)), d11 := fun g => on (h.d11 (up (by decide) g)), d3 := fun g => on (h.d3 (up (by decide) g)), d7 := fun g => on (h.d7 (up (by decide) g)) }, hk⟩
    · have ho' : { dst := some 5, op := Op.load 29 (Operand.tmp 4), type := 29, pos := z2, after := #[{ on := 1, ground := Ground.data }], guard := none } = o := Option.some.inj ho
      subst ho'
      obtain rfl := h.c1 (hd { on := 1, ground := .data } (by simp) (by rfl))
      obtain ⟨y6, y7, B, e1, e2, e3, e4⟩ := h.yb
      have y := B.c6
      rw [e3 (un hu)] at y
      refine wpOp_step (o := { dst := some 5, op := Op.load 29 (Operand.tmp 4), type := 29, pos := z2, after := #[{ on := 1, ground := Ground.data }], guard := none }) rfl (fun K hK' => ?_)
      have hK : ∀ a w, IH (L.setIfInBounds 2 true) a w → K a w := hK'
      go_simp
      exact hK _ _ ⟨by simpa using hL, x3, _, _, x6, x7, x8, x9, x10, x11, x12, rfl, { be := h.be, yb := by obtain ⟨y6, y7, B, e1, e2, e3, e4⟩ := h.yb; exact ⟨y6, y7, B, fun g => e1 (up (by decide) g), fun g => e2 (up (by decide) g), fun g => onF (by omega) g, fun g => e4 (upF (by decide) g)⟩, fz := h.fz, sz := h.sz, c0 := fun g g' => (h.c0 (up (by decide) g) (upF (by decide) g')), c1 := fun g => h.c1 (up (by decide) g), c2 := fun _ => rfl, c3 := fun g => (h.c3 (up (by decide) g)), c4 := fun g g' => (h.c4 (up (by decide) g) (upF (by decide) g')), c5 := fun g => h.c5 (up (by decide) g), c6 := fun g => h.c6 (up (by decide) g), c7 := fun g => (h.c7 (up (by decide) g)), c8 := fun g => h.c8 (up (by decide) g), c10 := fun g => h.c10 (up (by decide) g), d9 := fun g => on (h.d9 (up (by decide) g)), d11 := fun g => on (h.d11 (up (by decide) g)), d3 := fun g => off hu (h.d3 (up (by decide) g)), d7 := fun g => on (h.d7 (up (by decide) g)) }, hk⟩
    · have ho' : { dst := some 6, op := Op.call { callee := Callee.builtin Builtin.append, args := #[Operand.tmp 3, Operand.tmp 5], argTypes := #[29, 29] }, type := 29, pos := z3, after := #[{ on := 0, ground := Ground.data }, { on := 2, ground := Ground.data }], guard := none } = o := Option.some.inj ho
      subst ho'
      have o0 := h.c0 (hd { on := 0, ground := .data } (by simp) (by rfl)) (un hu)
      obtain rfl := h.c2 (hd { on := 2, ground := .data } (by simp) (by rfl))
      obtain ⟨v1, W1, r1, o1, g1⟩ := append_rds o0 (h1.below h.be) (by omega) hs
      rw [Nat.zero_add, List.nil_append] at o1
      have hn : ∀ k, k < w2.heap.size → some k ≠ x3.ownBlock := fun k hk => row_ne_low o0 hk
      refine wpOp_step (o := { dst := some 6, op := Op.call { callee := Callee.builtin Builtin.append, args := #[Operand.tmp 3, Operand.tmp 5], argTypes := #[29, 29] }, type := 29, pos := z3, after := #[{ on := 0, ground := Ground.data }, { on := 2, ground := Ground.data }], guard := none }) rfl (fun K hK' => ?_)
      have hK : ∀ a w, IH (L.setIfInBounds 3 true) a w → K a w := hK'
      refine step_append_run rfl (.tmp 3) (.tmp 5) 29 29 rfl _ _ rfl rfl _ _ r1 ?_
      exact hK _ _ ⟨by simpa using hL, x3, x4, _, _, x7, x8, x9, x10, x11, x12, rfl, { be := h.be.grown g1 (by have := hB.size; omega) (fun k hk => by have := (o0.lt k hk).1; have := hB.size; omega), yb := by obtain ⟨y6, y7, B, e1, e2, e3, e4⟩ := h.yb; exact ⟨y6, y7, B.far g1 (hn _ bl), fun g => off hu (h.d9 (up (by decide) g)), fun g => e2 (up (by decide) g), fun g => e3 (upF (by decide) g), fun g => e4 (upF (by decide) g)⟩, fz := h.fz.far (by omega) g1 (hn _ bl), sz := Nat.le_trans hs g1.size, c0 := fun _ g' => onF (by omega) g', c1 := fun g => h.c1 (up (by decide) g), c2 := fun g => h.c2 (up (by decide) g), c3 := fun _ => o1, c4 := fun g g' => (h.c4 (up (by decide) g) (upF (by decide) g')).kept g1 (apart o0 (h.c4 (up (by decide) g) (upF (by decide) g'))).2, c5 := fun g => h.c5 (up (by decide) g), c6 := fun g => h.c6 (up (by decide) g), c7 := fun g => (h.c7 (up (by decide) g)).kept g1 (apart o0 (h.c7 (up (by decide) g))).2, c8 := fun g => h.c8 (up (by decide) g), c10 := fun g => h.c10 (up (by decide) g), d9 := fun g => off hu (h.d9 (up (by decide) g)), d11 := fun g => on (h.d11 (up (by decide) g)), d3 := fun _ => on (hd { on := 2, ground := .data } (by simp) (by rfl)), d7 := fun g => on (h.d7 (up (by decide) g)) }, fun q hq hn' => (g1.block q (by omega) (hn q hq)).trans (hk q hq hn')⟩
    · have ho' : { dst := some 7, op := Op.buildSlice 30 0 #[], type := 30, pos := z4, after := #[], guard := none } = o := Option.some.inj ho
      subst ho'
      refine wpOp_step (o := { dst := some 7, op := Op.buildSlice 30 0 #[], type := 30, pos := z4, after := #[], guard := none }) rfl (fun K hK' => ?_)
      have hK : ∀ a w, IH (L.setIfInBounds 4 true) a w → K a w := hK'
      rw [if_pos (by rfl)]
      unfold Oper.wp
      rw [show (execOp _ _).run Try.prog W = .ok (.value (.slice (some ⟨W.heap.size, 0, none⟩) 0 0)) (W.alloc (.cells #[] 46)) from by kernel_rfl, Oper.upon_value]
      exact hK _ _ ⟨by simpa using hL, x3, x4, x5, x6, _, x8, x9, x10, x11, x12, rfl, { be := below_new h.be, yb := by obtain ⟨y6, y7, B, e1, e2, e3, e4⟩ := h.yb; exact ⟨y6, y7, Box.push B _, fun g => e1 (up (by decide) g), fun g => e2 (up (by decide) g), fun g => e3 (upF (by decide) g), fun g => e4 (upF (by decide) g)⟩, fz := soft_push h.fz (by omega) _, sz := by simp; omega, c0 := fun g g' => push_own (h.c0 (up (by decide) g) (upF (by decide) g')) _, c1 := fun g => h.c1 (up (by decide) g), c2 := fun g => h.c2 (up (by decide) g), c3 := fun g => push_own (h.c3 (up (by decide) g)) _, c4 := fun _ _ => own_emptyN W 46 2 h.sz, c5 := fun g => h.c5 (up (by decide) g), c6 := fun g => h.c6 (up (by decide) g), c7 := fun g => push_own (h.c7 (up (by decide) g)) _, c8 := fun g => h.c8 (up (by decide) g), c10 := fun g => h.c10 (up (by decide) g), d9 := fun g => on (h.d9 (up (by decide) g)), d11 := fun g => on (h.d11 (up (by decide) g)), d3 := fun g => on (h.d3 (up (by decide) g)), d7 := fun g => on (h.d7 (up (by decide) g)) }, fun q hq hn => ((below_new (Below.refl W.heap.size W)).block q (by omega)).trans (hk q hq hn)⟩
    · have ho' : { dst := some 8, op := Op.fieldAddr 32 (Operand.tmp 1) 5, type := 0, pos := z5, after := #[], guard := none } = o := Option.some.inj ho
      subst ho'
      refine wpOp_step (o := { dst := some 8, op := Op.fieldAddr 32 (Operand.tmp 1) 5, type := 0, pos := z5, after := #[], guard := none }) rfl (fun K hK' => ?_)
      have hK : ∀ a w, IH (L.setIfInBounds 5 true) a w → K a w := hK'
      rw [if_pos (by rfl)]
      unfold Oper.wp
      rw [show (execOp _ _).run Try.prog W = .ok (.value (.pointer (some ⟨b, 7, none⟩))) W from by kernel_rfl, Oper.upon_value]
      exact hK _ _ ⟨by simpa using hL, x3, x4, x5, x6, x7, _, x9, x10, x11, x12, rfl, { be := h.be, yb := by obtain ⟨y6, y7, B, e1, e2, e3, e4⟩ := h.yb; exact ⟨y6, y7, B, fun g => e1 (up (by decide) g), fun g => e2 (up (by decide) g), fun g => e3 (upF (by decide) g), fun g => e4 (upF (by decide) g)⟩, fz := h.fz, sz := h.sz, c0 := fun g g' => (h.c0 (up (by decide) g) (upF (by decide) g')), c1 := fun g => h.c1 (up (by decide) g), c2 := fun g => h.c2 (up (by decide) g), c3 := fun g => (h.c3 (up (by decide) g)), c4 := fun g g' => (h.c4 (up (by decide) g) (upF (by decide) g')), c5 := fun _ => rfl, c6 := fun g => h.c6 (up (by decide) g), c7 := fun g => (h.c7 (up (by decide) g)), c8 := fun g => h.c8 (up (by decide) g), c10 := fun g => h.c10 (up (by decide) g), d9 := fun g => on (h.d9 (up (by decide) g)), d11 := fun g => on (h.d11 (up (by decide) g)), d3 := fun g => on (h.d3 (up (by decide) g)), d7 := fun g => on (h.d7 (up (by decide) g)) }, hk⟩
    · have ho' : { dst := some 9, op := Op.load 30 (Operand.tmp 8), type := 30, pos := z6, after := #[{ on := 5, ground := Ground.data }], guard := none } = o := Option.some.inj ho
      subst ho'
      obtain rfl := h.c5 (hd { on := 5, ground := .data } (by simp) (by rfl))
      obtain ⟨y6, y7, B, e1, e2, e3, e4⟩ := h.yb
      have y := B.c7
      rw [e4 (un hu)] at y
      refine wpOp_step (o := { dst := some 9, op := Op.load 30 (Operand.tmp 8), type := 30, pos := z6, after := #[{ on := 5, ground := Ground.data }], guard := none }) rfl (fun K hK' => ?_)
      have hK : ∀ a w, IH (L.setIfInBounds 6 true) a w → K a w := hK'
      go_simp
      exact hK _ _ ⟨by simpa using hL, x3, x4, x5, x6, x7, _, _, x10, x11, x12, rfl, { be := h.be, yb := by obtain ⟨y6, y7, B, e1, e2, e3, e4⟩ := h.yb; exact ⟨y6, y7, B, fun g => e1 (up (by decide) g), fun g => e2 (up (by decide) g), fun g => e3 (upF (by decide) g), fun g => onF (by omega) g⟩, fz := h.fz, sz := h.sz, c0 := fun g g' => (h.c0 (up (by decide) g) (upF (by decide) g')), c1 := fun g => h.c1 (up (by decide) g), c2 := fun g => h.c2 (up (by decide) g), c3 := fun g => (h.c3 (up (by decide) g)), c4 := fun g g' => (h.c4 (up (by decide) g) (upF (by decide) g')), c5 := fun g => h.c5 (up (by decide) g), c6 := fun _ => rfl, c7 := fun g => (h.c7 (up (by decide) g)), c8 := fun g => h.c8 (up (by decide) g), c10 := fun g => h.c10 (up (by decide) g), d9 := fun g => on (h.d9 (up (by decide) g)), d11 := fun g => on (h.d11 (up (by decide) g)), d3 := fun g => on (h.d3 (up (by decide) g)), d7 := fun g => off hu (h.d7 (up (by decide) g)) }, hk⟩
    · have ho' : { dst := some 10, op := Op.call { callee := Callee.builtin Builtin.append, args := #[Operand.tmp 7, Operand.tmp 9], argTypes := #[30, 30] }, type := 30, pos := z7, after := #[{ on := 4, ground := Ground.data }, { on := 6, ground := Ground.data }, { on := 3, ground := Ground.chain }], guard := none } = o := Option.some.inj ho
      subst ho'
      have o0 := h.c4 (hd { on := 4, ground := .data } (by simp) (by rfl)) (un hu)
      obtain rfl := h.c6 (hd { on := 6, ground := .data } (by simp) (by rfl))
      obtain ⟨v1, W1, r1, o1, g1⟩ := append_wrs o0 (h2.below h.be) (by omega) hs
      rw [Nat.zero_add, List.nil_append] at o1
      have hn : ∀ k, k < w2.heap.size → some k ≠ x7.ownBlock := fun k hk => row_ne_low o0 hk
      refine wpOp_step (o := { dst := some 10, op := Op.call { callee := Callee.builtin Builtin.append, args := #[Operand.tmp 7, Operand.tmp 9], argTypes := #[30, 30] }, type := 30, pos := z7, after := #[{ on := 4, ground := Ground.data }, { on := 6, ground := Ground.data }, { on := 3, ground := Ground.chain }], guard := none }) rfl (fun K hK' => ?_)
      have hK : ∀ a w, IH (L.setIfInBounds 7 true) a w → K a w := hK'
      refine step_append_run rfl (.tmp 7) (.tmp 9) 30 30 rfl _ _ rfl rfl _ _ r1 ?_
      exact hK _ _ ⟨by simpa using hL, x3, x4, x5, x6, x7, x8, _, _, x11, x12, rfl, { be := h.be.grown g1 (by have := hB.size; omega) (fun k hk => by have := (o0.lt k hk).1; have := hB.size; omega), yb := by obtain ⟨y6, y7, B, e1, e2, e3, e4⟩ := h.yb; exact ⟨y6, y7, B.far g1 (hn _ bl), fun g => e1 (up (by decide) g), fun g => off hu (h.d11 (up (by decide) g)), fun g => e3 (upF (by decide) g), fun g => e4 (upF (by decide) g)⟩, fz := h.fz.far (by omega) g1 (hn _ bl), sz := Nat.le_trans hs g1.size, c0 := fun g g' => (h.c0 (up (by decide) g) (upF (by decide) g')).kept g1 (apart (h.c0 (up (by decide) g) (upF (by decide) g')) o0).1, c1 := fun g => h.c1 (up (by decide) g), c2 := fun g => h.c2 (up (by decide) g), c3 := fun g => (h.c3 (up (by decide) g)).kept g1 (apart (h.c3 (up (by decide) g)) o0).1, c4 := fun _ g' => onF (by omega) g', c5 := fun g => h.c5 (up (by decide) g), c6 := fun g => h.c6 (up (by decide) g), c7 := fun _ => o1, c8 := fun g => h.c8 (up (by decide) g), c10 := fun g => h.c10 (up (by decide) g), d9 := fun g => on (h.d9 (up (by decide) g)), d11 := fun g => off hu (h.d11 (up (by decide) g)), d3 := fun g => on (h.d3 (up (by decide) g)), d7 := fun _ => on (hd { on := 6, ground := .data } (by simp) (by rfl)) }, fun q hq hn' => (g1.block q (by omega) (hn q hq)).trans (hk q hq hn')⟩
    · have ho' : { dst := some 11, op := Op.fieldAddr 32 (Operand.tmp 1) 4, type := 0, pos := z8, after := #[{ on := 0, ground := Ground.phase }, { on := 1, ground := Ground.phase }, { on := 2, ground := Ground.phase }, { on := 3, ground := Ground.phase }, { on := 4, ground := Ground.textOnly Departure.lateStores }, { on := 5, ground := Ground.phase }, { on := 6, ground := Ground.phase }, { on := 7, ground := Ground.textOnly Departure.lateStoresUnsure }], guard := none } = o := Option.some.inj ho
      subst ho'
      refine wpOp_step (o := { dst := some 11, op := Op.fieldAddr 32 (Operand.tmp 1) 4, type := 0, pos := z8, after := #[{ on := 0, ground := Ground.phase }, { on := 1, ground := Ground.phase }, { on := 2, ground := Ground.phase }, { on := 3, ground := Ground.phase }, { on := 4, ground := Ground.textOnly Departure.lateStores }, { on := 5, ground := Ground.phase }, { on := 6, ground := Ground.phase }, { on := 7, ground := Ground.textOnly Departure.lateStoresUnsure }], guard := none }) rfl (fun K hK' => ?_)
      have hK : ∀ a w, IH (L.setIfInBounds 8 true) a w → K a w := hK'
      rw [if_pos (by rfl)]
      unfold Oper.wp
      rw [show (execOp _ _).run Try.prog W = .ok (.value (.pointer (some ⟨b, 6, none⟩))) W from by kernel_rfl, Oper.upon_value]
      exact hK _ _ ⟨by simpa using hL, x3, x4, x5, x6, x7, x8, x9, x10, _, x12, rfl, { be := h.be, yb := by obtain ⟨y6, y7, B, e1, e2, e3, e4⟩ := h.yb; exact ⟨y6, y7, B, fun g => e1 (up (by decide) g), fun g => e2 (up (by decide) g), fun g => e3 (upF (by decide) g), fun g => e4 (upF (by decide) g)⟩, fz := h.fz, sz := h.sz, c0 := fun g g' => (h.c0 (up (by decide) g) (upF (by decide) g')), c1 := fun g => h.c1 (up (by decide) g), c2 := fun g => h.c2 (up (by decide) g), c3 := fun g => (h.c3 (up (by decide) g)), c4 := fun g g' => (h.c4 (up (by decide) g) (upF (by decide) g')), c5 := fun g => h.c5 (up (by decide) g), c6 := fun g => h.c6 (up (by decide) g), c7 := fun g => (h.c7 (up (by decide) g)), c8 := fun _ => rfl, c10 := fun g => h.c10 (up (by decide) g), d9 := fun g => on (h.d9 (up (by decide) g)), d11 := fun g => on (h.d11 (up (by decide) g)), d3 := fun g => on (h.d3 (up (by decide) g)), d7 := fun g => on (h.d7 (up (by decide) g)) }, hk⟩
    · have ho' : { dst := none, op := Op.store 29 (Operand.tmp 11) (Operand.tmp 6), type := 0, pos := z9, after := #[{ on := 8, ground := Ground.data }, { on := 3, ground := Ground.data }, { on := 7, ground := Ground.chain }, { on := 0, ground := Ground.phase }, { on := 1, ground := Ground.phase }, { on := 2, ground := Ground.phase }, { on := 3, ground := Ground.phase }, { on := 4, ground := Ground.textOnly Departure.lateStores }, { on := 5, ground := Ground.phase }, { on := 6, ground := Ground.phase }, { on := 7, ground := Ground.textOnly Departure.lateStoresUnsure }], guard := none } = o := Option.some.inj ho
      subst ho'
      obtain rfl := h.c8 (hd { on := 8, ground := .data } (by simp) (by rfl))
      have o1 := h.c3 (hd { on := 3, ground := .data } (by simp) (by rfl))
      have l2 := h.d3 (hd { on := 3, ground := .data } (by simp) (by rfl))
      obtain ⟨A1, j1, rfl⟩ := ownsRow_slice o1
      obtain ⟨y6, y7, B, e1, e2, e3, e4⟩ := h.yb
      have y := B.c6
      have z := h.fz 6
      refine wpOp_step (o := { dst := none, op := Op.store 29 (Operand.tmp 11) (Operand.tmp 6), type := 0, pos := z9, after := #[{ on := 8, ground := Ground.data }, { on := 3, ground := Ground.data }, { on := 7, ground := Ground.chain }, { on := 0, ground := Ground.phase }, { on := 1, ground := Ground.phase }, { on := 2, ground := Ground.phase }, { on := 3, ground := Ground.phase }, { on := 4, ground := Ground.textOnly Departure.lateStores }, { on := 5, ground := Ground.phase }, { on := 6, ground := Ground.phase }, { on := 7, ground := Ground.textOnly Departure.lateStoresUnsure }], guard := none }) rfl (fun K hK' => ?_)
      have hK : ∀ a w, IH (L.setIfInBounds 9 true) a w → K a w := hK'
      go_simp
      exact hK _ _ ⟨by simpa using hL, x3, x4, x5, _, x7, x8, x9, x10, _, x12, rfl, { be := h.be.setCell (by show w.heap.size ≤ b; omega) _, yb := ⟨_, y7, B.set6 _, fun _ => rfl, fun g => e2 (up (by decide) g), fun g => absurd (on (i := 9) l2) (by rw [g]; simp), fun g => e4 (upF (by decide) g)⟩, fz := fun o => by rw [World.frozen?_setCell]; exact h.fz o, sz := by simpa [World.setCell] using hs, c0 := fun g g' => ownsRow_set (h.c0 (up (by decide) g) (upF (by decide) g')) bl _, c1 := fun g => h.c1 (up (by decide) g), c2 := fun g => h.c2 (up (by decide) g), c3 := fun g => ownsRow_set (h.c3 (up (by decide) g)) bl _, c4 := fun g g' => ownsRow_set (h.c4 (up (by decide) g) (upF (by decide) g')) bl _, c5 := fun g => h.c5 (up (by decide) g), c6 := fun g => h.c6 (up (by decide) g), c7 := fun g => ownsRow_set (h.c7 (up (by decide) g)) bl _, c8 := fun g => h.c8 (up (by decide) g), c10 := fun g => h.c10 (up (by decide) g), d9 := fun _ => on (hd { on := 3, ground := .data } (by simp) (by rfl)), d11 := fun g => on (h.d11 (up (by decide) g)), d3 := fun g => on (h.d3 (up (by decide) g)), d7 := fun g => on (h.d7 (up (by decide) g)) }, fun q hq hn => (Below.heap_setCell _ _ _ _ (fun e => hn e)).trans (hk q hq hn)⟩
    · have ho' : { dst := some 12, op := Op.fieldAddr 32 (Operand.tmp 1) 5, type := 0, pos := z10, after := #[{ on := 0, ground := Ground.phase }, { on := 1, ground := Ground.phase }, { on := 2, ground := Ground.phase }, { on := 3, ground := Ground.phase }, { on := 4, ground := Ground.phase }, { on := 5, ground := Ground.phase }, { on := 6, ground := Ground.phase }, { on := 7, ground := Ground.phase }, { on := 8, ground := Ground.phase }, { on := 9, ground := Ground.phase }], guard := none } = o := Option.some.inj ho
      subst ho'
      refine wpOp_step (o := { dst := some 12, op := Op.fieldAddr 32 (Operand.tmp 1) 5, type := 0, pos := z10, after := #[{ on := 0, ground := Ground.phase }, { on := 1, ground := Ground.phase }, { on := 2, ground := Ground.phase }, { on := 3, ground := Ground.phase }, { on := 4, ground := Ground.phase }, { on := 5, ground := Ground.phase }, { on := 6, ground := Ground.phase }, { on := 7, ground := Ground.phase }, { on := 8, ground := Ground.phase }, { on := 9, ground := Ground.phase }], guard := none }) rfl (fun K hK' => ?_)
      have hK : ∀ a w, IH (L.setIfInBounds 10 true) a w → K a w := hK'
      rw [if_pos (by rfl)]
      unfold Oper.wp
      rw [show (execOp _ _).run Try.prog W = .ok (.value (.pointer (some ⟨b, 7, none⟩))) W from by kernel_rfl, Oper.upon_value]
      exact hK _ _ ⟨by simpa using hL, x3, x4, x5, x6, x7, x8, x9, x10, x11, _, rfl, { be := h.be, yb := by obtain ⟨y6, y7, B, e1, e2, e3, e4⟩ := h.yb; exact ⟨y6, y7, B, fun g => e1 (up (by decide) g), fun g => e2 (up (by decide) g), fun g => e3 (upF (by decide) g), fun g => e4 (upF (by decide) g)⟩, fz := h.fz, sz := h.sz, c0 := fun g g' => (h.c0 (up (by decide) g) (upF (by decide) g')), c1 := fun g => h.c1 (up (by decide) g), c2 := fun g => h.c2 (up (by decide) g), c3 := fun g => (h.c3 (up (by decide) g)), c4 := fun g g' => (h.c4 (up (by decide) g) (upF (by decide) g')), c5 := fun g => h.c5 (up (by decide) g), c6 := fun g => h.c6 (up (by decide) g), c7 := fun g => (h.c7 (up (by decide) g)), c8 := fun g => h.c8 (up (by decide) g), c10 := fun _ => rfl, d9 := fun g => on (h.d9 (up (by decide) g)), d11 := fun g => on (h.d11 (up (by decide) g)), d3 := fun g => on (h.d3 (up (by decide) g)), d7 := fun g => on (h.d7 (up (by decide) g)) }, hk⟩
    · have ho' : { dst := none, op := Op.store 30 (Operand.tmp 12) (Operand.tmp 10), type := 0, pos := z11, after := #[{ on := 10, ground := Ground.data }, { on := 7, ground := Ground.data }, { on := 9, ground := Ground.chain }, { on := 0, ground := Ground.phase }, { on := 1, ground := Ground.phase }, { on := 2, ground := Ground.phase }, { on := 3, ground := Ground.phase }, { on := 4, ground := Ground.phase }, { on := 5, ground := Ground.phase }, { on := 6, ground := Ground.phase }, { on := 7, ground := Ground.phase }, { on := 8, ground := Ground.phase }, { on := 9, ground := Ground.phase }], guard := none } = o := Option.some.inj ho
      subst ho'
      obtain rfl := h.c10 (hd { on := 10, ground := .data } (by simp) (by rfl))
      have o1 := h.c7 (hd { on := 7, ground := .data } (by simp) (by rfl))
      have l2 := h.d7 (hd { on := 7, ground := .data } (by simp) (by rfl))
      obtain ⟨A1, j1, rfl⟩ := ownsRow_slice o1
      obtain ⟨y6, y7, B, e1, e2, e3, e4⟩ := h.yb
      have y := B.c7
      have z := h.fz 7
      refine wpOp_step (o := { dst := none, op := Op.store 30 (Operand.tmp 12) (Operand.tmp 10), type := 0, pos := z11, after := #[{ on := 10, ground := Ground.data }, { on := 7, ground := Ground.data }, { on := 9, ground := Ground.chain }, { on := 0, ground := Ground.phase }, { on := 1, ground := Ground.phase }, { on := 2, ground := Ground.phase }, { on := 3, ground := Ground.phase }, { on := 4, ground := Ground.phase }, { on := 5, ground := Ground.phase }, { on := 6, ground := Ground.phase }, { on := 7, ground := Ground.phase }, { on := 8, ground := Ground.phase }, { on := 9, ground := Ground.phase }], guard := none }) rfl (fun K hK' => ?_)
      have hK : ∀ a w, IH (L.setIfInBounds 11 true) a w → K a w := hK'
      go_simp
      exact hK _ _ ⟨by simpa using hL, x3, x4, x5, x6, x7, x8, x9, _, x11, _, rfl, { be := h.be.setCell (by show w.heap.size ≤ b; omega) _, yb := ⟨y6, _, B.set7 _, fun g => e1 (up (by decide) g), fun _ => rfl, fun g => e3 (upF (by decide) g), fun g => absurd (on (i := 11) l2) (by rw [g]; simp)⟩, fz := fun o => by rw [World.frozen?_setCell]; exact h.fz o, sz := by simpa [World.setCell] using hs, c0 := fun g g' => ownsRow_set (h.c0 (up (by decide) g) (upF (by decide) g')) bl _, c1 := fun g => h.c1 (up (by decide) g), c2 := fun g => h.c2 (up (by decide) g), c3 := fun g => ownsRow_set (h.c3 (up (by decide) g)) bl _, c4 := fun g g' => ownsRow_set (h.c4 (up (by decide) g) (upF (by decide) g')) bl _, c5 := fun g => h.c5 (up (by decide) g), c6 := fun g => h.c6 (up (by decide) g), c7 := fun g => ownsRow_set (h.c7 (up (by decide) g)) bl _, c8 := fun g => h.c8 (up (by decide) g), c10 := fun g => h.c10 (up (by decide) g), d9 := fun g => on (h.d9 (up (by decide) g)), d11 := fun _ => on (hd { on := 7, ground := .data } (by simp) (by rfl)), d3 := fun g => on (h.d3 (up (by decide) g)), d7 := fun g => on (h.d7 (up (by decide) g)) }, fun q hq hn => (Below.heap_setCell _ _ _ _ (fun e => hn e)).trans (hk q hq hn)⟩
  · intro L A W hI hr
    obtain ⟨hL, x3, x4, x5, x6, x7, x8, x9, x10, x11, x12, rfl, h, hk⟩ := hI
    have all : ∀ j, j < 12 → L.getD j false = true := all_listed (by kernel_rfl) hL hr
    have o1 := h.c3 (all 3 (by decide))
    have o2 := h.c7 (all 7 (by decide))
    obtain ⟨y6, y7, B, e1, e2, e3, e4⟩ := h.yb
    obtain rfl := e1 (all 9 (by decide))
    obtain rfl := e2 (all 11 (by decide))
    obtain ⟨A1, j1, rfl⟩ := ownsRow_slice o1
    obtain ⟨D1, g1, rfl⟩ := ownsRow_slice o2
    exact fin _ _ _ _ _ _ _ _ _ _ A1 j1 D1 g1 W B o1 o2 h.be h.fz hk
end Go.Proofs.Ytgaglcfoodbcfaa
