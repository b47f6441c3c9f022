/- Contracts of the document's Append and Sync; no conditions but the lengths that they name. -/
import Derived.Test.YtpdknamdladgnaaRef
namespace Go.Proofs.Ytpdknamdladgnaa
open Go.RowKit

theorem Box.set1 {w : World} {b : Nat} {v u : Value} {z : Int} (h : Box w b v u z) (x : Value) : Box (w.setCell ⟨b, 1, none⟩ x) b v x z := by
  unfold Box at h ⊢
  rw [heap_setCell_same w b 1 _ 29 _ h]; rfl

theorem Box.fill {w : World} {b : Nat} {v u : Value} {z : Int} (h : Box w b v u z) (x y : Value) (n : Int) : Box (((w.setCell ⟨b, 0, none⟩ x).setCell ⟨b, 1, none⟩ y).setCell ⟨b, 2, none⟩ (.int .i64 n)) b x y n := by
  unfold Box at h ⊢
  have h1 := heap_setCell_same w b 0 _ 29 x h
  have h2 := heap_setCell_same _ b 1 _ 29 y h1
  rw [heap_setCell_same _ b 2 _ 29 _ h2]; rfl
theorem keeps_fill (w : World) (b : Nat) (x y u : Value) : Keeps (fun k => k = b) w (((w.setCell ⟨b, 0, none⟩ x).setCell ⟨b, 1, none⟩ y).setCell ⟨b, 2, none⟩ u) :=
  (((Keeps.refl (fun k => k = b) w).setCell (p := ⟨b, 0, none⟩) (.inl rfl) x).setCell (p := ⟨b, 1, none⟩) (.inl rfl) y).setCell (p := ⟨b, 2, none⟩) (.inl rfl) u
theorem Box.apart {w : World} {g : Nat} {v u : Value} {z : Int} (h : Box w g v u z) {F : Nat → Prop} {r : Value} {xs : List UInt8} (hr : OwnB F w r xs) : r.ownBlock ≠ some g := by
  rcases hr with ⟨rfl, _⟩ | ⟨b, cap, cur, rfl, _, hh, _⟩
  · simp [Value.ownBlock]
  · intro e
    simp only [Value.ownBlock, Option.some.injEq] at e
    subst e
    unfold Box at h
    rw [hh] at h
    simp at h

set_option maxHeartbeats 2000000 in
theorem rapp_any {w : World} {R : Nat → Prop} {r nv : Value} {s : M.St} {new : List UInt8} (h : Doc w R r s) (hn : Bts w nv new) (hnl : new.length ≤ 1000000) :
    Calls Try.prog 26 #[r, nv] w (Told (fun q => .returned (.tuple #[q, .int .i64 (M.appE new s)])) w R (M.app new s)) := by
  have HD := Lib.hid h
  obtain ⟨z, a, b, A1, c1, A2, c2, rfl, rfl, h1, h2, i1, i2, hR, hc1, hc2, hl, hz⟩ := h.opened
  obtain ⟨A5, c5, rfl, hc5, -⟩ := hn.opened
  have nb : Below w.heap.size w ((w.alloc (.cells #[.slice A1 a.length c1, .slice A2 b.length c2, .int .i64 z] 29)).alloc (.cells #[.slice none 0 0, .slice none 0 0, .int .i64 0] 29)) := below_new (below_new (Below.refl _ _))
  by_cases hf : a.length + b.length + new.length ≤ z
  · have HE := Lib.hid (show M.appE new ⟨z, a ++ b, a.length⟩ = 0 by simp [M.appE, hf])
    have HA := Lib.hid (show M.app new ⟨z, a ++ b, a.length⟩ = ⟨z, a ++ (b ++ new), a.length⟩ by simp [M.app, hf])
    rw [HE.out, HA.out]
    have nc : Below w.heap.size w (((w.alloc (.cells #[.slice A1 a.length c1, .slice A2 b.length c2, .int .i64 z] 29)).alloc (.cells #[.slice none 0 0, .slice none 0 0, .int .i64 0] 29)).alloc (.cells #[] 5)) := below_new nb
    have hs2 : ((w.alloc (.cells #[.slice A1 a.length c1, .slice A2 b.length c2, .int .i64 z] 29)).alloc (.cells #[.slice none 0 0, .slice none 0 0, .int .i64 0] 29)).heap.size = w.heap.size + 2 := by simp
    have hB : Bare (((w.alloc (.cells #[.slice A1 a.length c1, .slice A2 b.length c2, .int .i64 z] 29)).alloc (.cells #[.slice none 0 0, .slice none 0 0, .int .i64 0] 29)).alloc (.cells #[] 5)) (w.heap.size + 2) := by rw [← hs2]; exact Bare.new _
    have hX : Box (((w.alloc (.cells #[.slice A1 a.length c1, .slice A2 b.length c2, .int .i64 z] 29)).alloc (.cells #[.slice none 0 0, .slice none 0 0, .int .i64 0] 29)).alloc (.cells #[] 5)) w.heap.size (.slice A1 a.length c1) (.slice A2 b.length c2) z := (Box.new w _ _ _).below (below_new (below_new (Below.refl _ _)))
    have hY : Box (((w.alloc (.cells #[.slice A1 a.length c1, .slice A2 b.length c2, .int .i64 z] 29)).alloc (.cells #[.slice none 0 0, .slice none 0 0, .int .i64 0] 29)).alloc (.cells #[] 5)) (w.heap.size + 1) (.slice none 0 0) (.slice none 0 0) 0 := by
      have := (Box.new (w.alloc (.cells #[.slice A1 a.length c1, .slice A2 b.length c2, .int .i64 z] 29)) (.slice none 0 0) (.slice none 0 0) 0).below (below_new (o := .cells #[] 5) (Below.refl _ _))
      rwa [show (w.alloc (.cells #[.slice A1 a.length c1, .slice A2 b.length c2, .int .i64 z] 29)).heap.size = w.heap.size + 1 by simp] at this
    obtain ⟨v1, w1, v2, w2, hr1, b1, hr2, b2, ⟨A3, c3, rfl, hc3⟩, ho⟩ := join_two hB (h2.below nc) (fun W' k => hn.below (nc.trans (k.below (B := w.heap.size) (fun x e => by omega) (by simp; omega)))) (by omega)
    have hX2 := hX.keeps b2 (by omega)
    have hY2 := hY.keeps b2 (by omega)
    obtain ⟨A4, c4, rfl, hc4⟩ := ho.slice
    rw [List.length_append] at hr2
    have hX3 := hX2.set1 (.slice A4 (b.length + new.length) c4)
    have kX := (Keeps.refl (fun k => k = w.heap.size) w2).setCell (p := ⟨w.heap.size, 1, none⟩) (.inl rfl) (.slice A4 (b.length + new.length) c4)
    have hY3 := hY2.keeps kX (by omega)
    have hY4 := hY3.fill (.slice A1 a.length c1) (.slice A4 (b.length + new.length) c4) z
    have kY := keeps_fill (w2.setCell ⟨w.heap.size, 1, none⟩ (.slice A4 (b.length + new.length) c4)) (w.heap.size + 1) (.slice A1 a.length c1) (.slice A4 (b.length + new.length) c4) (.int .i64 z)
    have a1 := hX2.apart ho
    have a2 := hY2.apart ho
    have ho4 := (ho.keeps' kX fun x e eg => a1 (by rw [e, eg])).keeps' kY fun x e eg => a2 (by rw [e, eg])
    have b4 := (nc.trans (b2.below (B := w.heap.size) (fun x e => by omega) (by simp; omega))).trans ((kX.below (B := w.heap.size) (fun x e => by omega) (by have := hX2.lt; omega)).trans (kY.below (B := w.heap.size) (fun x e => by omega) (by have := hX3.lt; omega)))
    rw [List.length_append] at ho4
    have D4 := Lib.hid (Doc.mk (R := fun x => R x ∨ (x = w.heap.size + 2 ∨ ((((w.alloc (.cells #[.slice A1 a.length c1, .slice A2 b.length c2, .int .i64 z] 29)).alloc (.cells #[.slice none 0 0, .slice none 0 0, .int .i64 0] 29)).alloc (.cells #[] 5)).heap.size ≤ x ∧ x < w2.heap.size))) (h1.below b4) ho4.bts (i1.wide fun _ e => .inl e) (ho4.in_.wide fun _ e => .inr e) (fun x e => by
      have := b4.size
      have := kY.size
      have := kX.size
      have := hY4.lt
      have := b2.size
      rcases e with e | e
      · have := hR x e; omega
      · simp at *; omega) (by simpa [Nat.add_assoc] using hf) hz)
    have B4 := Lib.hid b4
    obtain ⟨x0, x1, x2⟩ := hX.at_
    obtain ⟨u0, u1, u2⟩ := hX3.at_
    obtain ⟨y0, y1, y2⟩ := hY4.at_
    have f1 := hX2.unfrozen 1
    have e1 := hX2.at_.2.1
    have hS := hR
    have hT := Lib.hid (show ∀ x, x = w.heap.size + 2 ∨ ((((w.alloc (.cells #[.slice A1 a.length c1, .slice A2 b.length c2, .int .i64 z] 29)).alloc (.cells #[.slice none 0 0, .slice none 0 0, .int .i64 0] 29)).alloc (.cells #[] 5)).heap.size ≤ x ∧ x < w2.heap.size) → w.heap.size ≤ x from fun x e => by simp at e; omega)
    obtain ⟨v0, v1', v2'⟩ := hY3.at_
    have g0 := hY3.unfrozen 0
    have g1 := hY3.unfrozen 1
    have g2 := hY3.unfrozen 2
    have l1 := hX2.lt
    have l2 := hY2.lt
    clear h nb hn h1 h2 i1 i2 hR nc hs2 hB hX hY b1 b2 hX2 hY2 ho hX3 hY3 hY4 kX kY a1 a2 ho4 b4 hS
    go_enter Try.func26, Try.ntmps26
    go_wp2_with (first | (at_builtin; refine Lib.wpList_append_run _ rfl (.tmp 20) (.tmp 22) _ _ rfl _ _ rfl rfl _ _ hr1 ?_) | (at_builtin; refine Lib.wpList_append_run _ rfl (.tmp 23) (.tmp 24) _ _ rfl _ _ rfl rfl _ _ hr2 ?_))
    exact bodyPost_ret (v := .tuple #[.agg #[.slice A1 a.length c1, .slice A4 (b.length + new.length) c4, .int .i64 z], .int .i64 0]) (by simp [results, Try.results26, go_sem, y0, y1, y2]) rfl ⟨_, _, rfl, D4.out, B4.out, fun x e => e.imp id (hT.out x)⟩
  · have HE := Lib.hid (show M.appE new ⟨z, a ++ b, a.length⟩ = 7 by simp [M.appE, hf])
    have HA := Lib.hid (show M.app new ⟨z, a ++ b, a.length⟩ = ⟨z, a ++ b, a.length⟩ by simp [M.app, hf])
    rw [HE.out, HA.out]
    have HN := Lib.hid nb
    clear h nb hn h1 h2 i1 i2 hR
    go_enter Try.func26, Try.ntmps26
    go_wp2
    exact bodyPost_ret (v := .tuple #[.agg #[.slice A1 a.length c1, .slice A2 b.length c2, .int .i64 z], .int .i64 7]) (by simp [results, Try.results26, go_sem]) rfl ⟨_, R, rfl, HD.out.below (below_new (below_new (Below.refl _ _))), below_new (below_new (Below.refl _ _)), fun _ e => .inl e⟩
end Go.Proofs.Ytpdknamdladgnaa
