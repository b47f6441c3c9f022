/- Contracts of the document's Sync and Replace; no conditions but the lengths that they name. -/
import Derived.Test.YtpdknamdladgnaaRefB
namespace Go.Proofs.Ytpdknamdladgnaa
open Go.RowKit

theorem made_drew {W w' : World} {xs : List UInt8} {e : Ending} (h : Made W.drew xs e w') : Made W xs e w' := by
  obtain ⟨v, he, ho, hb⟩ := h
  exact ⟨v, he, ho, ⟨hb.os, hb.tape, hb.output, hb.size, hb.block⟩⟩
theorem made_drewN {W w' : World} {n : Nat} {xs : List UInt8} {e : Ending} (h : Made (W.drewN n) xs e w') : Made W xs e w' := by
  obtain ⟨v, he, ho, hb⟩ := h
  exact ⟨v, he, ho, ⟨hb.os, hb.tape, hb.output, hb.size, hb.block⟩⟩
/-- A document's disk written into a block. -/
def fill (w : World) (b : Nat) (x y u : Value) : World := ((w.setCell ⟨b, 0, none⟩ x).setCell ⟨b, 1, none⟩ y).setCell ⟨b, 2, none⟩ u
theorem fill_told {w w1 : World} {R R' : Nat → Prop} {b' z : Nat} {v0 u0 v u : Value} {z0 : Int} {p q : List UInt8} {x : Value → Ending} (hb : Below w.heap.size w w1) (_hY : Box w1 b' v0 u0 z0) (hw : w.heap.size ≤ b') (h1 : Bts w1 v p) (h2 : Bts w1 u q) (i1 : In R' v) (i2 : In R' u) (hn : ¬ R' b')
    (hl : ∀ x, R' x → x < w1.heap.size) (hR : ∀ x, R' x → R x ∨ w.heap.size ≤ x) (h6 : p.length + q.length ≤ z) (h7 : z ≤ 1048576) : Told x w R ⟨z, p ++ q, p.length⟩ (x (.agg #[v, u, .int .i64 z])) (fill w1 b' v u (.int .i64 z)) := by
  have k := keeps_fill w1 b' v u (.int .i64 z)
  have hs := hb.size
  have h3 : ∀ y, R' y → ¬ y = b' := fun y hy e => hn (e ▸ hy)
  exact ⟨_, R', rfl, Doc.mk (h1.keeps i1 k h3) (h2.keeps i2 k h3) i1 i2 (fun y hy => Nat.lt_of_lt_of_le (hl y hy) k.size) h6 h7, hb.trans (k.below (B := w.heap.size) (fun y e => by omega) hs), hR⟩

set_option maxHeartbeats 2000000 in
theorem rsync_any {w : World} {R : Nat → Prop} {r : Value} {s : M.St} (h : Doc w R r s) : Calls Try.prog 27 #[r] w (Told (fun q => .returned q) w R (M.syn s)) := by
  have HD := h
  obtain ⟨z, a, b, A1, c1, A2, c2, rfl, rfl, h1, h2, i1, i2, hR, hc1, hc2, hl, hz⟩ := h.opened
  obtain ⟨W, hW⟩ : ∃ W, W = ((w.alloc (.cells #[.slice A1 a.length c1, .slice A2 b.length c2, .int .i64 z] 29)).alloc (.cells #[.slice none 0 0, .slice none 0 0, .int .i64 0] 29)) := ⟨_, rfl⟩
  have nb : Below w.heap.size w W := by rw [hW]; exact below_new (below_new (Below.refl _ _))
  have hs : W.heap.size = w.heap.size + 2 := by rw [hW]; simp
  have hX : Box W w.heap.size (.slice A1 a.length c1) (.slice A2 b.length c2) z := by rw [hW]; exact (Box.new w _ _ _).below (below_new (Below.refl _ _))
  have hY : Box W (w.heap.size + 1) (.slice none 0 0) (.slice none 0 0) 0 := by
    rw [hW]
    have := (Box.new (w.alloc (.cells #[.slice A1 a.length c1, .slice A2 b.length c2, .int .i64 z] 29)) (.slice none 0 0) (.slice none 0 0) 0)
    rwa [show (w.alloc (.cells #[.slice A1 a.length c1, .slice A2 b.length c2, .int .i64 z] 29)).heap.size = w.heap.size + 1 by simp] at this
  have HW := Lib.hid (HD.below nb)
  have HX := Lib.hid hX
  have HY := Lib.hid hY
  have NB := Lib.hid nb
  have HS := Lib.hid hs
  obtain ⟨x0, x1, x2⟩ := hX.at_
  have l1 := hX.lt
  have l2 := hY.lt
  clear h HD h1 h2 i1 i2 hR nb hs hX hY
  go_enter Try.func27, Try.ntmps27
  go_wp2
  rw [← hW]
  clear hW
  go_region_with (go_at_call 31; refine Calls.mono (all_any (R := R) (s := ⟨z, a ++ b, a.length⟩) (by exact HW.out)) ?_; intro e w1 hm; have hm' := made_drew hm; clear hm; obtain ⟨v1, rfl, ho, hb1⟩ := hm'; obtain ⟨A3, c3, rfl, hc3⟩ := ho.slice; rw [List.length_append] at ho; rw [List.length_append]; have HO := Lib.hid ho; have HB := Lib.hid hb1; obtain ⟨t0, t1, t2⟩ := (HX.out.below hb1).at_; obtain ⟨y0, y1, y2⟩ := (HY.out.below hb1).at_; have f0 := (HY.out.below hb1).unfrozen 0; have f1 := (HY.out.below hb1).unfrozen 1; have f2 := (HY.out.below hb1).unfrozen 2; have l1' := Nat.lt_of_lt_of_le l1 hb1.size; have l2' := Nat.lt_of_lt_of_le l2 hb1.size; clear hb1 ho)
  all_goals
    clear x0 x1 x2 t0 t1 t2 y0 y1 y2
    have hb := HB.out
    have hs := HS.out
    have hY := HY.out.below hb
    obtain ⟨y0, y1, y2⟩ := (hY.fill (.slice A3 (a.length + b.length) c3) (.slice none 0 0) z).at_
    have T := Lib.hid (fill_told (x := fun q => .returned q) (R := R) (NB.out.trans (hb.mono NB.out.size)) hY (by omega) HO.out.bts (Bts.nil w1 none 0) HO.out.in_ (In.nil _ 0 0) (by omega) (fun x e => e.2) (fun x e => .inr (by have := NB.out.size; omega)) (by simpa using hl) hz)
    rw [List.append_nil] at T
    clear hb hs hY
    go_wp2
    exact bodyPost_ret (v := .agg #[.slice A3 (a.length + b.length) c3, .slice none 0 0, .int .i64 z]) (by simp [results, Try.results27, go_sem, y0, y1, y2]) rfl T.out
end Go.Proofs.Ytpdknamdladgnaa
