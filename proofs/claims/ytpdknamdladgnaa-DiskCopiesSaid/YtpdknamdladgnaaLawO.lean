/- The walk of DiskOrder; two disks side by side; no conditions. -/
import Derived.Test.YtpdknamdladgnaaLawN
import Derived.Test.YtpdknamdladgnaaRef
namespace Go.Proofs.Ytpdknamdladgnaa
open Go.RowKit

/-- Two disks that stand apart. -/
structure Two (w wk : World) (g : Nat) (F : Nat → Prop) (s : M.St) (h : Nat) (H : Nat → Prop) (t : M.St) : Prop where
  one : Live w wk g F s
  two : Live w wk h H t
  apart : ∀ x, F x → ¬ H x
theorem Two.swap {w wk : World} {g h : Nat} {F H : Nat → Prop} {s t : M.St} (T : Two w wk g F s h H t) : Two w wk h H t g F s := ⟨T.two, T.one, fun x e f => T.apart x f e⟩
theorem Two.on {w wk w' : World} {g h : Nat} {F H : Nat → Prop} {s t : M.St} (T : Two w wk g F s h H t) (hb : Below wk.heap.size wk w') : Two w w' g F s h H t := ⟨T.one.on hb, T.two.on hb, T.apart⟩
theorem Two.left {w wk w' : World} {g h : Nat} {F H : Nat → Prop} {s s' t : M.St} (T : Two w wk g F s h H t) (k : ∃ F', Disk w' g F' s' ∧ Keeps F wk w' ∧ Grew F F' wk w') : ∃ F', Two w w' g F' s' h H t := by
  obtain ⟨F', hd, hk, hg⟩ := k
  have := T.one.below.size
  have hb : Below w.heap.size w w' := T.one.below.trans (hk.below T.one.mine this)
  refine ⟨F', ⟨hd, hb, fun x e => (hg.1 x e).elim (T.one.mine x) (fun e => by omega)⟩, ⟨T.two.disk.keeps hk fun x e f => T.apart x f e, hb, T.two.mine⟩, fun x e f => ?_⟩
  rcases hg.1 x e with e | e
  · exact T.apart x e f
  · have := T.two.disk.lt x f; omega
theorem Live.far {w wk : World} {g : Nat} {F : Nat → Prop} {s : M.St} (h : Live w wk g F s) {v : Value} {xs : List UInt8} (hb : Bts w v xs) (h0 : xs ≠ []) : In (fun x => ¬ F x) v := (hb.in_ h0).wide fun x e f => by have := h.mine x f; omega

theorem app_nil {a : List UInt8} (h : a.length ≤ 200) : M.app a (M.nil 200) = ⟨200, a, 0⟩ ∧ M.appE a (M.nil 200) = 0 := by simp [M.app, M.appE, M.nil, h]
theorem app_two {a b : List UInt8} (h : a.length + b.length ≤ 200) : M.app b ⟨200, a, 0⟩ = ⟨200, a ++ b, 0⟩ ∧ M.appE b ⟨200, a, 0⟩ = 0 := by simp [M.app, M.appE, h]

set_option maxHeartbeats 2000000 in
theorem order_law {w : World} {va vb : Value} {a b : List UInt8} (h : Bts w va a) (h' : Bts w vb b) : Calls Try.prog 9 #[va, vb] w (Yes w) := by
  have HA := Lib.hid h
  have HB := Lib.hid h'
  obtain ⟨A, c, rfl, hc, -⟩ := h.opened
  obtain ⟨A', c', rfl, hc', -⟩ := h'.opened
  clear h h'
  by_cases ha : a.length ≤ 100
  · have ha1 : (a.length : Int) ≤ 100 := by omega
    by_cases hb : b.length ≤ 100
    · have hb1 : (b.length : Int) ≤ 100 := by omega
      have N1 := Lib.hid (app_nil (a := a) (by omega))
      have N2 := Lib.hid (app_two (a := a) (b := b) (by omega))
      have N3 := Lib.hid (app_nil (a := a ++ b) (by simp; omega))
      go_enter Try.func9, Try.ntmps9
      go_wp2_with (fail)
      refine (new_any 200 w (by omega)).mono ?_
      rintro e w1 ⟨rfl, hd, hb⟩
      have L1 := Lib.hid (Live.new hd hb)
      clear hd hb
      go_wp2_with (fail)
      refine (new_any 200 w1 (by omega)).mono ?_
      rintro e w2 ⟨rfl, hd, hb⟩
      have T2 := Lib.hid (show Two w w2 w.heap.size (fun x => x = w.heap.size) (M.nil 200) w1.heap.size (fun x => x = w1.heap.size) (M.nil 200) from ⟨L1.out.on hb, ⟨hd, below_on L1.out.below hb, fun x e => by have := L1.out.below.size; omega⟩, fun x e f => by have := L1.out.disk.lt x e; omega⟩)
      clear hd hb L1
      go_wp2_with (fail)
      refine (appendD_any T2.out.one.disk (HA.out.below T2.out.one.below) (fun h0 => T2.out.one.far HA.out h0)).mono ?_
      rintro e w3 ⟨rfl, hs⟩
      obtain ⟨F3, hT⟩ := T2.out.left hs
      rw [N1.out.1] at hT
      rw [N1.out.2]
      have T3 := Lib.hid hT
      clear hs hT T2
      go_wp2_with (fail)
      refine (appendD_any T3.out.one.disk (HB.out.below T3.out.one.below) (fun h0 => T3.out.one.far HB.out h0)).mono ?_
      rintro e w4 ⟨rfl, hs⟩
      obtain ⟨F4, hT⟩ := T3.out.left hs
      rw [N2.out.1] at hT
      rw [N2.out.2]
      have T4 := Lib.hid hT.swap
      clear hs hT T3
      have nb := below_new (o := .cells #[] 5) (Below.refl w4.heap.size w4)
      obtain ⟨v1, w5, v2, w6, hr1, b1, hr2, b2, ⟨A3, c3, rfl, hc3⟩, ho⟩ := join_two (Bare.new w4) ((HA.out.below T4.out.one.below).below nb) (fun W' k => ((HB.out.below T4.out.one.below).below (nb.trans (k.below (B := w4.heap.size) (fun x e => by omega) (by simp))))) (by omega)
      obtain ⟨A4, c4, rfl, hc4⟩ := ho.slice
      have b6 := nb.trans (b2.below (B := w4.heap.size) (fun x e => by omega) (by simp))
      have T6 := Lib.hid (T4.out.on b6)
      have IN := Lib.hid (show In (fun x => ¬ (fun x => x = w1.heap.size) x) (.slice A4 (a ++ b).length c4) from ho.in_.wide fun x e f => by
        have := T4.out.one.disk.lt x f
        simp at e
        omega)
      have HO := Lib.hid ho.bts
      rw [List.length_append] at hr2 IN HO
      clear nb b1 b2 ho b6 T4
      go_wp2_with (first | (at_builtin; refine Lib.wpList_append_run _ rfl (.tmp 28) (.tmp 29) _ _ rfl _ _ rfl rfl _ _ hr1 ?_) | (at_builtin; refine Lib.wpList_append_run _ rfl (.tmp 30) (.tmp 31) _ _ rfl _ _ rfl rfl _ _ hr2 ?_))
      refine (appendD_any T6.out.one.disk HO.out (fun _ => IN.out)).mono ?_
      rintro e w7 ⟨rfl, hs⟩
      obtain ⟨F7, hT⟩ := T6.out.left hs
      rw [N3.out.1] at hT
      rw [N3.out.2]
      have T7 := Lib.hid hT
      clear hs hT T6 hr1 hr2 HO IN
      go_wp2_with (fail)
      refine (bytes_any T7.out.two.disk).mono ?_
      rintro e w8 ⟨rfl, hB, hb⟩
      have T8 := Lib.hid (T7.out.on hb)
      have B8 := Lib.hid hB
      clear hb hB T7
      go_wp2_with (fail)
      refine (bytes_any T8.out.one.disk).mono ?_
      rintro e w9 ⟨rfl, hB, hb⟩
      have T9 := Lib.hid (T8.out.on hb)
      have S9 := Lib.hid (same_any (B8.out.below hb).bts hB.bts (by simp; omega))
      clear hb hB T8 B8
      simp only [List.length_append] at S9
      go_wp2_with (fail)
      refine S9.out.mono ?_
      rintro e w10 ⟨rfl, hb⟩
      rw [M.sameB_refl]
      have T10 := Lib.hid (T9.out.on hb)
      clear hb S9 T9
      go_wp2_with (fail)
      refine (room_any T10.out.two.disk).mono ?_
      rintro e w11 ⟨rfl, hb⟩
      have T11 := Lib.hid (T10.out.on hb)
      clear hb T10
      go_wp2_with (fail)
      refine (room_any T11.out.one.disk).mono ?_
      rintro e w12 ⟨rfl, hb⟩
      have T12 := Lib.hid (T11.out.on hb)
      clear hb T11
      go_wp2_with (fail)
      refine (awake_on T12.out.one.below).mono ?_
      rintro e w13 ⟨rfl, hb⟩
      go_wp2
      go_ret
      exact ⟨rfl, hb⟩
    · have hb1 : 100 < (b.length : Int) := by omega
      go_enter Try.func9, Try.ntmps9
      go_wp2_with (fail)
      refine (awake_any w).mono ?_
      rintro e w1 ⟨rfl, hb⟩
      go_wp2
      go_ret
      exact ⟨rfl, hb⟩
  · have ha1 : 100 < (a.length : Int) := by omega
    go_enter Try.func9, Try.ntmps9
    go_wp2_with (fail)
    refine (awake_any w).mono ?_
    rintro e w1 ⟨rfl, hb⟩
    go_wp2
    go_ret
    exact ⟨rfl, hb⟩
end Go.Proofs.Ytpdknamdladgnaa
