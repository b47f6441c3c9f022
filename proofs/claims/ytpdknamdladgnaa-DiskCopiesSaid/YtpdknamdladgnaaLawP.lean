/- The walk of DiskPlays; no conditions. -/
import Derived.Test.YtpdknamdladgnaaDoesE
import Derived.Test.YtpdknamdladgnaaIs
import Derived.Test.YtpdknamdladgnaaArgs
namespace Go.Proofs.Ytpdknamdladgnaa
open Go.RowKit

theorem sizeB_yes {z : Nat} (h : z ≤ 1048576) : M.sizeB z = true := by simp [M.sizeB]; omega
theorem sizeB_no {n : Int} (h : ¬ (0 ≤ n ∧ n ≤ 1048576)) : M.sizeB n = false := by simp [M.sizeB]; omega
theorem few_at {l : List M.Do} (h : M.few l = true) {i : Nat} (hi : i < l.length) : (l.getD i do0).b.length ≤ 100 := by
  rw [List.getD, List.getElem?_eq_getElem hi]
  exact (M.few_iff.1 h).1 _ (List.getElem_mem hi)
/-- The first steps, and one more. -/
theorem steps_take {l : List M.Do} {k : Nat} (s : M.St) (h : k < l.length) : M.steps s (l.take (k + 1)) = M.step (M.steps s (l.take k)) (l.getD k do0) := by
  rw [List.take_add_one, List.getElem?_eq_getElem h, Option.toList_some, M.steps_snoc, List.getD, List.getElem?_eq_getElem h]; rfl

set_option maxHeartbeats 4000000 in
theorem plays_law (n : Int) {w : World} {v : Value} {l : List M.Do} (h : Dos w v l) : Calls Try.prog 3 #[.int .i64 n, v] w (Yes w) := by
  have HF := Lib.hid (few_any h)
  obtain ⟨A, c, rfl, hc, hm, hx⟩ := h
  unfold maxLen at hm
  have HX := Lib.hid hx
  clear hx
  cases hfew : M.few l with
  | false =>
    rw [hfew] at HF
    clear hfew
    go_enter Try.func3, Try.ntmps3
    go_wp2_with (fail)
    refine HF.out.mono ?_
    rintro e w1 ⟨rfl, hb⟩
    have HB := Lib.hid hb
    clear hb
    go_wp2_with (fail)
    refine (awake_on HB.out).mono ?_
    rintro e w2 ⟨rfl, hb⟩
    go_wp2
    go_ret
    exact ⟨rfl, hb⟩
  | true =>
    rw [hfew] at HF
    have FW := Lib.hid hfew
    clear hfew
    by_cases hn : 0 ≤ n ∧ n ≤ 1048576
    · obtain ⟨z, rfl⟩ : ∃ z : Nat, n = z := ⟨n.toNat, by omega⟩
      have hz : z ≤ 1048576 := by omega
      clear hn
      have HZ := Lib.hid (sizeB_yes hz)
      go_enter Try.func3, Try.ntmps3
      go_wp2_with (fail)
      refine HF.out.mono ?_
      rintro e w1 ⟨rfl, hb⟩
      have B1 := Lib.hid hb
      clear hb
      go_wp2_with (fail)
      refine (new_any z w1 hz).mono ?_
      rintro e w2 ⟨rfl, hd, hb⟩
      have L2 := Lib.hid (show Live w w2 w1.heap.size (fun x => x = w1.heap.size) (M.nil z) from ⟨hd, below_on B1.out hb, fun x e => by have := B1.out.size; omega⟩)
      clear hd hb
      go_wp2_with (fail)
      refine (rnew_any z w2).mono ?_
      rintro e w3 ⟨rfl, hb⟩
      rw [HZ.out]
      have hbn := below_new (o := .cells #[.slice none 0 0, .slice none 0 0, .int .i64 z] 29) (Below.refl w3.heap.size w3)
      have P4 := Lib.hid (show Pair w (w3.alloc (.cells #[.slice none 0 0, .slice none 0 0, .int .i64 z] 29)) w1.heap.size (fun x => x = w1.heap.size) (M.nil z) (fun _ => False) (.agg #[.slice none 0 0, .slice none 0 0, .int .i64 z]) (M.nil z) from ⟨(L2.out.on hb).on hbn, Doc.nil _ z hz, fun _ _ e => e, fun _ e => e.elim⟩)
      have X4 := Lib.hid (Box.new w3 (.slice none 0 0) (.slice none 0 0) z)
      have hr1 := Lib.hid (show w.heap.size ≤ w3.heap.size ∧ w1.heap.size < w3.heap.size from ⟨(below_on L2.out.below hb).size, Nat.lt_of_lt_of_le (L2.out.disk.lt _ rfl) hb.size⟩)
      obtain ⟨rb, hrb⟩ : ∃ rb, rb = w3.heap.size := ⟨_, rfl⟩
      rw [← hrb] at X4 hr1
      have HRB := Lib.hid hrb
      clear hb hbn hrb
      have hg0 := Lib.hid (show w.heap.size ≤ w1.heap.size from B1.out.size)
      generalize w1.heap.size = g at *
      go_wp2
      rw [← HRB.out]
      go_loopw [40] (fun i wr => ∃ (k : Nat) (F R : Nat → Prop) (A1 : Option Addr) (n1 c1 : Nat) (A2 : Option Addr) (n2 c2 zz : Nat), k ≤ l.length ∧ i = .int .i64 k ∧ Hid (Pair w wr g F (M.steps (M.nil z) (l.take k)) R (.agg #[.slice A1 n1 c1, .slice A2 n2 c2, .int .i64 zz]) (M.steps (M.nil z) (l.take k))) ∧ Hid (Box wr rb (.slice A1 n1 c1) (.slice A2 n2 c2) zz) ∧ Hid (¬ F rb ∧ ¬ R rb)) (fun i _ => l.length - (intOf i).toNat)
      case atStart => exact ⟨0, _, _, none, 0, 0, none, 0, 0, z, Nat.zero_le _, rfl, P4, X4, ⟨fun e => by have := hr1.out.2; omega, fun e => e⟩⟩
      case round =>
        obtain ⟨k, F, R, A1, n1, c1, A2, n2, c2, zz, hk, rfl, PR, XB, NR⟩ := hrel
        clear P4 X4
        by_cases hlt : k < l.length
        · obtain ⟨b, o, rfl, hb, hy⟩ := HX.out (by omega)
          obtain ⟨sv, hd⟩ := hy k hlt
          have hd2 := hd.below hb PR.out.live.below
          have hbl := Nat.lt_of_lt_of_le hb PR.out.live.below.size
          have hfl := few_at FW.out hlt
          have ST := Lib.hid (steps_take (M.nil z) hlt)
          clear hy hd
          generalize l.getD k do0 = d at *
          obtain ⟨c0, c1', c2', c3, c4, hbt⟩ := hd2
          obtain ⟨A5, c5, rfl, -, -⟩ := hbt.opened
          obtain ⟨x0, x1, x2⟩ := XB.out.at_
          have hk1 : (k : Int) < (l.length : Int) := by omega
          have nb := below_new (o := .cells #[.int .i64 d.verb, .int .i64 d.n, .int .i64 d.pos, .int .u8 (d.mask.toNat : Int), .slice A5 d.b.length c5] 33) (Below.refl wr.heap.size wr)
          have PD := Lib.hid (PR.out.on nb)
          have XD := Lib.hid (XB.out.below nb)
          have DD := Lib.hid (does_any d PD.out.live.disk PD.out.doc PD.out.apart (hbt.below nb) (by omega))
          have lx := XB.out.lt
          clear hbt nb
          go_wp2_with (fail)
          refine DD.out.mono ?_
          intro e w2 hD
          obtain ⟨q, F', R', rfl, hP, hkk, hF, hR⟩ := PD.out.does d hD
          rw [M.alike_refl]
          obtain ⟨z5, a5, b5, A6, c6, A7, c7, -, rfl, -, -, -, -, -, -, -, -, -⟩ := hP.doc.opened
          have lxd := XD.out.lt
          have hX2 := XD.out.keeps hkk NR.out.1
          have hn' := Lib.hid (show ¬ F' rb ∧ ¬ R' rb from ⟨fun e => (hF rb e).elim NR.out.1 (fun e => by omega), fun e => (hR rb e).elim NR.out.2 (fun e => by omega)⟩)
          obtain ⟨t0, t1, t2⟩ := hX2.at_
          have g0 := hX2.unfrozen 0
          have g1 := hX2.unfrozen 1
          have g2 := hX2.unfrozen 2
          have hX3 := hX2.fill (.slice A6 a5.length c6) (.slice A7 b5.length c7) z5
          obtain ⟨y0, y1, y2⟩ := hX3.at_
          have hP3 := hP.fill hn'.out.1 hn'.out.2 hr1.out.1 (.slice A6 a5.length c6) (.slice A7 b5.length c7) (.int .i64 z5)
          have l2 := hX2.lt
          have nq := below_new (o := .cells #[.slice A6 a5.length c6, .slice A7 b5.length c7, .int .i64 z5] 29) (Below.refl (fill w2 rb (.slice A6 a5.length c6) (.slice A7 b5.length c7) (.int .i64 z5)).heap.size (fill w2 rb (.slice A6 a5.length c6) (.slice A7 b5.length c7) (.int .i64 z5)))
          rw [← ST.out] at hP3
          have PQ := Lib.hid (hP3.on nq)
          have XQ := Lib.hid (Box.below (w := fill w2 rb (.slice A6 a5.length c6) (.slice A7 b5.length c7) (.int .i64 z5)) hX3 nq)
          have IS := Lib.hid (is_any PQ.out.live.disk PQ.out.doc)
          clear hP hkk hX2 hX3 hP3 nq hF hR hD DD PD XD PR XB NR x0 x1 x2
          go_wp2_with (fail)
          refine IS.out.mono ?_
          rintro e w5 ⟨rfl, hb5⟩
          have P5 := Lib.hid (PQ.out.on hb5)
          have X5 := Lib.hid (XQ.out.below hb5)
          clear hb5 IS PQ XQ
          go_wp2
          go_roundw
          case rel => exact ⟨k + 1, F', R', A6, a5.length, c6, A7, b5.length, c7, z5, by omega, by go_num, P5, X5, hn'⟩
          case measure => simp [intOf]; omega
        · have hk1 : (l.length : Int) ≤ (k : Int) := by omega
          go_wp2_with (fail)
          refine (awake_on PR.out.live.below).mono ?_
          rintro e w2 ⟨rfl, hb⟩
          go_wp2
          go_ret
          exact ⟨rfl, hb⟩
    · have HZ := Lib.hid (sizeB_no hn)
      go_enter Try.func3, Try.ntmps3
      go_wp2_with (fail)
      refine HF.out.mono ?_
      rintro e w1 ⟨rfl, hb⟩
      have B1 := Lib.hid hb
      clear hb
      go_wp2_with (fail)
      refine (new_bad n w1 hn).mono ?_
      rintro e w2 ⟨rfl, rfl⟩
      go_wp2_with (fail)
      refine (rnew_any n w1).mono ?_
      rintro e w3 ⟨rfl, hb⟩
      rw [HZ.out]
      have B3 := Lib.hid (below_new (o := .cells #[.slice none 0 0, .slice none 0 0, .int .i64 n] 29) (below_on B1.out hb))
      clear hb
      go_wp2_with (fail)
      refine (awake_on B3.out).mono ?_
      rintro e w2 ⟨rfl, hb⟩
      go_wp2
      go_ret
      exact ⟨rfl, hb⟩
end Go.Proofs.Ytpdknamdladgnaa
