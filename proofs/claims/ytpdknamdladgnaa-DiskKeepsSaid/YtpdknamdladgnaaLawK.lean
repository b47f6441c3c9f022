/- The walk of DiskKeeps; no conditions. -/
import Derived.Test.YtpdknamdladgnaaLawP
import Derived.Deep.RegionHeld3
namespace Go.Proofs.Ytpdknamdladgnaa
open Go.RowKit

namespace M
/-- How many of the first ones from a on differ. -/
def diff (xs ys : List UInt8) (a : Nat) : Nat → Nat
  | 0 => 0
  | i + 1 => diff xs ys a i + if a ≤ i ∧ (xs.getD i 0).toNat ≠ (ys.getD i 0).toNat then 1 else 0
theorem diff_low (xs ys : List UInt8) (a : Nat) : ∀ i, i ≤ a → diff xs ys a i = 0
  | 0, _ => rfl
  | i + 1, h => by rw [diff, diff_low xs ys a i (by omega), if_neg (by omega)]
theorem diff_one {xs ys : List UInt8} {a c : Nat} (h : ∀ i, i ≠ c → xs.getD i 0 = ys.getD i 0 ∨ xs.length ≤ i) : ∀ i, i ≤ xs.length → diff xs ys a i ≤ (if c < i then 1 else 0)
  | 0, _ => by simp [diff]
  | i + 1, hi => by
    have ih := diff_one (a := a) h i (by omega)
    rw [diff]
    by_cases e : i = c
    · subst e
      rw [if_neg (by omega : ¬ i < i)] at ih
      rw [if_pos (by omega : i < i + 1)]
      split <;> omega
    · have hx : xs.getD i 0 = ys.getD i 0 := (h i e).resolve_right (by omega)
      rw [if_neg (by rw [hx]; simp)]
      by_cases hc : c < i
      · rw [if_pos hc] at ih; rw [if_pos (by omega)]; omega
      · rw [if_neg hc] at ih; rw [if_neg (by omega)]; omega
theorem fell_diff {s : St} (h : Ok s) (keep pos : Int) (mask : UInt8) (i : Nat) (hi : i ≤ (fell keep pos mask s).length) : diff (fell keep pos mask s) s.bs s.k i ≤ 1 := by
  have h3 := h.2.2
  have hl := left_le keep s
  have := diff_one (xs := fell keep pos mask s) (ys := s.bs) (a := s.k) (c := s.k + pos.toNat) (fun j hj => by
    by_cases hj2 : (fell keep pos mask s).length ≤ j
    · exact .inr hj2
    · left
      rw [fell_len h] at hj2
      unfold fell
      split
      · simp only [List.getD_eq_getElem?_getD]
        rw [List.getElem?_set_ne (by omega), List.getElem?_take_of_lt (by omega)]
      · simp only [List.getD_eq_getElem?_getD]
        rw [List.getElem?_take_of_lt (by omega)]) i hi
  split at this <;> omega
theorem fell_safe {s : St} (h : Ok s) (keep pos : Int) (mask : UInt8) : (fell keep pos mask s).take s.k = s.bs.take s.k := by
  have h3 := h.2.2
  have hl := left_le keep s
  apply List.ext_getElem?
  intro j
  by_cases hj : j < s.k
  · rw [List.getElem?_take_of_lt hj, List.getElem?_take_of_lt hj]
    unfold fell
    split
    · rw [List.getElem?_set_ne (by omega), List.getElem?_take_of_lt (by omega)]
    · rw [List.getElem?_take_of_lt (by omega)]
  · rw [List.getElem?_eq_none (by simp; omega), List.getElem?_eq_none (by simp; omega)]
end M
theorem bytes_k {w : World} {g n : Nat} {F : Nat → Prop} {s : M.St} (h : Disk w g F s) (hn : s.bs.length = n) : Calls Try.prog 16 #[.pointer (some ⟨g, 0, none⟩)] w fun e w' => ∃ b, e = .returned (.slice (some ⟨b, 0, none⟩) n n) ∧ b = w.heap.size ∧ Blk w' b s.bs ∧ Below w.heap.size w w' := by
  subst hn
  exact (bytes_any h).mono fun _ _ hh => ⟨_, hh.1, rfl, hh.2.1, hh.2.2⟩
theorem same_take_at {w : World} {g1 g2 n1 n2 K : Nat} {xs ys : List UInt8} (h : Blk w g1 xs) (h' : Blk w g2 ys) (e1 : xs.length = n1) (e2 : ys.length = n2) (k1 : K ≤ n1) (k2 : K ≤ n2) (e : xs.take K = ys.take K) (hl : K ≤ 100000000) (w' : World) (hw : w'.heap = w.heap) :
    Calls Try.prog 19 #[.slice (some ⟨g1, 0, none⟩) K n1, .slice (some ⟨g2, 0, none⟩) K n2] w' fun e w'' => e = .returned (.bool true) ∧ Below w.heap.size w' w'' := by
  subst e1 e2
  have b1 : Blk w' g1 xs := by unfold Blk; rw [hw]; exact h
  have b2 : Blk w' g2 ys := by unfold Blk; rw [hw]; exact h'
  have := same_any (b1.bts.take K k1) (b2.bts.take K k2) (by simp; omega)
  rw [e, M.sameB_refl] at this
  exact this.mono fun _ _ hh => ⟨hh.1, by rw [← hw]; exact hh.2⟩
theorem safe_n {w : World} {g n : Nat} {F : Nat → Prop} {s : M.St} (h : Disk w g F s) (hn : s.k = n) : Calls Try.prog 17 #[.pointer (some ⟨g, 0, none⟩)] w fun e w' => e = .returned (.int .i64 n) ∧ w = w' := by
  subst hn
  exact safe_any h

set_option maxHeartbeats 4000000 in
set_option maxRecDepth 100000 in
theorem keeps_law (n keep pos : Int) (mask : UInt8) {w : World} {v : Value} {l : List M.Do} (h : Dos w v l) : Calls Try.prog 4 #[.int .i64 n, v, .int .i64 keep, .int .i64 pos, .int .u8 (mask.toNat : Int)] w (Yes w) := by
  have HDos := Lib.hid h
  obtain ⟨A, c, rfl, hc, hm, hx⟩ := h
  unfold maxLen at hm
  have HX := Lib.hid hx
  clear hx
  by_cases hn : 0 ≤ n ∧ n ≤ 1048576
  · obtain ⟨z, rfl⟩ : ∃ z : Nat, n = z := ⟨n.toNat, by omega⟩
    have hz : z ≤ 1048576 := by omega
    clear hn
    cases hfew : M.few l with
    | false =>
      have FW := Lib.hid hfew
      clear hfew
      go_enter Try.func4, Try.ntmps4
      go_wp2_with (fail)
      refine (new_any z w hz).mono ?_
      rintro e w1 ⟨rfl, hd, hb⟩
      have B1 := Lib.hid hb
      clear hd hb
      go_wp2_with (fail)
      refine (few_any (HDos.out.below B1.out)).mono ?_
      rintro e w2 ⟨rfl, hb⟩
      rw [FW.out]
      have B2 := Lib.hid (below_on B1.out hb)
      clear hb
      go_wp2_with (fail)
      refine (awake_on B2.out).mono ?_
      rintro e w2 ⟨rfl, hb⟩
      go_wp2
      go_ret
      exact ⟨rfl, hb⟩
    | true =>
      have FW := Lib.hid hfew
      clear hfew
      go_enter Try.func4, Try.ntmps4
      go_wp2_with (fail)
      refine (new_any z w hz).mono ?_
      rintro e w1 ⟨rfl, hd, hb⟩
      have L1 := Lib.hid (Live.new hd hb)
      clear hd hb
      go_wp2_with (fail)
      refine (few_any (HDos.out.below L1.out.below)).mono ?_
      rintro e w2 ⟨rfl, hb⟩
      rw [FW.out]
      have L2 := Lib.hid (L1.out.on hb)
      clear hb L1
      go_wp2
      go_loopw [31] (fun i wr => ∃ (k : Nat) (F : Nat → Prop) (s : M.St), k ≤ l.length ∧ i = .int .i64 k ∧ Hid (Live w wr w.heap.size F s)) (fun i _ => l.length - (intOf i).toNat)
      case atStart => exact ⟨0, _, _, Nat.zero_le _, rfl, L2⟩
      case round =>
        obtain ⟨k, F, s, hk, rfl, LR⟩ := hrel
        clear L2
        by_cases hlt : k < l.length
        · obtain ⟨b, o, rfl, hb, hy⟩ := HX.out (by omega)
          obtain ⟨sv, hd⟩ := hy k hlt
          have hd2 := hd.below hb LR.out.below
          have hbl := Nat.lt_of_lt_of_le hb LR.out.below.size
          have hfl := few_at FW.out hlt
          clear hy hd
          generalize l.getD k do0 = d at *
          obtain ⟨c0, c1', c2', c3, c4, hbt⟩ := hd2
          obtain ⟨A5, c5, rfl, -, -⟩ := hbt.opened
          have hk1 : (k : Int) < (l.length : Int) := by omega
          have nb := below_new (o := .cells #[.int .i64 d.verb, .int .i64 d.n, .int .i64 d.pos, .int .u8 (d.mask.toNat : Int), .slice A5 d.b.length c5] 33) (Below.refl wr.heap.size wr)
          have LD := Lib.hid (LR.out.on nb)
          have DB := Lib.hid (DBox.new wr d.verb d.n d.pos d.mask (.slice A5 d.b.length c5))
          have DD := Lib.hid (does_any d LD.out.disk (Doc.nil _ 0 (by omega)) (fun _ _ e => e) (hbt.below nb) (by omega))
          have PD := Lib.hid (show Pair w (wr.alloc (.cells #[.int .i64 d.verb, .int .i64 d.n, .int .i64 d.pos, .int .u8 (d.mask.toNat : Int), .slice A5 d.b.length c5] 33)) w.heap.size F s (fun _ => False) (.agg #[.slice none 0 0, .slice none 0 0, .int .i64 0]) (M.nil 0) from ⟨LD.out, Doc.nil _ 0 (by omega), fun _ _ e => e, fun _ e => e.elim⟩)
          clear hbt nb
          go_wp2_with (fail)
          refine DD.out.mono ?_
          intro e w2 hD
          obtain ⟨q, F', R', rfl, hP, hkk, hF, hR⟩ := PD.out.does d hD
          have L3 := Lib.hid hP.live
          generalize M.alike s (M.nil 0) d = AL at *
          clear hP hkk hF hR hD DD PD LD DB
          go_wp2
          go_roundw
          case rel => exact ⟨k + 1, F', M.step s d, by omega, by go_num, L3⟩
          case measure => simp [intOf]; omega
        · have hk1 : (l.length : Int) ≤ (k : Int) := by omega
          have ok := LR.out.disk.ok
          have f1 := Lib.hid (M.fell_len (keep := keep) (pos := pos) (mask := mask) ok)
          have f2 := Lib.hid (M.fell_safe ok keep pos mask)
          have f3 := Lib.hid (fun i hi => M.fell_diff ok keep pos mask i hi)
          have hkb := ok.2.2
          have hll := M.left_le keep s
          have hzz := ok.2.1
          have hbz := ok.1
          obtain ⟨n1, hn1⟩ : ∃ n1, s.bs.length = n1 := ⟨_, rfl⟩
          obtain ⟨n2, hn2⟩ : ∃ n2, s.k + M.left keep s = n2 := ⟨_, rfl⟩
          obtain ⟨K, hK⟩ : ∃ K, s.k = K := ⟨_, rfl⟩
          have HN1 := Lib.hid hn1
          have HN2 := Lib.hid (show (M.fell keep pos mask s).length = n2 by rw [f1.out]; exact hn2)
          have HKs := Lib.hid hK
          have HN2' := Lib.hid hn2
          have i1 : (K : Int) ≤ (n2 : Int) := by omega
          have i2 : (n2 : Int) ≤ (n1 : Int) := by omega
          have i3 : K ≤ n2 := by omega
          have i4 : n2 ≤ n1 := by omega
          have i5 : n1 ≤ 1048576 := by omega
          have i6 : K ≤ n1 := by omega
          have i7 : (K : Int) ≤ (n1 : Int) := by omega
          have d1 : decide ((n1 : Int) < (n2 : Int)) = false := decide_eq_false (by omega)
          have d2 : decide ((n2 : Int) < (K : Int)) = false := decide_eq_false (by omega)
          have d3 : decide (n1 < n2) = false := decide_eq_false (by omega)
          have d4 : decide (n2 < K) = false := decide_eq_false (by omega)
          clear ok hkb hll hzz hbz hn1 hn2 hK
          go_wp2_with (fail)
          refine (bytes_k LR.out.disk HN1.out).mono ?_
          rintro e w3 ⟨g1, rfl, hg1, hB1, hb1⟩
          have L3 := Lib.hid (LR.out.on hb1)
          have BK3 := Lib.hid hB1
          have hgw := Lib.hid (show ¬ F g1 ∧ w.heap.size ≤ g1 from ⟨fun e => by have := LR.out.disk.lt _ e; omega, by have := LR.out.below.size; omega⟩)
          clear hg1 hB1 hb1 LR
          go_wp2_with (fail)
          refine (safe_n L3.out.disk HKs.out).mono ?_
          rintro e w4 ⟨rfl, rfl⟩
          go_wp2_with (fail)
          refine (crashD_any L3.out.disk keep pos mask).mono ?_
          rintro e w4 ⟨rfl, hs⟩
          have BK4 := Lib.hid (show Blk w4 g1 s.bs by
            obtain ⟨_, _, hkk, _⟩ := hs
            exact BK3.out.keeps hkk hgw.out.1)
          obtain ⟨F4, hL⟩ := L3.out.step hs
          have L4 := Lib.hid hL
          clear hs hL L3 BK3
          go_wp2_with (fail)
          refine (bytes_k L4.out.disk HN2.out).mono ?_
          rintro e w5 ⟨g2, rfl, hg2, hB2, hb2⟩
          have L5 := Lib.hid (L4.out.on hb2)
          have BK5 := Lib.hid (BK4.out.below hb2)
          have BF5 := Lib.hid (show Blk w5 g2 (M.fell keep pos mask s) from hB2)
          have SA := Lib.hid (same_take_at BF5.out BK5.out HN2.out HN1.out i3 i6 (by rw [← HKs.out]; exact f2.out) (by omega))
          clear hg2 hB2 hb2 L4 BK4
          go_wp2
          go_region_held3 (fun _ => True) (trivial)
            (first
              | (go_at_call 19; refine Calls.mono (SA.out _ rfl) ?_; rintro e w6 ⟨rfl, hb⟩; have hb6 : Below w5.heap.size w5 w6 := ⟨hb.os, hb.tape, hb.output, hb.size, hb.block⟩; have L6 := Lib.hid (L5.out.on hb6); have BK6 := Lib.hid (BK5.out.below hb6); have BF6 := Lib.hid (BF5.out.below hb6); have SF := Lib.hid (safe_n L6.out.disk (n := n2) HN2'.out); clear hb hb6)
              | (go_at_call 17; refine Calls.mono SF.out ?_; rintro e w7 ⟨rfl, rfl⟩))
          have LW := Lib.hid (L6.out.below)
          clear SA SF L5 L6 BK5 BF5
          have D0 := Lib.hid (M.diff_low (M.fell keep pos mask s) s.bs K K (Nat.le_refl _))
          rw [HKs.out] at f3
          rw [HN2.out] at f3
          generalize M.fell keep pos mask s = xs at *
          generalize s.bs = ys at *
          go_wp2
          go_loopw [17, 18] (fun tn i wr2 => ∃ (j m : Nat), K ≤ j ∧ j ≤ n2 ∧ i = .int .i64 j ∧ tn = .int .i64 (M.diff xs ys K j) ∧ wr2 = w6.drewN m) (fun _ i _ => n2 - (intOf i).toNat)
          case atStart => exact ⟨K, 0, Nat.le_refl _, i3, rfl, by rw [D0.out]; rfl, rfl⟩
          case round =>
            obtain ⟨j, m, hj1, hj2, rfl, rfl, rfl⟩ := hrel
            by_cases hlt2 : j < n2
            · have x1 := BF6.out.at_ (k := j) (by rw [HN2.out]; exact hlt2)
              have x2 := BK6.out.at_ (k := j) (by rw [HN1.out]; omega)
              have j1 : (j : Int) < (n2 : Int) := by omega
              have j2 : (j : Int) < (n1 : Int) := by omega
              have hdl := Lib.hid (f3.out j (by omega))
              have hdb : M.diff xs ys K j ≤ 1 := f3.out j (by omega)
              by_cases e : (xs.getD j 0).toNat = (ys.getD j 0).toNat
              · have HQ := Lib.hid (show M.diff xs ys K (j + 1) = M.diff xs ys K j by rw [M.diff, if_neg (fun h => h.2 e)]; rfl)
                rw [← e] at x2
                generalize (xs.getD j 0).toNat = y at *
                generalize M.diff xs ys K j = q at *
                clear e
                go_wp2
                go_quiet (fail)
                go_wp2
                go_roundw
                case rel => exact ⟨j + 1, _, by omega, by omega, by go_num, by rw [HQ.out], rfl⟩
                case measure => simp [intOf]; omega
              · have HQ := Lib.hid (show M.diff xs ys K (j + 1) = M.diff xs ys K j + 1 by rw [M.diff, if_pos ⟨hj1, e⟩])
                generalize (xs.getD j 0).toNat = y at *
                generalize (ys.getD j 0).toNat = y2 at *
                generalize M.diff xs ys K j = q at *
                have q1 : ((y : Int) == (y2 : Int)) = false := by rw [beq_eq_false_iff_ne]; omega
                have q2 : ((y : Int) != (y2 : Int)) = true := by rw [bne, q1]; rfl
                have q3 : (y == y2) = false := by rw [beq_eq_false_iff_ne]; exact e
                have q4 : (y != y2) = true := by rw [bne, q3]; rfl
                clear e
                go_wp2
                go_quiet (fail)
                go_wp2
                go_roundw
                case rel => exact ⟨j + 1, _, by omega, by omega, by go_num, by rw [HQ.out]; go_num, rfl⟩
                case measure => simp [intOf]; omega
            · have j1 : (n2 : Int) ≤ (j : Int) := by omega
              have hdb : M.diff xs ys K j ≤ 1 := f3.out j (by omega)
              generalize M.diff xs ys K j = q at *
              have hdb1 : (q : Int) ≤ 1 := by omega
              go_wp2_with (fail)
              refine (awake_on (below_drewN LW.out m)).mono ?_
              rintro e w2 ⟨rfl, hb⟩
              go_wp2
              go_ret
              exact ⟨rfl, hb⟩
  · go_enter Try.func4, Try.ntmps4
    go_wp2_with (fail)
    refine (new_bad n w hn).mono ?_
    rintro e w1 ⟨rfl, rfl⟩
    go_wp2_with (fail)
    refine (awake_any w).mono ?_
    rintro e w2 ⟨rfl, hb⟩
    go_wp2
    go_ret
    exact ⟨rfl, hb⟩
end Go.Proofs.Ytpdknamdladgnaa
