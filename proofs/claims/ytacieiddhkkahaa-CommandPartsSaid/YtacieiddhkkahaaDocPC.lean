/- Contract of the document's Part; no conditions but the lengths that it names. -/
import Derived.Test.YtacieiddhkkahaaDocPB
import Derived.Test.YtacieiddhkkahaaCmdsT
import Derived.Test.YtacieiddhkkahaaWalksO
namespace Go.Proofs.Ytacieiddhkkahaa
open Go.ChangeShapes Go.WideShapes Go.ChangeAt Go.RowKit


set_option maxHeartbeats 8000000 in
set_option maxRecDepth 100000 in
theorem dpart_ok {w : World} (c : M.Cmd) (k n : Int) {va vb : Value} (h : Rds w va c.rs) (h' : Wrs w vb c.ws) (F : M.Mod c) (hd : M.pokB c n = true) : Calls Try.prog 11 #[.agg #[.int .i64 c.k, .int .i64 c.tc, .int .i64 c.tn, .int .i64 c.tt, .int .i64 c.tk, .int .i64 c.sh, va, vb, .bool c.cm], .int .i64 k, .int .i64 n] w (Res (M.partC c k n) (M.partE c k n) w) := by
  have X0 := Lib.hid ((Box.new w c va vb).push (.cells #[.int .i64 0, .int .i64 0, .int .i64 0, .int .i64 0, .int .i64 0, .int .i64 0, .slice none 0 0, .slice none 0 0, .bool false] 29))
  have Y0 := Lib.hid (show Box ((w.alloc (.cells #[.int .i64 c.k, .int .i64 c.tc, .int .i64 c.tn, .int .i64 c.tt, .int .i64 c.tk, .int .i64 c.sh, va, vb, .bool c.cm] 29)).alloc (.cells #[.int .i64 0, .int .i64 0, .int .i64 0, .int .i64 0, .int .i64 0, .int .i64 0, .slice none 0 0, .slice none 0 0, .bool false] 29)) (w.heap.size + 1) M.zero (.slice none 0 0) (.slice none 0 0) from Box.new1 w _ M.zero (.slice none 0 0) (.slice none 0 0))
  have R0 := Lib.hid ((h.push (.cells #[.int .i64 c.k, .int .i64 c.tc, .int .i64 c.tn, .int .i64 c.tt, .int .i64 c.tk, .int .i64 c.sh, va, vb, .bool c.cm] 29)).push (.cells #[.int .i64 0, .int .i64 0, .int .i64 0, .int .i64 0, .int .i64 0, .int .i64 0, .slice none 0 0, .slice none 0 0, .bool false] 29))
  have W0 := Lib.hid ((h'.push (.cells #[.int .i64 c.k, .int .i64 c.tc, .int .i64 c.tn, .int .i64 c.tt, .int .i64 c.tk, .int .i64 c.sh, va, vb, .bool c.cm] 29)).push (.cells #[.int .i64 0, .int .i64 0, .int .i64 0, .int .i64 0, .int .i64 0, .int .i64 0, .slice none 0 0, .slice none 0 0, .bool false] 29))
  have B0 := Lib.hid (below_new (o := .cells #[.int .i64 0, .int .i64 0, .int .i64 0, .int .i64 0, .int .i64 0, .int .i64 0, .slice none 0 0, .slice none 0 0, .bool false] 29) (below_new (o := .cells #[.int .i64 c.k, .int .i64 c.tc, .int .i64 c.tn, .int .i64 c.tt, .int .i64 c.tk, .int .i64 c.sh, va, vb, .bool c.cm] 29) (Below.refl w.heap.size w)))
  have T0 := Lib.hid (soft_new1 w (.cells #[.int .i64 c.k, .int .i64 c.tc, .int .i64 c.tn, .int .i64 c.tt, .int .i64 c.tk, .int .i64 c.sh, va, vb, .bool c.cm] 29) #[.int .i64 0, .int .i64 0, .int .i64 0, .int .i64 0, .int .i64 0, .int .i64 0, .slice none 0 0, .slice none 0 0, .bool false] 29)
  obtain ⟨A1, c1, rfl, g1, -⟩ := h.opened
  obtain ⟨A2, c2, rfl, g2, -⟩ := h'.opened
  clear h h'
  have HD := Lib.hid hd
  have e : M.rightC c = true := by unfold M.pokB at hd; simp only [Bool.and_eq_true] at hd; exact hd.1
  have ek : ¬ c.k = 0 := by unfold M.pokB at hd; simp only [Bool.and_eq_true, Bool.not_eq_true', decide_eq_false_iff_not] at hd; exact hd.2.1
  have h1 : 1 ≤ n := by unfold M.pokB at hd; simp only [Bool.and_eq_true, decide_eq_true_eq] at hd; exact hd.2.2.1
  have h4 : n ≤ 4 := by unfold M.pokB at hd; simp only [Bool.and_eq_true, decide_eq_true_eq] at hd; exact hd.2.2.2
  have hlr := F.r
  have hlw := F.w
  obtain ⟨q1, q2⟩ := neI ek
  have d1 : decide (n < 1) = false := decide_eq_false (by omega)
  have d2 : decide (4 < n) = false := decide_eq_false (by omega)
  clear ek hd
  go_enter Try.func11, Try.ntmps11
  go_wp2_with (fail)
  refine (drightC c R0.out W0.out F).mono ?_
  rintro e w1 ⟨rfl, hb⟩
  have X1 := Lib.hid (X0.out.on hb)
  have Y1 := Lib.hid (Y0.out.on hb)
  have B1 := Lib.hid (below_on B0.out hb)
  have R1 := Lib.hid (R0.out.below hb)
  have W1 := Lib.hid (W0.out.below hb)
  have T1 := Lib.hid (T0.out.on Y0.out.lt hb)
  clear hb X0 Y0 R0 W0 B0 T0
  obtain ⟨l0, p0, p1, p2, p3, p4, p5, p6, p7, p8⟩ := X1.out
  have s1 : w.heap.size ≤ w1.heap.size := B1.out.size
  go_wp2
  have XM := Lib.hid (show Mak w1 (w1.alloc (.cells #[.int .i64 c.k, .int .i64 c.tc, .int .i64 c.tn, .int .i64 c.tt, .int .i64 c.tk, .int .i64 c.sh, .slice none 0 0, .slice none 0 0, .bool c.cm] 29)) c (.slice none 0 0) (.slice none 0 0) [] [] from ⟨Box.new w1 c _ _, soft_new w1 #[.int .i64 c.k, .int .i64 c.tc, .int .i64 c.tn, .int .i64 c.tt, .int .i64 c.tk, .int .i64 c.sh, .slice none 0 0, .slice none 0 0, .bool c.cm] 29, World.ownsRow_nil _ _ _ _, World.ownsRow_nil _ _ _ _, below_new (Below.refl _ _)⟩)
  clear l0 p0 p1 p2 p3 p4 p5 p6 p7 p8
  generalize (w1.alloc (.cells #[.int .i64 c.k, .int .i64 c.tc, .int .i64 c.tn, .int .i64 c.tt, .int .i64 c.tk, .int .i64 c.sh, .slice none 0 0, .slice none 0 0, .bool c.cm] 29)) = w2 at *
  go_loopw [9] (fun i wr => ∃ j : Nat, j ≤ c.rs.length ∧ i = .int .i64 j ∧ ∃ v, Mak w1 wr c v (.slice none 0 0) (M.partR k n (c.rs.take j)) []) (fun i _ => c.rs.length - (intOf i).toNat)
  case atStart => exact ⟨0, Nat.zero_le _, rfl, _, XM.out⟩
  case round =>
    obtain ⟨j, hj, rfl, v, hm⟩ := hrel
    obtain ⟨A3, c3, rfl⟩ := ownsRow_slice hm.rds
    have HM := Lib.hid hm
    have hbw := hm.on
    have hbz := hbw.size
    clear hm
    by_cases hlt : j < c.rs.length
    · obtain ⟨l0, p0, p1, p2, p3, p4, p5, p6, p7, p8⟩ := X1.out.on hbw
      obtain ⟨A1x, c1x, ea, -, hx⟩ := R1.out.opened
      simp only [Value.slice.injEq, true_and] at ea
      obtain ⟨rfl, rfl⟩ := ea
      obtain ⟨b, o, rfl, hb, hy⟩ := hx (by omega)
      have Z0 := Lib.hid ((hy j hlt).below hbw hb)
      have hbr : b < wr.heap.size := by omega
      have HY := Lib.hid (fun h => M.partR_yes (k := k) (n := n) hlt h)
      have HN := Lib.hid (fun h => M.partR_no (k := k) (n := n) hlt h)
      have HL := Lib.hid (M.partR_len k n c.rs j)
      clear hy hx
      obtain ⟨z1, z2, z3⟩ := Z0.out
      generalize (c.rs.getD j rd0).1 = x at *
      generalize (c.rs.getD j rd0).2.1 = t at *
      generalize (c.rs.getD j rd0).2.2 = d at *
      have hi1 : (j : Int) < (c.rs.length : Int) := by omega
      go_wp2_with (fail)
      refine (dshard_any _ _ _).mono ?_
      rintro e w3 ⟨rfl, hb3⟩
      have M3 := Lib.hid (HM.out.onB hb3)
      have Z3 := Lib.hid (Z0.out.below hb3 hbr)
      have X3 := Lib.hid ((X1.out.on hbw).on hb3)
      have hbr3 : b < w3.heap.size := Nat.lt_of_lt_of_le hbr hb3.size
      clear hb3 hbw hbr l0 p0 p1 p2 p3 p4 p5 p6 p7 p8 z1 z2 z3 Z0 HM
      by_cases ek : M.sh ⟨x.toArray⟩ n = k
      · obtain ⟨f1, f2⟩ := eqI ek
        have HE := Lib.hid (HY.out ek)
        clear ek HY HN
        obtain ⟨l0, p0, p1, p2, p3, p4, p5, p6, p7, p8⟩ := X3.out
        obtain ⟨la, a0, a1, a2, a3, a4, a5, a6, a7, a8⟩ := M3.out.box
        obtain ⟨z1, z2, z3⟩ := Z3.out
        obtain ⟨v5, w5, hr, hs5, hb5, hm5, A5, q5, rfl⟩ := M3.out.stepR x t d (by have := HL.out; omega)
        have z6 : w5.frozen? ⟨w1.heap.size, 6, none⟩ = false := hs5 6
        have y6 := hb5.c6
        have l5 := hb5.lt
        have H5 := Lib.hid hm5
        clear hs5 hb5 hm5
        go_wp2
        go_region_law (refine step_append_run rfl (.tmp 57) (.tmp 63) 26 26 rfl _ _ (by simp [Act.eval]) (by simp [Act.eval]) _ _ hr ?_)
        all_goals
          go_wp2
          go_roundw
          case rel => exact ⟨j + 1, by omega, by go_num, _, by rw [HE.out]; exact H5.out⟩
          case measure => simp [intOf]; omega
      · obtain ⟨f1, f2⟩ := neI ek
        have HE := Lib.hid (HN.out ek)
        clear ek HY HN
        go_wp2
        go_roundw
        case rel => exact ⟨j + 1, by omega, by go_num, _, by rw [HE.out]; exact M3.out⟩
        case measure => simp [intOf]; omega
    · obtain rfl : j = c.rs.length := by omega
      have M3 := Lib.hid HM.out
      rw [List.take_length] at M3
      have O3 := Lib.hid (M3.out.rds)
      obtain ⟨l0, p0, p1, p2, p3, p4, p5, p6, p7, p8⟩ := X1.out.on hbw
      clear HM hj hlt
      go_wp2
      clear l0 p0 p1 p2 p3 p4 p5 p6 p7 p8 hbw hbz
      obtain ⟨w4, hw4⟩ : ∃ w4 : World, w4 = wr := ⟨_, rfl⟩
      subst hw4
      go_loopw [12] (fun i wr => ∃ j : Nat, j ≤ c.ws.length ∧ i = .int .i64 j ∧ ∃ u, Mak w1 wr c (.slice A3 (M.partR k n c.rs).length c3) u (M.partR k n c.rs) (M.partW k n (c.ws.take j))) (fun i _ => c.ws.length - (intOf i).toNat)
      case atStart => exact ⟨0, Nat.zero_le _, rfl, _, M3.out⟩
      case round =>
        clear M3
        obtain ⟨j, hj, rfl, u, hm⟩ := hrel
        obtain ⟨A4, c4, rfl⟩ := ownsRow_slice hm.wrs
        have HM := Lib.hid hm
        have hbw := hm.on
        have hbz := hbw.size
        clear hm
        by_cases hlt : j < c.ws.length
        · obtain ⟨l0, p0, p1, p2, p3, p4, p5, p6, p7, p8⟩ := X1.out.on hbw
          obtain ⟨A1x, c1x, ea, -, hx⟩ := W1.out.opened
          simp only [Value.slice.injEq, true_and] at ea
          obtain ⟨rfl, rfl⟩ := ea
          obtain ⟨b, o, rfl, hb, hy⟩ := hx (by omega)
          have Z0 := Lib.hid ((hy j hlt).below hbw hb)
          have hbr : b < wr.heap.size := by omega
          have HY := Lib.hid (fun h => M.partW_yes (k := k) (n := n) hlt h)
          have HN := Lib.hid (fun h => M.partW_no (k := k) (n := n) hlt h)
          have HL := Lib.hid (M.partW_len k n c.ws j)
          clear hy hx
          obtain ⟨z1, z2⟩ := Z0.out
          generalize (c.ws.getD j wr0).1 = x at *
          generalize (c.ws.getD j wr0).2 = y at *
          have hi1 : (j : Int) < (c.ws.length : Int) := by omega
          go_wp2_with (fail)
          refine (dshard_any _ _ _).mono ?_
          rintro e w3 ⟨rfl, hb3⟩
          have M3 := Lib.hid (HM.out.onB hb3)
          have Z3 := Lib.hid (Z0.out.below hb3 hbr)
          have X3 := Lib.hid ((X1.out.on hbw).on hb3)
          have hbr3 : b < w3.heap.size := Nat.lt_of_lt_of_le hbr hb3.size
          clear hb3 hbw hbr l0 p0 p1 p2 p3 p4 p5 p6 p7 p8 z1 z2 Z0 HM
          by_cases ek : M.sh ⟨x.toArray⟩ n = k
          · obtain ⟨f1, f2⟩ := eqI ek
            have HE := Lib.hid (HY.out ek)
            clear ek HY HN
            obtain ⟨l0, p0, p1, p2, p3, p4, p5, p6, p7, p8⟩ := X3.out
            obtain ⟨la, a0, a1, a2, a3, a4, a5, a6, a7, a8⟩ := M3.out.box
            obtain ⟨z1, z2⟩ := Z3.out
            obtain ⟨v5, w5, hr, hs5, hb5, hm5, A5, q5, rfl⟩ := M3.out.stepW x y (by have := HL.out; omega)
            have z6 : w5.frozen? ⟨w1.heap.size, 7, none⟩ = false := hs5 7
            have y6 := hb5.c7
            have l5 := hb5.lt
            have H5 := Lib.hid hm5
            clear hs5 hb5 hm5
            go_wp2
            go_region_law (refine step_append_run rfl (.tmp 88) (.tmp 94) 27 27 rfl _ _ (by simp [Act.eval]) (by simp [Act.eval]) _ _ hr ?_)
            all_goals
              go_wp2
              go_roundw
              case rel => exact ⟨j + 1, by omega, by go_num, _, by rw [HE.out]; exact H5.out⟩
              case measure => simp [intOf]; omega
          · obtain ⟨f1, f2⟩ := neI ek
            have HE := Lib.hid (HN.out ek)
            clear ek HY HN
            go_wp2
            go_roundw
            case rel => exact ⟨j + 1, by omega, by go_num, _, by rw [HE.out]; exact M3.out⟩
            case measure => simp [intOf]; omega
        · obtain rfl : j = c.ws.length := by omega
          have M4 := Lib.hid HM.out
          rw [List.take_length] at M4
          obtain ⟨l0, p0, p1, p2, p3, p4, p5, p6, p7, p8⟩ := X1.out.on hbw
          obtain ⟨la, a0, a1, a2, a3, a4, a5, a6, a7, a8⟩ := M4.out.box
          have Y4 := Lib.hid (Y1.out.on hbw)
          have T4 := Lib.hid (T1.out.on Y1.out.lt hbw)
          have my := Y1.out.lt
          have B4 := Lib.hid (below_on B1.out hbw)
          clear HM hj hlt hbw
          obtain ⟨m1, y0, y1, y2, y3, y4, y5, y6, y7, y8⟩ := Y4.out
          have hz : ∀ o, wr.frozen? ⟨w.heap.size + 1, o, none⟩ = false := T4.out
          by_cases e0 : (M.partR k n c.rs).length = 0
          · by_cases e1 : (M.partW k n c.ws).length = 0
            · have HV := Lib.hid (show M.voidB c k n = true by unfold M.voidB M.emptyB; rw [decide_eq_true e0, decide_eq_true e1]; rfl)
              obtain ⟨t4, t5⟩ := zz e0
              obtain ⟨t6, t7⟩ := zz e1
              clear e0 e1
              go_wp2
              refine bodyPost_ret (v := .tuple #[.agg #[.int .i64 0, .int .i64 0, .int .i64 0, .int .i64 0, .int .i64 0, .int .i64 0, .slice none 0 0, .slice none 0 0, .bool false], .int .i64 10]) (by simp [results, Try.results11, go_sem, y0, y1, y2, y3, y4, y5, y6, y7, y8]) rfl ?_
              obtain ⟨f1, f2⟩ := M.part_n HD.out HV.out
              rw [f1, f2]
              exact ⟨_, _, rfl, Rds.nil _, Wrs.nil _, below_set9 B4.out (by omega) _ _ _ _ _ _ _ _ _⟩
            · have HV := Lib.hid (show M.voidB c k n = false by unfold M.voidB M.emptyB; rw [decide_eq_true e0, decide_eq_false e1]; rfl)
              obtain ⟨t4, t5⟩ := zz e0
              obtain ⟨t6, t7⟩ := nz e1
              clear e0 e1
              go_wp2
              refine bodyPost_ret (v := .tuple #[.agg #[.int .i64 c.k, .int .i64 c.tc, .int .i64 c.tn, .int .i64 c.tt, .int .i64 c.tk, .int .i64 c.sh, .slice A3 (M.partR k n c.rs).length c3, .slice A4 (M.partW k n c.ws).length c4, .bool c.cm], .int .i64 0]) (by simp [results, Try.results11, go_sem, y0, y1, y2, y3, y4, y5, y6, y7, y8]) rfl ?_
              obtain ⟨f1, f2⟩ := M.part_s HD.out HV.out
              rw [f1, f2]
              exact ⟨_, _, rfl, RowN.of_owns (owns_set9 M4.out.rds (by omega) _ _ _ _ _ _ _ _ _), RowN.of_owns (owns_set9 M4.out.wrs (by omega) _ _ _ _ _ _ _ _ _), below_set9 B4.out (by omega) _ _ _ _ _ _ _ _ _⟩
          · have HV := Lib.hid (show M.voidB c k n = false by unfold M.voidB M.emptyB; rw [decide_eq_false e0]; rfl)
            obtain ⟨t4, t5⟩ := nz e0
            clear e0
            go_wp2
            refine bodyPost_ret (v := .tuple #[.agg #[.int .i64 c.k, .int .i64 c.tc, .int .i64 c.tn, .int .i64 c.tt, .int .i64 c.tk, .int .i64 c.sh, .slice A3 (M.partR k n c.rs).length c3, .slice A4 (M.partW k n c.ws).length c4, .bool c.cm], .int .i64 0]) (by simp [results, Try.results11, go_sem, y0, y1, y2, y3, y4, y5, y6, y7, y8]) rfl ?_
            obtain ⟨f1, f2⟩ := M.part_s HD.out HV.out
            rw [f1, f2]
            exact ⟨_, _, rfl, RowN.of_owns (owns_set9 M4.out.rds (by omega) _ _ _ _ _ _ _ _ _), RowN.of_owns (owns_set9 M4.out.wrs (by omega) _ _ _ _ _ _ _ _ _), below_set9 B4.out (by omega) _ _ _ _ _ _ _ _ _⟩
end Go.Proofs.Ytacieiddhkkahaa
