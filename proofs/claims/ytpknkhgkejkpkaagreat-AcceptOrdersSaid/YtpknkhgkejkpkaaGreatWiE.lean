/- Records and messages: which may be: contracts; no conditions but those that they name. -/
import Derived.Test.YtpknkhgkejkpkaaGreatWiD

namespace Go.Proofs.YtpknkhgkejkpkaaGreat
open Go.ChangeShapes Go.WideShapes Go.ChangeAt Go.RowKit
attribute [local go_sem ↓] run_same_rd run_same_wr run_same_txn run_same_stamp
set_option maxHeartbeats 8000000 in
set_option maxRecDepth 100000 in
theorem dright_two {w : World} (c : M.Cmd) {va vb : Value} (h : Rds w va c.rs) (h' : Wrs w vb c.ws) (F : M.Mod c) (hk : c.k = 2) : Calls Tryz.prog 30 #[.agg #[.int .i64 c.k, .int .i64 c.tc, .int .i64 c.tn, .int .i64 c.tt, .int .i64 c.tk, .int .i64 c.sh, va, vb, .bool c.cm]] w fun e w' => e = .returned (.bool (M.rightC c)) ∧ Below w.heap.size w w' := by
  obtain ⟨i0, hi, hz0, hz1, hz2⟩ := info_parts info9
  have hl := F.r
  have hl' := F.w
  have X0 := Lib.hid (Box.new w c va vb)
  have R0 := Lib.hid (h.push (.cells #[.int .i64 c.k, .int .i64 c.tc, .int .i64 c.tn, .int .i64 c.tt, .int .i64 c.tk, .int .i64 c.sh, va, vb, .bool c.cm] 30))
  have W0 := Lib.hid (h'.push (.cells #[.int .i64 c.k, .int .i64 c.tc, .int .i64 c.tn, .int .i64 c.tt, .int .i64 c.tk, .int .i64 c.sh, va, vb, .bool c.cm] 30))
  have B0 := Lib.hid (below_new (o := .cells #[.int .i64 c.k, .int .i64 c.tc, .int .i64 c.tn, .int .i64 c.tt, .int .i64 c.tk, .int .i64 c.sh, va, vb, .bool c.cm] 30) (Below.refl w.heap.size w))
  have HR := Lib.hid (show M.rightC c = M.transB c by unfold M.rightC; rw [if_neg (by omega), if_neg (by omega), if_pos hk])
  obtain ⟨A1, c1, rfl, g1, -⟩ := h.opened
  obtain ⟨A2, c2, rfl, g2, -⟩ := h'.opened
  clear h h'
  obtain ⟨q0, q0'⟩ := neI (show ¬ c.k = 0 by omega)
  obtain ⟨q1, q1'⟩ := neI (show ¬ c.k = 1 by omega)
  obtain ⟨q2, q2'⟩ := eqI hk
  clear hk
  rcases two (M.pairB c.tc c.tn 0 3 1 1099511627776) with e0 | e0
  · rcases two (M.pairB c.tt c.tk 0 1099511627776 0 3) with e1 | e1
    · by_cases e2 : 1 ≤ c.tt
      · by_cases e3 : c.tk = c.tc
        · obtain ⟨q3a, q3b⟩ := eqI e3
          by_cases e4 : 1 ≤ c.sh
          · by_cases e5 : c.sh ≤ 15
            · rcases two (M.emptyB c.rs.length c.ws.length) with e6 | e6
              · have HE := Lib.hid (show M.transB c = false by unfold M.transB; rw [e0, e1, decide_eq_true e2, decide_eq_true e3, decide_eq_true e4, decide_eq_true e5, e6]; rfl)
                clear e3
                have t0 : ¬ c.tt = 0 := by have := M.pair_iff.1 e1; omega
                obtain ⟨t1, t2⟩ := neI t0
                clear t0
                have t3 : c.rs.length = 0 ∧ c.ws.length = 0 := by unfold M.emptyB at e6; simpa using e6
                obtain ⟨t4, t5⟩ := zz t3.1
                obtain ⟨t6, t7⟩ := zz t3.2
                clear t3
                go_enter Tryz.func30, Tryz.ntmps30
                go_wp2_with (fail)
                refine (refTxn_any _ _ _).mono ?_
                rintro e w1 ⟨rfl, hb⟩
                have B1 := Lib.hid (below_on B0.out hb)
                have X1 := Lib.hid (X0.out.on hb)
                have R1 := Lib.hid (R0.out.below hb)
                have W1 := Lib.hid (W0.out.below hb)
                clear hb B0 X0 R0 W0
                obtain ⟨l1, p10, p11, p12, p13, p14, p15, p16, p17, p18⟩ := X1.out
                go_wp2_with (fail)
                refine (refStamp_any _ _ _).mono ?_
                rintro e w2 ⟨rfl, hb⟩
                have B2 := Lib.hid (below_on B1.out hb)
                have X2 := Lib.hid (X1.out.on hb)
                have R2 := Lib.hid (R1.out.below hb)
                have W2 := Lib.hid (W1.out.below hb)
                clear hb B1 X1 R1 W1
                clear l1 p10 p11 p12 p13 p14 p15 p16 p17 p18
                obtain ⟨l2, p20, p21, p22, p23, p24, p25, p26, p27, p28⟩ := X2.out
                go_wp2
                go_ret
                exact ⟨ret_bool (HE.out.symm.trans HR.out.symm), B2.out⟩
              · have HE := Lib.hid (show M.transB c = (M.areR c.rs c.tt c.tk && M.areW c.ws) by unfold M.transB; rw [e0, e1, decide_eq_true e2, decide_eq_true e3, decide_eq_true e4, decide_eq_true e5, e6]; rfl)
                clear e3
                have t0 : ¬ c.tt = 0 := by have := M.pair_iff.1 e1; omega
                obtain ⟨t1, t2⟩ := neI t0
                clear t0
                by_cases t3 : c.rs.length = 0
                · have t8 : ¬ c.ws.length = 0 := fun h => by unfold M.emptyB at e6; simp [t3, h] at e6
                  obtain ⟨t4, t5⟩ := zz t3
                  obtain ⟨t6, t7⟩ := nz t8
                  clear t3 t8
                  go_enter Tryz.func30, Tryz.ntmps30
                  go_wp2_with (fail)
                  refine (refTxn_any _ _ _).mono ?_
                  rintro e w1 ⟨rfl, hb⟩
                  have B1 := Lib.hid (below_on B0.out hb)
                  have X1 := Lib.hid (X0.out.on hb)
                  have R1 := Lib.hid (R0.out.below hb)
                  have W1 := Lib.hid (W0.out.below hb)
                  clear hb B0 X0 R0 W0
                  obtain ⟨l1, p10, p11, p12, p13, p14, p15, p16, p17, p18⟩ := X1.out
                  go_wp2_with (fail)
                  refine (refStamp_any _ _ _).mono ?_
                  rintro e w2 ⟨rfl, hb⟩
                  have B2 := Lib.hid (below_on B1.out hb)
                  have X2 := Lib.hid (X1.out.on hb)
                  have R2 := Lib.hid (R1.out.below hb)
                  have W2 := Lib.hid (W1.out.below hb)
                  clear hb B1 X1 R1 W1
                  clear l1 p10 p11 p12 p13 p14 p15 p16 p17 p18
                  obtain ⟨l2, p20, p21, p22, p23, p24, p25, p26, p27, p28⟩ := X2.out
                  go_wp2
                  clear l2 p20 p21 p22 p23 p24 p25 p26 p27 p28
                  have HF := Lib.hid (show M.areR c.rs c.tt c.tk = false → false = M.rightC c from fun h => by rw [HR.out, HE.out, h]; rfl)
                  have HG := Lib.hid (show M.areW c.ws = false → false = M.rightC c from fun h => by rw [HR.out, HE.out, h]; simp)
                  go_loopw [3, 4] (fun x i wr => ∃ k : Nat, k ≤ c.rs.length ∧ i = .int .i64 k ∧ wr.ownsRow w2.heap.size 9 1 x k ((M.rk (c.rs.take k)).map encStr) ∧ Below w2.heap.size w2 wr ∧ (c.rs.take k).all (M.oldAt c.tt c.tk) = true) (fun _ i _ => c.rs.length - (intOf i).toNat)
                  case atStart => exact ⟨0, Nat.zero_le _, rfl, World.ownsRow_nil _ _ _ _, Below.refl _ _, rfl⟩
                  case round =>
                    obtain ⟨k, hk, rfl, hrow, hbw, hall⟩ := hrel
                    have hbz := hbw.size
                    have HA := Lib.hid hall
                    have HB := Lib.hid hbw
                    have HO := Lib.hid hrow
                    clear hall hrow
                    obtain ⟨l0, p0, p1, p2, p3, p4, p5, p6, p7, p8⟩ := X2.out.on hbw
                    by_cases hlt : k < c.rs.length
                    · obtain ⟨A1x, c1x, ea, -, hx⟩ := R2.out.opened
                      simp only [Value.slice.injEq, true_and] at ea
                      obtain ⟨rfl, rfl⟩ := ea
                      obtain ⟨b, o, rfl, hb, hy⟩ := hx (by omega)
                      have Z0 := Lib.hid ((hy k hlt).below hbw hb)
                      have HN := Lib.hid (M.rk_take hlt)
                      have HQ := Lib.hid (show M.oldAt c.tt c.tk (c.rs.getD k rd0) = M.oldB (c.rs.getD k rd0).2.1 (c.rs.getD k rd0).2.2 c.tt c.tk from rfl)
                      clear hy hx hbw
                      obtain ⟨z1, z2, z3⟩ := Z0.out
                      generalize (c.rs.getD k rd0).1 = x at *
                      generalize (c.rs.getD k rd0).2.1 = t at *
                      generalize (c.rs.getD k rd0).2.2 = u at *
                      have hbr : b < wr.heap.size := by omega
                      have hi1 : (k : Int) < (c.rs.length : Int) := by omega
                      rcases two (M.pairB t u 0 1099511627776 0 3) with d0 | d0
                      · rcases two (decide (M.ord t u c.tt c.tk < 0)) with d1 | d1
                        · go_wp2
                          refine wp_region_after (by kernel_rfl) (by kernel_rfl) ?_
                          have hx := @After.cell wr
                          repeat (first
                            | (go_big_quiet_step (first
                                | (go_at_call 60; exact Calls.after_of (refStamp_any _ _ _))
                                | (go_at_call 61; exact Calls.after_of (dbefore_any _ _ _ _ _))))
                            | rw [d0] | rw [d1])
                          refine wpQuiet_nil ?_
                          rintro w3 ⟨⟨_, hb3⟩, rfl⟩
                          have B3 := Lib.hid (below_on HB.out hb3)
                          have O3 := Lib.hid (ownsRow_on HO.out hb3)
                          have Z3 := Lib.hid (Z0.out.below hb3 hbr)
                          have X3 := Lib.hid (X2.out.on B3.out)
                          have hbz3 : w2.heap.size ≤ w3.heap.size := B3.out.size
                          clear hb3 l0 p0 p1 p2 p3 p4 p5 p6 p7 p8 z1 z2 z3
                          obtain ⟨z1, z2, z3⟩ := Z3.out
                          obtain ⟨l0, p0, p1, p2, p3, p4, p5, p6, p7, p8⟩ := X3.out
                          go_wp2_with (at_builtin; refine wpList_append_own _ rfl _ _ 86 rfl w2.heap.size 9 i0 (.string ⟨#[]⟩) 1 16 Tryz.underlying86 hi hz0 hz1 hz2 rfl (by decide) _ _ _ rfl (O3.out.alloc _) ⟨w3.heap.size, 0, none⟩ 1 1 [.string ⟨x.toArray⟩] rfl rfl (cell_one_new _ _ _) (one_str [x]) (by unfold maxLen; omega) (by omega) (by simp; omega) ?_; intro v' w4 hown3 hgrow3 hnil3)
                          have O4 := Lib.hid hown3
                          have B4 := Lib.hid ((B3.out.alloc (by omega) _).grown hgrow3 (by simp; omega) (fun i hi => (O3.out.lt i hi).1))
                          clear hown3 hgrow3 hnil3
                          go_wp2
                          go_roundw
                          case rel => exact ⟨k + 1, by omega, by go_num, by rw [HN.out]; simpa using O4.out, B4.out, M.all_step hlt HA.out (HQ.out.trans ((M.old_yes d0).trans d1))⟩
                          case measure => simp [intOf]; omega
                        · go_wp2
                          refine wp_region_after (by kernel_rfl) (by kernel_rfl) ?_
                          have hx := @After.cell wr
                          repeat (first
                            | (go_big_quiet_step (first
                                | (go_at_call 60; exact Calls.after_of (refStamp_any _ _ _))
                                | (go_at_call 61; exact Calls.after_of (dbefore_any _ _ _ _ _))))
                            | rw [d0] | rw [d1])
                          refine wpQuiet_nil ?_
                          rintro w3 ⟨⟨_, hb3⟩, rfl⟩
                          have B3 := Lib.hid (below_on HB.out hb3)
                          go_wp2
                          go_ret
                          exact ⟨ret_bool (HF.out (M.areR_no hlt (HQ.out.trans ((M.old_yes d0).trans d1))).symm), below_on B2.out B3.out⟩
                      · go_wp2
                        refine wp_region_after (by kernel_rfl) (by kernel_rfl) ?_
                        have hx := @After.cell wr
                        repeat (first
                          | (go_big_quiet_step (first
                              | (go_at_call 60; exact Calls.after_of (refStamp_any _ _ _))
                              | (go_at_call 61; exact Calls.after_of (dbefore_any _ _ _ _ _))))
                          | rw [d0])
                        refine wpQuiet_nil ?_
                        rintro w3 ⟨⟨_, hb3⟩, rfl⟩
                        have B3 := Lib.hid (below_on HB.out hb3)
                        go_wp2
                        go_ret
                        exact ⟨ret_bool (HF.out (M.areR_no hlt (HQ.out.trans (M.old_no d0))).symm), below_on B2.out B3.out⟩
                    · obtain rfl : k = c.rs.length := by omega
                      have HX := Lib.hid (M.areR_end hlt HA.out)
                      have O3 := Lib.hid (show Words wr _ (M.rk c.rs) from Made.words (by rw [M.rk_len]; have := HO.out; rwa [List.take_length] at this))
                      have X3 := Lib.hid (X2.out.on hbw)
                      have W3 := Lib.hid (W2.out.below hbw)
                      have B3 := Lib.hid (below_on B2.out hbw)
                      clear HO HA HB hbw hk hlt X2 R2 W2 B2
                      go_wp2
                      clear l0 p0 p1 p2 p3 p4 p5 p6 p7 p8 hbz
                      obtain ⟨w4, hw4⟩ : ∃ w4 : World, w4 = wr := ⟨_, rfl⟩
                      subst hw4
                      go_loopw [5, 6] (fun x i wr => ∃ k : Nat, k ≤ c.ws.length ∧ i = .int .i64 k ∧ wr.ownsRow w4.heap.size 9 1 x k ((M.wk (c.ws.take k)).map encStr) ∧ Below w4.heap.size w4 wr ∧ (c.ws.take k).all M.shortAt = true) (fun _ i _ => c.ws.length - (intOf i).toNat)
                      case atStart => exact ⟨0, Nat.zero_le _, rfl, World.ownsRow_nil _ _ _ _, Below.refl _ _, rfl⟩
                      case round =>
                        obtain ⟨k, hk, rfl, hrow, hbw, hall⟩ := hrel
                        have hbz := hbw.size
                        have HA := Lib.hid hall
                        have HB := Lib.hid hbw
                        have HO := Lib.hid hrow
                        clear hall hrow
                        obtain ⟨l0, p0, p1, p2, p3, p4, p5, p6, p7, p8⟩ := X3.out.on hbw
                        by_cases hlt : k < c.ws.length
                        · obtain ⟨A1x, c1x, ea, -, hx⟩ := W3.out.opened
                          simp only [Value.slice.injEq, true_and] at ea
                          obtain ⟨rfl, rfl⟩ := ea
                          obtain ⟨b, o, rfl, hb, hy⟩ := hx (by omega)
                          obtain ⟨z1, z2⟩ := (hy k hlt).below hbw hb
                          have HN := Lib.hid (M.wk_take hlt)
                          have HQ := Lib.hid (show M.shortAt (c.ws.getD k wr0) = decide ((c.ws.getD k wr0).2.length ≤ 8) from rfl)
                          clear hy hx hbw
                          generalize (c.ws.getD k wr0).1 = x at *
                          generalize (c.ws.getD k wr0).2 = t at *
                          obtain ⟨s, hs⟩ : ∃ s : ByteArray, s = ⟨t.toArray⟩ := ⟨_, rfl⟩
                          rw [← hs] at z2
                          have HZ := Lib.hid (show s.size = t.length by rw [hs, size_mk])
                          clear hs
                          have hi1 : (k : Int) < (c.ws.length : Int) := by omega
                          by_cases hbig : 8 < s.size
                          · go_wp2
                            go_ret
                            exact ⟨ret_bool (HG.out (M.areW_no hlt (HQ.out.trans (by have := HZ.out; simp; omega))).symm), below_on B3.out HB.out⟩
                          · go_wp2_with (at_builtin; refine wpList_append_own _ rfl _ _ 86 rfl w4.heap.size 9 i0 (.string ⟨#[]⟩) 1 16 Tryz.underlying86 hi hz0 hz1 hz2 rfl (by decide) _ _ _ rfl (HO.out.alloc _) ⟨wr.heap.size, 0, none⟩ 1 1 [.string ⟨x.toArray⟩] rfl rfl (cell_one_new _ _ _) (one_str [x]) (by unfold maxLen; omega) (by omega) (by simp; omega) ?_; intro v' w5 hown3 hgrow3 hnil3)
                            have O4 := Lib.hid hown3
                            have B4 := Lib.hid ((HB.out.alloc (by omega) _).grown hgrow3 (by simp; omega) (fun i hi => (HO.out.lt i hi).1))
                            clear hown3 hgrow3 hnil3
                            go_wp2
                            go_roundw
                            case rel => exact ⟨k + 1, by omega, by go_num, by rw [HN.out]; simpa using O4.out, B4.out, M.all_step hlt HA.out (HQ.out.trans (by have := HZ.out; simp; omega))⟩
                            case measure => simp [intOf]; omega
                        · obtain rfl : k = c.ws.length := by omega
                          have HY := Lib.hid (M.areW_end hlt HA.out)
                          have O4 := Lib.hid (show Words wr _ (M.wk c.ws) from Made.words (by rw [M.wk_len]; have := HO.out; rwa [List.take_length] at this))
                          have O5 := Lib.hid (O3.out.below hbw)
                          have B4 := Lib.hid (below_on B3.out hbw)
                          have HL := Lib.hid (show (M.rk c.rs).length ≤ 1000 by rw [M.rk_len]; omega)
                          have HL' := Lib.hid (show (M.wk c.ws).length ≤ 1000 by rw [M.wk_len]; omega)
                          clear HO HA HB hbw hk hlt O3
                          rcases two (M.rightsB (M.rk c.rs)) with d0 | d0
                          · go_wp2_with (fail)
                            refine (drights_any O5.out HL.out F.rks).mono ?_
                            rintro e w6 ⟨rfl, hb⟩
                            have O6 := Lib.hid (O4.out.below hb)
                            have B6 := Lib.hid (below_on B4.out hb)
                            clear hb
                            go_wp2_with (fail)
                            refine (drights_any O6.out HL'.out F.wks).mono ?_
                            rintro e w7 ⟨rfl, hb⟩
                            have B7 := Lib.hid (below_on B6.out hb)
                            clear hb
                            go_wp2
                            go_ret
                            exact ⟨ret_bool (by rw [HR.out, HE.out, ← HX.out, ← HY.out, d0]; rfl), B7.out⟩
                          · go_wp2_with (fail)
                            refine (drights_any O5.out HL.out F.rks).mono ?_
                            rintro e w6 ⟨rfl, hb⟩
                            have B6 := Lib.hid (below_on B4.out hb)
                            clear hb
                            go_wp2
                            go_ret
                            exact ⟨ret_bool (by rw [HR.out, HE.out, ← HX.out, d0]; rfl), B6.out⟩
                · obtain ⟨t4, t5⟩ := nz t3
                  clear t3
                  go_enter Tryz.func30, Tryz.ntmps30
                  go_wp2_with (fail)
                  refine (refTxn_any _ _ _).mono ?_
                  rintro e w1 ⟨rfl, hb⟩
                  have B1 := Lib.hid (below_on B0.out hb)
                  have X1 := Lib.hid (X0.out.on hb)
                  have R1 := Lib.hid (R0.out.below hb)
                  have W1 := Lib.hid (W0.out.below hb)
                  clear hb B0 X0 R0 W0
                  obtain ⟨l1, p10, p11, p12, p13, p14, p15, p16, p17, p18⟩ := X1.out
                  go_wp2_with (fail)
                  refine (refStamp_any _ _ _).mono ?_
                  rintro e w2 ⟨rfl, hb⟩
                  have B2 := Lib.hid (below_on B1.out hb)
                  have X2 := Lib.hid (X1.out.on hb)
                  have R2 := Lib.hid (R1.out.below hb)
                  have W2 := Lib.hid (W1.out.below hb)
                  clear hb B1 X1 R1 W1
                  clear l1 p10 p11 p12 p13 p14 p15 p16 p17 p18
                  obtain ⟨l2, p20, p21, p22, p23, p24, p25, p26, p27, p28⟩ := X2.out
                  go_wp2
                  clear l2 p20 p21 p22 p23 p24 p25 p26 p27 p28
                  have HF := Lib.hid (show M.areR c.rs c.tt c.tk = false → false = M.rightC c from fun h => by rw [HR.out, HE.out, h]; rfl)
                  have HG := Lib.hid (show M.areW c.ws = false → false = M.rightC c from fun h => by rw [HR.out, HE.out, h]; simp)
                  go_loopw [3, 4] (fun x i wr => ∃ k : Nat, k ≤ c.rs.length ∧ i = .int .i64 k ∧ wr.ownsRow w2.heap.size 9 1 x k ((M.rk (c.rs.take k)).map encStr) ∧ Below w2.heap.size w2 wr ∧ (c.rs.take k).all (M.oldAt c.tt c.tk) = true) (fun _ i _ => c.rs.length - (intOf i).toNat)
                  case atStart => exact ⟨0, Nat.zero_le _, rfl, World.ownsRow_nil _ _ _ _, Below.refl _ _, rfl⟩
                  case round =>
                    obtain ⟨k, hk, rfl, hrow, hbw, hall⟩ := hrel
                    have hbz := hbw.size
                    have HA := Lib.hid hall
                    have HB := Lib.hid hbw
                    have HO := Lib.hid hrow
                    clear hall hrow
                    obtain ⟨l0, p0, p1, p2, p3, p4, p5, p6, p7, p8⟩ := X2.out.on hbw
                    by_cases hlt : k < c.rs.length
                    · obtain ⟨A1x, c1x, ea, -, hx⟩ := R2.out.opened
                      simp only [Value.slice.injEq, true_and] at ea
                      obtain ⟨rfl, rfl⟩ := ea
                      obtain ⟨b, o, rfl, hb, hy⟩ := hx (by omega)
                      have Z0 := Lib.hid ((hy k hlt).below hbw hb)
                      have HN := Lib.hid (M.rk_take hlt)
                      have HQ := Lib.hid (show M.oldAt c.tt c.tk (c.rs.getD k rd0) = M.oldB (c.rs.getD k rd0).2.1 (c.rs.getD k rd0).2.2 c.tt c.tk from rfl)
                      clear hy hx hbw
                      obtain ⟨z1, z2, z3⟩ := Z0.out
                      generalize (c.rs.getD k rd0).1 = x at *
                      generalize (c.rs.getD k rd0).2.1 = t at *
                      generalize (c.rs.getD k rd0).2.2 = u at *
                      have hbr : b < wr.heap.size := by omega
                      have hi1 : (k : Int) < (c.rs.length : Int) := by omega
                      rcases two (M.pairB t u 0 1099511627776 0 3) with d0 | d0
                      · rcases two (decide (M.ord t u c.tt c.tk < 0)) with d1 | d1
                        · go_wp2
                          refine wp_region_after (by kernel_rfl) (by kernel_rfl) ?_
                          have hx := @After.cell wr
                          repeat (first
                            | (go_big_quiet_step (first
                                | (go_at_call 60; exact Calls.after_of (refStamp_any _ _ _))
                                | (go_at_call 61; exact Calls.after_of (dbefore_any _ _ _ _ _))))
                            | rw [d0] | rw [d1])
                          refine wpQuiet_nil ?_
                          rintro w3 ⟨⟨_, hb3⟩, rfl⟩
                          have B3 := Lib.hid (below_on HB.out hb3)
                          have O3 := Lib.hid (ownsRow_on HO.out hb3)
                          have Z3 := Lib.hid (Z0.out.below hb3 hbr)
                          have X3 := Lib.hid (X2.out.on B3.out)
                          have hbz3 : w2.heap.size ≤ w3.heap.size := B3.out.size
                          clear hb3 l0 p0 p1 p2 p3 p4 p5 p6 p7 p8 z1 z2 z3
                          obtain ⟨z1, z2, z3⟩ := Z3.out
                          obtain ⟨l0, p0, p1, p2, p3, p4, p5, p6, p7, p8⟩ := X3.out
                          go_wp2_with (at_builtin; refine wpList_append_own _ rfl _ _ 86 rfl w2.heap.size 9 i0 (.string ⟨#[]⟩) 1 16 Tryz.underlying86 hi hz0 hz1 hz2 rfl (by decide) _ _ _ rfl (O3.out.alloc _) ⟨w3.heap.size, 0, none⟩ 1 1 [.string ⟨x.toArray⟩] rfl rfl (cell_one_new _ _ _) (one_str [x]) (by unfold maxLen; omega) (by omega) (by simp; omega) ?_; intro v' w4 hown3 hgrow3 hnil3)
                          have O4 := Lib.hid hown3
                          have B4 := Lib.hid ((B3.out.alloc (by omega) _).grown hgrow3 (by simp; omega) (fun i hi => (O3.out.lt i hi).1))
                          clear hown3 hgrow3 hnil3
                          go_wp2
                          go_roundw
                          case rel => exact ⟨k + 1, by omega, by go_num, by rw [HN.out]; simpa using O4.out, B4.out, M.all_step hlt HA.out (HQ.out.trans ((M.old_yes d0).trans d1))⟩
                          case measure => simp [intOf]; omega
                        · go_wp2
                          refine wp_region_after (by kernel_rfl) (by kernel_rfl) ?_
                          have hx := @After.cell wr
                          repeat (first
                            | (go_big_quiet_step (first
                                | (go_at_call 60; exact Calls.after_of (refStamp_any _ _ _))
                                | (go_at_call 61; exact Calls.after_of (dbefore_any _ _ _ _ _))))
                            | rw [d0] | rw [d1])
                          refine wpQuiet_nil ?_
                          rintro w3 ⟨⟨_, hb3⟩, rfl⟩
                          have B3 := Lib.hid (below_on HB.out hb3)
                          go_wp2
                          go_ret
                          exact ⟨ret_bool (HF.out (M.areR_no hlt (HQ.out.trans ((M.old_yes d0).trans d1))).symm), below_on B2.out B3.out⟩
                      · go_wp2
                        refine wp_region_after (by kernel_rfl) (by kernel_rfl) ?_
                        have hx := @After.cell wr
                        repeat (first
                          | (go_big_quiet_step (first
                              | (go_at_call 60; exact Calls.after_of (refStamp_any _ _ _))
                              | (go_at_call 61; exact Calls.after_of (dbefore_any _ _ _ _ _))))
                          | rw [d0])
                        refine wpQuiet_nil ?_
                        rintro w3 ⟨⟨_, hb3⟩, rfl⟩
                        have B3 := Lib.hid (below_on HB.out hb3)
                        go_wp2
                        go_ret
                        exact ⟨ret_bool (HF.out (M.areR_no hlt (HQ.out.trans (M.old_no d0))).symm), below_on B2.out B3.out⟩
                    · obtain rfl : k = c.rs.length := by omega
                      have HX := Lib.hid (M.areR_end hlt HA.out)
                      have O3 := Lib.hid (show Words wr _ (M.rk c.rs) from Made.words (by rw [M.rk_len]; have := HO.out; rwa [List.take_length] at this))
                      have X3 := Lib.hid (X2.out.on hbw)
                      have W3 := Lib.hid (W2.out.below hbw)
                      have B3 := Lib.hid (below_on B2.out hbw)
                      clear HO HA HB hbw hk hlt X2 R2 W2 B2
                      go_wp2
                      clear l0 p0 p1 p2 p3 p4 p5 p6 p7 p8 hbz
                      obtain ⟨w4, hw4⟩ : ∃ w4 : World, w4 = wr := ⟨_, rfl⟩
                      subst hw4
                      go_loopw [5, 6] (fun x i wr => ∃ k : Nat, k ≤ c.ws.length ∧ i = .int .i64 k ∧ wr.ownsRow w4.heap.size 9 1 x k ((M.wk (c.ws.take k)).map encStr) ∧ Below w4.heap.size w4 wr ∧ (c.ws.take k).all M.shortAt = true) (fun _ i _ => c.ws.length - (intOf i).toNat)
                      case atStart => exact ⟨0, Nat.zero_le _, rfl, World.ownsRow_nil _ _ _ _, Below.refl _ _, rfl⟩
                      case round =>
                        obtain ⟨k, hk, rfl, hrow, hbw, hall⟩ := hrel
                        have hbz := hbw.size
                        have HA := Lib.hid hall
                        have HB := Lib.hid hbw
                        have HO := Lib.hid hrow
                        clear hall hrow
                        obtain ⟨l0, p0, p1, p2, p3, p4, p5, p6, p7, p8⟩ := X3.out.on hbw
                        by_cases hlt : k < c.ws.length
                        · obtain ⟨A1x, c1x, ea, -, hx⟩ := W3.out.opened
                          simp only [Value.slice.injEq, true_and] at ea
                          obtain ⟨rfl, rfl⟩ := ea
                          obtain ⟨b, o, rfl, hb, hy⟩ := hx (by omega)
                          obtain ⟨z1, z2⟩ := (hy k hlt).below hbw hb
                          have HN := Lib.hid (M.wk_take hlt)
                          have HQ := Lib.hid (show M.shortAt (c.ws.getD k wr0) = decide ((c.ws.getD k wr0).2.length ≤ 8) from rfl)
                          clear hy hx hbw
                          generalize (c.ws.getD k wr0).1 = x at *
                          generalize (c.ws.getD k wr0).2 = t at *
                          obtain ⟨s, hs⟩ : ∃ s : ByteArray, s = ⟨t.toArray⟩ := ⟨_, rfl⟩
                          rw [← hs] at z2
                          have HZ := Lib.hid (show s.size = t.length by rw [hs, size_mk])
                          clear hs
                          have hi1 : (k : Int) < (c.ws.length : Int) := by omega
                          by_cases hbig : 8 < s.size
                          · go_wp2
                            go_ret
                            exact ⟨ret_bool (HG.out (M.areW_no hlt (HQ.out.trans (by have := HZ.out; simp; omega))).symm), below_on B3.out HB.out⟩
                          · go_wp2_with (at_builtin; refine wpList_append_own _ rfl _ _ 86 rfl w4.heap.size 9 i0 (.string ⟨#[]⟩) 1 16 Tryz.underlying86 hi hz0 hz1 hz2 rfl (by decide) _ _ _ rfl (HO.out.alloc _) ⟨wr.heap.size, 0, none⟩ 1 1 [.string ⟨x.toArray⟩] rfl rfl (cell_one_new _ _ _) (one_str [x]) (by unfold maxLen; omega) (by omega) (by simp; omega) ?_; intro v' w5 hown3 hgrow3 hnil3)
                            have O4 := Lib.hid hown3
                            have B4 := Lib.hid ((HB.out.alloc (by omega) _).grown hgrow3 (by simp; omega) (fun i hi => (HO.out.lt i hi).1))
                            clear hown3 hgrow3 hnil3
                            go_wp2
                            go_roundw
                            case rel => exact ⟨k + 1, by omega, by go_num, by rw [HN.out]; simpa using O4.out, B4.out, M.all_step hlt HA.out (HQ.out.trans (by have := HZ.out; simp; omega))⟩
                            case measure => simp [intOf]; omega
                        · obtain rfl : k = c.ws.length := by omega
                          have HY := Lib.hid (M.areW_end hlt HA.out)
                          have O4 := Lib.hid (show Words wr _ (M.wk c.ws) from Made.words (by rw [M.wk_len]; have := HO.out; rwa [List.take_length] at this))
                          have O5 := Lib.hid (O3.out.below hbw)
                          have B4 := Lib.hid (below_on B3.out hbw)
                          have HL := Lib.hid (show (M.rk c.rs).length ≤ 1000 by rw [M.rk_len]; omega)
                          have HL' := Lib.hid (show (M.wk c.ws).length ≤ 1000 by rw [M.wk_len]; omega)
                          clear HO HA HB hbw hk hlt O3
                          rcases two (M.rightsB (M.rk c.rs)) with d0 | d0
                          · go_wp2_with (fail)
                            refine (drights_any O5.out HL.out F.rks).mono ?_
                            rintro e w6 ⟨rfl, hb⟩
                            have O6 := Lib.hid (O4.out.below hb)
                            have B6 := Lib.hid (below_on B4.out hb)
                            clear hb
                            go_wp2_with (fail)
                            refine (drights_any O6.out HL'.out F.wks).mono ?_
                            rintro e w7 ⟨rfl, hb⟩
                            have B7 := Lib.hid (below_on B6.out hb)
                            clear hb
                            go_wp2
                            go_ret
                            exact ⟨ret_bool (by rw [HR.out, HE.out, ← HX.out, ← HY.out, d0]; rfl), B7.out⟩
                          · go_wp2_with (fail)
                            refine (drights_any O5.out HL.out F.rks).mono ?_
                            rintro e w6 ⟨rfl, hb⟩
                            have B6 := Lib.hid (below_on B4.out hb)
                            clear hb
                            go_wp2
                            go_ret
                            exact ⟨ret_bool (by rw [HR.out, HE.out, ← HX.out, d0]; rfl), B6.out⟩
            · have HE := Lib.hid (show M.transB c = false by unfold M.transB; rw [e0, e1, decide_eq_true e2, decide_eq_true e3, decide_eq_true e4, decide_eq_false e5]; rfl)
              clear e3
              have t0 : ¬ c.tt = 0 := by have := M.pair_iff.1 e1; omega
              obtain ⟨t1, t2⟩ := neI t0
              clear t0
              go_enter Tryz.func30, Tryz.ntmps30
              go_wp2_with (fail)
              refine (refTxn_any _ _ _).mono ?_
              rintro e w1 ⟨rfl, hb⟩
              have B1 := Lib.hid (below_on B0.out hb)
              have X1 := Lib.hid (X0.out.on hb)
              have R1 := Lib.hid (R0.out.below hb)
              have W1 := Lib.hid (W0.out.below hb)
              clear hb B0 X0 R0 W0
              obtain ⟨l1, p10, p11, p12, p13, p14, p15, p16, p17, p18⟩ := X1.out
              go_wp2_with (fail)
              refine (refStamp_any _ _ _).mono ?_
              rintro e w2 ⟨rfl, hb⟩
              have B2 := Lib.hid (below_on B1.out hb)
              have X2 := Lib.hid (X1.out.on hb)
              have R2 := Lib.hid (R1.out.below hb)
              have W2 := Lib.hid (W1.out.below hb)
              clear hb B1 X1 R1 W1
              clear l1 p10 p11 p12 p13 p14 p15 p16 p17 p18
              obtain ⟨l2, p20, p21, p22, p23, p24, p25, p26, p27, p28⟩ := X2.out
              go_wp2
              go_ret
              exact ⟨ret_bool (HE.out.symm.trans HR.out.symm), B2.out⟩
          · have HE := Lib.hid (show M.transB c = false by unfold M.transB; rw [e0, e1, decide_eq_true e2, decide_eq_true e3, decide_eq_false e4]; rfl)
            clear e3
            have t0 : ¬ c.tt = 0 := by have := M.pair_iff.1 e1; omega
            obtain ⟨t1, t2⟩ := neI t0
            clear t0
            go_enter Tryz.func30, Tryz.ntmps30
            go_wp2_with (fail)
            refine (refTxn_any _ _ _).mono ?_
            rintro e w1 ⟨rfl, hb⟩
            have B1 := Lib.hid (below_on B0.out hb)
            have X1 := Lib.hid (X0.out.on hb)
            have R1 := Lib.hid (R0.out.below hb)
            have W1 := Lib.hid (W0.out.below hb)
            clear hb B0 X0 R0 W0
            obtain ⟨l1, p10, p11, p12, p13, p14, p15, p16, p17, p18⟩ := X1.out
            go_wp2_with (fail)
            refine (refStamp_any _ _ _).mono ?_
            rintro e w2 ⟨rfl, hb⟩
            have B2 := Lib.hid (below_on B1.out hb)
            have X2 := Lib.hid (X1.out.on hb)
            have R2 := Lib.hid (R1.out.below hb)
            have W2 := Lib.hid (W1.out.below hb)
            clear hb B1 X1 R1 W1
            clear l1 p10 p11 p12 p13 p14 p15 p16 p17 p18
            obtain ⟨l2, p20, p21, p22, p23, p24, p25, p26, p27, p28⟩ := X2.out
            go_wp2
            go_ret
            exact ⟨ret_bool (HE.out.symm.trans HR.out.symm), B2.out⟩
        · obtain ⟨q3a, q3b⟩ := neI e3
          have HE := Lib.hid (show M.transB c = false by unfold M.transB; rw [e0, e1, decide_eq_true e2, decide_eq_false e3]; rfl)
          clear e3
          have t0 : ¬ c.tt = 0 := by have := M.pair_iff.1 e1; omega
          obtain ⟨t1, t2⟩ := neI t0
          clear t0
          go_enter Tryz.func30, Tryz.ntmps30
          go_wp2_with (fail)
          refine (refTxn_any _ _ _).mono ?_
          rintro e w1 ⟨rfl, hb⟩
          have B1 := Lib.hid (below_on B0.out hb)
          have X1 := Lib.hid (X0.out.on hb)
          have R1 := Lib.hid (R0.out.below hb)
          have W1 := Lib.hid (W0.out.below hb)
          clear hb B0 X0 R0 W0
          obtain ⟨l1, p10, p11, p12, p13, p14, p15, p16, p17, p18⟩ := X1.out
          go_wp2_with (fail)
          refine (refStamp_any _ _ _).mono ?_
          rintro e w2 ⟨rfl, hb⟩
          have B2 := Lib.hid (below_on B1.out hb)
          have X2 := Lib.hid (X1.out.on hb)
          have R2 := Lib.hid (R1.out.below hb)
          have W2 := Lib.hid (W1.out.below hb)
          clear hb B1 X1 R1 W1
          clear l1 p10 p11 p12 p13 p14 p15 p16 p17 p18
          obtain ⟨l2, p20, p21, p22, p23, p24, p25, p26, p27, p28⟩ := X2.out
          go_wp2
          go_ret
          exact ⟨ret_bool (HE.out.symm.trans HR.out.symm), B2.out⟩
      · have HE := Lib.hid (show M.transB c = false by unfold M.transB; rw [e0, e1, decide_eq_false e2]; rfl)
        have t0 : c.tt = 0 := by have := M.pair_iff.1 e1; omega
        obtain ⟨t1, t2⟩ := eqI t0
        clear t0
        go_enter Tryz.func30, Tryz.ntmps30
        go_wp2_with (fail)
        refine (refTxn_any _ _ _).mono ?_
        rintro e w1 ⟨rfl, hb⟩
        have B1 := Lib.hid (below_on B0.out hb)
        have X1 := Lib.hid (X0.out.on hb)
        have R1 := Lib.hid (R0.out.below hb)
        have W1 := Lib.hid (W0.out.below hb)
        clear hb B0 X0 R0 W0
        obtain ⟨l1, p10, p11, p12, p13, p14, p15, p16, p17, p18⟩ := X1.out
        go_wp2_with (fail)
        refine (refStamp_any _ _ _).mono ?_
        rintro e w2 ⟨rfl, hb⟩
        have B2 := Lib.hid (below_on B1.out hb)
        have X2 := Lib.hid (X1.out.on hb)
        have R2 := Lib.hid (R1.out.below hb)
        have W2 := Lib.hid (W1.out.below hb)
        clear hb B1 X1 R1 W1
        clear l1 p10 p11 p12 p13 p14 p15 p16 p17 p18
        obtain ⟨l2, p20, p21, p22, p23, p24, p25, p26, p27, p28⟩ := X2.out
        go_wp2
        go_ret
        exact ⟨ret_bool (HE.out.symm.trans HR.out.symm), B2.out⟩
    · have HE := Lib.hid (show M.transB c = false by unfold M.transB; rw [e0, e1]; rfl)
      go_enter Tryz.func30, Tryz.ntmps30
      go_wp2_with (fail)
      refine (refTxn_any _ _ _).mono ?_
      rintro e w1 ⟨rfl, hb⟩
      have B1 := Lib.hid (below_on B0.out hb)
      have X1 := Lib.hid (X0.out.on hb)
      have R1 := Lib.hid (R0.out.below hb)
      have W1 := Lib.hid (W0.out.below hb)
      clear hb B0 X0 R0 W0
      obtain ⟨l1, p10, p11, p12, p13, p14, p15, p16, p17, p18⟩ := X1.out
      go_wp2_with (fail)
      refine (refStamp_any _ _ _).mono ?_
      rintro e w2 ⟨rfl, hb⟩
      have B2 := Lib.hid (below_on B1.out hb)
      have X2 := Lib.hid (X1.out.on hb)
      have R2 := Lib.hid (R1.out.below hb)
      have W2 := Lib.hid (W1.out.below hb)
      clear hb B1 X1 R1 W1
      clear l1 p10 p11 p12 p13 p14 p15 p16 p17 p18
      obtain ⟨l2, p20, p21, p22, p23, p24, p25, p26, p27, p28⟩ := X2.out
      go_wp2
      go_ret
      exact ⟨ret_bool (HE.out.symm.trans HR.out.symm), B2.out⟩
  · have HE := Lib.hid (show M.transB c = false by unfold M.transB; rw [e0]; rfl)
    go_enter Tryz.func30, Tryz.ntmps30
    go_wp2_with (fail)
    refine (refTxn_any _ _ _).mono ?_
    rintro e w1 ⟨rfl, hb⟩
    have B1 := Lib.hid (below_on B0.out hb)
    have X1 := Lib.hid (X0.out.on hb)
    have R1 := Lib.hid (R0.out.below hb)
    have W1 := Lib.hid (W0.out.below hb)
    clear hb B0 X0 R0 W0
    obtain ⟨l1, p10, p11, p12, p13, p14, p15, p16, p17, p18⟩ := X1.out
    go_wp2
    go_ret
    exact ⟨ret_bool (HE.out.symm.trans HR.out.symm), B1.out⟩
end Go.Proofs.YtpknkhgkejkpkaaGreat

namespace Go.Proofs.YtpknkhgkejkpkaaGreat
open Go.ChangeShapes Go.WideShapes Go.ChangeAt Go.RowKit
attribute [local go_sem ↓] run_same_rd run_same_wr run_same_txn run_same_stamp
set_option maxHeartbeats 8000000 in
set_option maxRecDepth 100000 in
theorem dright_one {w : World} (c : M.Cmd) {va vb : Value} (h : Rds w va c.rs) (h' : Wrs w vb c.ws) (F : M.Mod c) (hk : c.k = 1) (hcm : c.cm = false) : Calls Tryz.prog 30 #[.agg #[.int .i64 c.k, .int .i64 c.tc, .int .i64 c.tn, .int .i64 c.tt, .int .i64 c.tk, .int .i64 c.sh, va, vb, .bool c.cm]] w fun e w' => e = .returned (.bool (M.rightC c)) ∧ Below w.heap.size w w' := by
  obtain ⟨i0, hi, hz0, hz1, hz2⟩ := info_parts info9
  have hl := F.r
  have hl' := F.w
  have X0 := Lib.hid (Box.new w c va vb)
  have R0 := Lib.hid (h.push (.cells #[.int .i64 c.k, .int .i64 c.tc, .int .i64 c.tn, .int .i64 c.tt, .int .i64 c.tk, .int .i64 c.sh, va, vb, .bool c.cm] 30))
  have W0 := Lib.hid (h'.push (.cells #[.int .i64 c.k, .int .i64 c.tc, .int .i64 c.tn, .int .i64 c.tt, .int .i64 c.tk, .int .i64 c.sh, va, vb, .bool c.cm] 30))
  have B0 := Lib.hid (below_new (o := .cells #[.int .i64 c.k, .int .i64 c.tc, .int .i64 c.tn, .int .i64 c.tt, .int .i64 c.tk, .int .i64 c.sh, va, vb, .bool c.cm] 30) (Below.refl w.heap.size w))
  have HR := Lib.hid (show M.rightC c = M.transB c by unfold M.rightC; rw [if_neg (by omega), if_pos hk, hcm]; simp)
  obtain ⟨A1, c1, rfl, g1, -⟩ := h.opened
  obtain ⟨A2, c2, rfl, g2, -⟩ := h'.opened
  clear h h'
  obtain ⟨q0, q0'⟩ := neI (show ¬ c.k = 0 by omega)
  obtain ⟨q1, q1'⟩ := eqI hk
  obtain ⟨q2, q2'⟩ := neI (show ¬ c.k = 2 by omega)
  rw [hcm] at X0 R0 W0 B0
  clear hk
  rcases two (M.pairB c.tc c.tn 0 3 1 1099511627776) with e0 | e0
  · rcases two (M.pairB c.tt c.tk 0 1099511627776 0 3) with e1 | e1
    · by_cases e2 : 1 ≤ c.tt
      · by_cases e3 : c.tk = c.tc
        · obtain ⟨q3a, q3b⟩ := eqI e3
          by_cases e4 : 1 ≤ c.sh
          · by_cases e5 : c.sh ≤ 15
            · rcases two (M.emptyB c.rs.length c.ws.length) with e6 | e6
              · have HE := Lib.hid (show M.transB c = false by unfold M.transB; rw [e0, e1, decide_eq_true e2, decide_eq_true e3, decide_eq_true e4, decide_eq_true e5, e6]; rfl)
                clear e3
                have t0 : ¬ c.tt = 0 := by have := M.pair_iff.1 e1; omega
                obtain ⟨t1, t2⟩ := neI t0
                clear t0
                have t3 : c.rs.length = 0 ∧ c.ws.length = 0 := by unfold M.emptyB at e6; simpa using e6
                obtain ⟨t4, t5⟩ := zz t3.1
                obtain ⟨t6, t7⟩ := zz t3.2
                clear t3
                go_enter Tryz.func30, Tryz.ntmps30
                go_wp2_with (fail)
                refine (refTxn_any _ _ _).mono ?_
                rintro e w1 ⟨rfl, hb⟩
                have B1 := Lib.hid (below_on B0.out hb)
                have X1 := Lib.hid (X0.out.on hb)
                have R1 := Lib.hid (R0.out.below hb)
                have W1 := Lib.hid (W0.out.below hb)
                clear hb B0 X0 R0 W0
                obtain ⟨l1, p10, p11, p12, p13, p14, p15, p16, p17, p18⟩ := X1.out
                go_wp2_with (fail)
                refine (refStamp_any _ _ _).mono ?_
                rintro e w2 ⟨rfl, hb⟩
                have B2 := Lib.hid (below_on B1.out hb)
                have X2 := Lib.hid (X1.out.on hb)
                have R2 := Lib.hid (R1.out.below hb)
                have W2 := Lib.hid (W1.out.below hb)
                clear hb B1 X1 R1 W1
                clear l1 p10 p11 p12 p13 p14 p15 p16 p17 p18
                obtain ⟨l2, p20, p21, p22, p23, p24, p25, p26, p27, p28⟩ := X2.out
                go_wp2
                go_ret
                exact ⟨ret_bool (HE.out.symm.trans HR.out.symm), B2.out⟩
              · have HE := Lib.hid (show M.transB c = (M.areR c.rs c.tt c.tk && M.areW c.ws) by unfold M.transB; rw [e0, e1, decide_eq_true e2, decide_eq_true e3, decide_eq_true e4, decide_eq_true e5, e6]; rfl)
                clear e3
                have t0 : ¬ c.tt = 0 := by have := M.pair_iff.1 e1; omega
                obtain ⟨t1, t2⟩ := neI t0
                clear t0
                by_cases t3 : c.rs.length = 0
                · have t8 : ¬ c.ws.length = 0 := fun h => by unfold M.emptyB at e6; simp [t3, h] at e6
                  obtain ⟨t4, t5⟩ := zz t3
                  obtain ⟨t6, t7⟩ := nz t8
                  clear t3 t8
                  go_enter Tryz.func30, Tryz.ntmps30
                  go_wp2_with (fail)
                  refine (refTxn_any _ _ _).mono ?_
                  rintro e w1 ⟨rfl, hb⟩
                  have B1 := Lib.hid (below_on B0.out hb)
                  have X1 := Lib.hid (X0.out.on hb)
                  have R1 := Lib.hid (R0.out.below hb)
                  have W1 := Lib.hid (W0.out.below hb)
                  clear hb B0 X0 R0 W0
                  obtain ⟨l1, p10, p11, p12, p13, p14, p15, p16, p17, p18⟩ := X1.out
                  go_wp2_with (fail)
                  refine (refStamp_any _ _ _).mono ?_
                  rintro e w2 ⟨rfl, hb⟩
                  have B2 := Lib.hid (below_on B1.out hb)
                  have X2 := Lib.hid (X1.out.on hb)
                  have R2 := Lib.hid (R1.out.below hb)
                  have W2 := Lib.hid (W1.out.below hb)
                  clear hb B1 X1 R1 W1
                  clear l1 p10 p11 p12 p13 p14 p15 p16 p17 p18
                  obtain ⟨l2, p20, p21, p22, p23, p24, p25, p26, p27, p28⟩ := X2.out
                  go_wp2
                  clear l2 p20 p21 p22 p23 p24 p25 p26 p27 p28
                  have HF := Lib.hid (show M.areR c.rs c.tt c.tk = false → false = M.rightC c from fun h => by rw [HR.out, HE.out, h]; rfl)
                  have HG := Lib.hid (show M.areW c.ws = false → false = M.rightC c from fun h => by rw [HR.out, HE.out, h]; simp)
                  go_loopw [3, 4] (fun x i wr => ∃ k : Nat, k ≤ c.rs.length ∧ i = .int .i64 k ∧ wr.ownsRow w2.heap.size 9 1 x k ((M.rk (c.rs.take k)).map encStr) ∧ Below w2.heap.size w2 wr ∧ (c.rs.take k).all (M.oldAt c.tt c.tk) = true) (fun _ i _ => c.rs.length - (intOf i).toNat)
                  case atStart => exact ⟨0, Nat.zero_le _, rfl, World.ownsRow_nil _ _ _ _, Below.refl _ _, rfl⟩
                  case round =>
                    obtain ⟨k, hk, rfl, hrow, hbw, hall⟩ := hrel
                    have hbz := hbw.size
                    have HA := Lib.hid hall
                    have HB := Lib.hid hbw
                    have HO := Lib.hid hrow
                    clear hall hrow
                    obtain ⟨l0, p0, p1, p2, p3, p4, p5, p6, p7, p8⟩ := X2.out.on hbw
                    by_cases hlt : k < c.rs.length
                    · obtain ⟨A1x, c1x, ea, -, hx⟩ := R2.out.opened
                      simp only [Value.slice.injEq, true_and] at ea
                      obtain ⟨rfl, rfl⟩ := ea
                      obtain ⟨b, o, rfl, hb, hy⟩ := hx (by omega)
                      have Z0 := Lib.hid ((hy k hlt).below hbw hb)
                      have HN := Lib.hid (M.rk_take hlt)
                      have HQ := Lib.hid (show M.oldAt c.tt c.tk (c.rs.getD k rd0) = M.oldB (c.rs.getD k rd0).2.1 (c.rs.getD k rd0).2.2 c.tt c.tk from rfl)
                      clear hy hx hbw
                      obtain ⟨z1, z2, z3⟩ := Z0.out
                      generalize (c.rs.getD k rd0).1 = x at *
                      generalize (c.rs.getD k rd0).2.1 = t at *
                      generalize (c.rs.getD k rd0).2.2 = u at *
                      have hbr : b < wr.heap.size := by omega
                      have hi1 : (k : Int) < (c.rs.length : Int) := by omega
                      rcases two (M.pairB t u 0 1099511627776 0 3) with d0 | d0
                      · rcases two (decide (M.ord t u c.tt c.tk < 0)) with d1 | d1
                        · go_wp2
                          refine wp_region_after (by kernel_rfl) (by kernel_rfl) ?_
                          have hx := @After.cell wr
                          repeat (first
                            | (go_big_quiet_step (first
                                | (go_at_call 60; exact Calls.after_of (refStamp_any _ _ _))
                                | (go_at_call 61; exact Calls.after_of (dbefore_any _ _ _ _ _))))
                            | rw [d0] | rw [d1])
                          refine wpQuiet_nil ?_
                          rintro w3 ⟨⟨_, hb3⟩, rfl⟩
                          have B3 := Lib.hid (below_on HB.out hb3)
                          have O3 := Lib.hid (ownsRow_on HO.out hb3)
                          have Z3 := Lib.hid (Z0.out.below hb3 hbr)
                          have X3 := Lib.hid (X2.out.on B3.out)
                          have hbz3 : w2.heap.size ≤ w3.heap.size := B3.out.size
                          clear hb3 l0 p0 p1 p2 p3 p4 p5 p6 p7 p8 z1 z2 z3
                          obtain ⟨z1, z2, z3⟩ := Z3.out
                          obtain ⟨l0, p0, p1, p2, p3, p4, p5, p6, p7, p8⟩ := X3.out
                          go_wp2_with (at_builtin; refine wpList_append_own _ rfl _ _ 86 rfl w2.heap.size 9 i0 (.string ⟨#[]⟩) 1 16 Tryz.underlying86 hi hz0 hz1 hz2 rfl (by decide) _ _ _ rfl (O3.out.alloc _) ⟨w3.heap.size, 0, none⟩ 1 1 [.string ⟨x.toArray⟩] rfl rfl (cell_one_new _ _ _) (one_str [x]) (by unfold maxLen; omega) (by omega) (by simp; omega) ?_; intro v' w4 hown3 hgrow3 hnil3)
                          have O4 := Lib.hid hown3
                          have B4 := Lib.hid ((B3.out.alloc (by omega) _).grown hgrow3 (by simp; omega) (fun i hi => (O3.out.lt i hi).1))
                          clear hown3 hgrow3 hnil3
                          go_wp2
                          go_roundw
                          case rel => exact ⟨k + 1, by omega, by go_num, by rw [HN.out]; simpa using O4.out, B4.out, M.all_step hlt HA.out (HQ.out.trans ((M.old_yes d0).trans d1))⟩
                          case measure => simp [intOf]; omega
                        · go_wp2
                          refine wp_region_after (by kernel_rfl) (by kernel_rfl) ?_
                          have hx := @After.cell wr
                          repeat (first
                            | (go_big_quiet_step (first
                                | (go_at_call 60; exact Calls.after_of (refStamp_any _ _ _))
                                | (go_at_call 61; exact Calls.after_of (dbefore_any _ _ _ _ _))))
                            | rw [d0] | rw [d1])
                          refine wpQuiet_nil ?_
                          rintro w3 ⟨⟨_, hb3⟩, rfl⟩
                          have B3 := Lib.hid (below_on HB.out hb3)
                          go_wp2
                          go_ret
                          exact ⟨ret_bool (HF.out (M.areR_no hlt (HQ.out.trans ((M.old_yes d0).trans d1))).symm), below_on B2.out B3.out⟩
                      · go_wp2
                        refine wp_region_after (by kernel_rfl) (by kernel_rfl) ?_
                        have hx := @After.cell wr
                        repeat (first
                          | (go_big_quiet_step (first
                              | (go_at_call 60; exact Calls.after_of (refStamp_any _ _ _))
                              | (go_at_call 61; exact Calls.after_of (dbefore_any _ _ _ _ _))))
                          | rw [d0])
                        refine wpQuiet_nil ?_
                        rintro w3 ⟨⟨_, hb3⟩, rfl⟩
                        have B3 := Lib.hid (below_on HB.out hb3)
                        go_wp2
                        go_ret
                        exact ⟨ret_bool (HF.out (M.areR_no hlt (HQ.out.trans (M.old_no d0))).symm), below_on B2.out B3.out⟩
                    · obtain rfl : k = c.rs.length := by omega
                      have HX := Lib.hid (M.areR_end hlt HA.out)
                      have O3 := Lib.hid (show Words wr _ (M.rk c.rs) from Made.words (by rw [M.rk_len]; have := HO.out; rwa [List.take_length] at this))
                      have X3 := Lib.hid (X2.out.on hbw)
                      have W3 := Lib.hid (W2.out.below hbw)
                      have B3 := Lib.hid (below_on B2.out hbw)
                      clear HO HA HB hbw hk hlt X2 R2 W2 B2
                      go_wp2
                      clear l0 p0 p1 p2 p3 p4 p5 p6 p7 p8 hbz
                      obtain ⟨w4, hw4⟩ : ∃ w4 : World, w4 = wr := ⟨_, rfl⟩
                      subst hw4
                      go_loopw [5, 6] (fun x i wr => ∃ k : Nat, k ≤ c.ws.length ∧ i = .int .i64 k ∧ wr.ownsRow w4.heap.size 9 1 x k ((M.wk (c.ws.take k)).map encStr) ∧ Below w4.heap.size w4 wr ∧ (c.ws.take k).all M.shortAt = true) (fun _ i _ => c.ws.length - (intOf i).toNat)
                      case atStart => exact ⟨0, Nat.zero_le _, rfl, World.ownsRow_nil _ _ _ _, Below.refl _ _, rfl⟩
                      case round =>
                        obtain ⟨k, hk, rfl, hrow, hbw, hall⟩ := hrel
                        have hbz := hbw.size
                        have HA := Lib.hid hall
                        have HB := Lib.hid hbw
                        have HO := Lib.hid hrow
                        clear hall hrow
                        obtain ⟨l0, p0, p1, p2, p3, p4, p5, p6, p7, p8⟩ := X3.out.on hbw
                        by_cases hlt : k < c.ws.length
                        · obtain ⟨A1x, c1x, ea, -, hx⟩ := W3.out.opened
                          simp only [Value.slice.injEq, true_and] at ea
                          obtain ⟨rfl, rfl⟩ := ea
                          obtain ⟨b, o, rfl, hb, hy⟩ := hx (by omega)
                          obtain ⟨z1, z2⟩ := (hy k hlt).below hbw hb
                          have HN := Lib.hid (M.wk_take hlt)
                          have HQ := Lib.hid (show M.shortAt (c.ws.getD k wr0) = decide ((c.ws.getD k wr0).2.length ≤ 8) from rfl)
                          clear hy hx hbw
                          generalize (c.ws.getD k wr0).1 = x at *
                          generalize (c.ws.getD k wr0).2 = t at *
                          obtain ⟨s, hs⟩ : ∃ s : ByteArray, s = ⟨t.toArray⟩ := ⟨_, rfl⟩
                          rw [← hs] at z2
                          have HZ := Lib.hid (show s.size = t.length by rw [hs, size_mk])
                          clear hs
                          have hi1 : (k : Int) < (c.ws.length : Int) := by omega
                          by_cases hbig : 8 < s.size
                          · go_wp2
                            go_ret
                            exact ⟨ret_bool (HG.out (M.areW_no hlt (HQ.out.trans (by have := HZ.out; simp; omega))).symm), below_on B3.out HB.out⟩
                          · go_wp2_with (at_builtin; refine wpList_append_own _ rfl _ _ 86 rfl w4.heap.size 9 i0 (.string ⟨#[]⟩) 1 16 Tryz.underlying86 hi hz0 hz1 hz2 rfl (by decide) _ _ _ rfl (HO.out.alloc _) ⟨wr.heap.size, 0, none⟩ 1 1 [.string ⟨x.toArray⟩] rfl rfl (cell_one_new _ _ _) (one_str [x]) (by unfold maxLen; omega) (by omega) (by simp; omega) ?_; intro v' w5 hown3 hgrow3 hnil3)
                            have O4 := Lib.hid hown3
                            have B4 := Lib.hid ((HB.out.alloc (by omega) _).grown hgrow3 (by simp; omega) (fun i hi => (HO.out.lt i hi).1))
                            clear hown3 hgrow3 hnil3
                            go_wp2
                            go_roundw
                            case rel => exact ⟨k + 1, by omega, by go_num, by rw [HN.out]; simpa using O4.out, B4.out, M.all_step hlt HA.out (HQ.out.trans (by have := HZ.out; simp; omega))⟩
                            case measure => simp [intOf]; omega
                        · obtain rfl : k = c.ws.length := by omega
                          have HY := Lib.hid (M.areW_end hlt HA.out)
                          have O4 := Lib.hid (show Words wr _ (M.wk c.ws) from Made.words (by rw [M.wk_len]; have := HO.out; rwa [List.take_length] at this))
                          have O5 := Lib.hid (O3.out.below hbw)
                          have B4 := Lib.hid (below_on B3.out hbw)
                          have HL := Lib.hid (show (M.rk c.rs).length ≤ 1000 by rw [M.rk_len]; omega)
                          have HL' := Lib.hid (show (M.wk c.ws).length ≤ 1000 by rw [M.wk_len]; omega)
                          clear HO HA HB hbw hk hlt O3
                          rcases two (M.rightsB (M.rk c.rs)) with d0 | d0
                          · go_wp2_with (fail)
                            refine (drights_any O5.out HL.out F.rks).mono ?_
                            rintro e w6 ⟨rfl, hb⟩
                            have O6 := Lib.hid (O4.out.below hb)
                            have B6 := Lib.hid (below_on B4.out hb)
                            clear hb
                            go_wp2_with (fail)
                            refine (drights_any O6.out HL'.out F.wks).mono ?_
                            rintro e w7 ⟨rfl, hb⟩
                            have B7 := Lib.hid (below_on B6.out hb)
                            clear hb
                            go_wp2
                            go_ret
                            exact ⟨ret_bool (by rw [HR.out, HE.out, ← HX.out, ← HY.out, d0]; rfl), B7.out⟩
                          · go_wp2_with (fail)
                            refine (drights_any O5.out HL.out F.rks).mono ?_
                            rintro e w6 ⟨rfl, hb⟩
                            have B6 := Lib.hid (below_on B4.out hb)
                            clear hb
                            go_wp2
                            go_ret
                            exact ⟨ret_bool (by rw [HR.out, HE.out, ← HX.out, d0]; rfl), B6.out⟩
                · obtain ⟨t4, t5⟩ := nz t3
                  clear t3
                  go_enter Tryz.func30, Tryz.ntmps30
                  go_wp2_with (fail)
                  refine (refTxn_any _ _ _).mono ?_
                  rintro e w1 ⟨rfl, hb⟩
                  have B1 := Lib.hid (below_on B0.out hb)
                  have X1 := Lib.hid (X0.out.on hb)
                  have R1 := Lib.hid (R0.out.below hb)
                  have W1 := Lib.hid (W0.out.below hb)
                  clear hb B0 X0 R0 W0
                  obtain ⟨l1, p10, p11, p12, p13, p14, p15, p16, p17, p18⟩ := X1.out
                  go_wp2_with (fail)
                  refine (refStamp_any _ _ _).mono ?_
                  rintro e w2 ⟨rfl, hb⟩
                  have B2 := Lib.hid (below_on B1.out hb)
                  have X2 := Lib.hid (X1.out.on hb)
                  have R2 := Lib.hid (R1.out.below hb)
                  have W2 := Lib.hid (W1.out.below hb)
                  clear hb B1 X1 R1 W1
                  clear l1 p10 p11 p12 p13 p14 p15 p16 p17 p18
                  obtain ⟨l2, p20, p21, p22, p23, p24, p25, p26, p27, p28⟩ := X2.out
                  go_wp2
                  clear l2 p20 p21 p22 p23 p24 p25 p26 p27 p28
                  have HF := Lib.hid (show M.areR c.rs c.tt c.tk = false → false = M.rightC c from fun h => by rw [HR.out, HE.out, h]; rfl)
                  have HG := Lib.hid (show M.areW c.ws = false → false = M.rightC c from fun h => by rw [HR.out, HE.out, h]; simp)
                  go_loopw [3, 4] (fun x i wr => ∃ k : Nat, k ≤ c.rs.length ∧ i = .int .i64 k ∧ wr.ownsRow w2.heap.size 9 1 x k ((M.rk (c.rs.take k)).map encStr) ∧ Below w2.heap.size w2 wr ∧ (c.rs.take k).all (M.oldAt c.tt c.tk) = true) (fun _ i _ => c.rs.length - (intOf i).toNat)
                  case atStart => exact ⟨0, Nat.zero_le _, rfl, World.ownsRow_nil _ _ _ _, Below.refl _ _, rfl⟩
                  case round =>
                    obtain ⟨k, hk, rfl, hrow, hbw, hall⟩ := hrel
                    have hbz := hbw.size
                    have HA := Lib.hid hall
                    have HB := Lib.hid hbw
                    have HO := Lib.hid hrow
                    clear hall hrow
                    obtain ⟨l0, p0, p1, p2, p3, p4, p5, p6, p7, p8⟩ := X2.out.on hbw
                    by_cases hlt : k < c.rs.length
                    · obtain ⟨A1x, c1x, ea, -, hx⟩ := R2.out.opened
                      simp only [Value.slice.injEq, true_and] at ea
                      obtain ⟨rfl, rfl⟩ := ea
                      obtain ⟨b, o, rfl, hb, hy⟩ := hx (by omega)
                      have Z0 := Lib.hid ((hy k hlt).below hbw hb)
                      have HN := Lib.hid (M.rk_take hlt)
                      have HQ := Lib.hid (show M.oldAt c.tt c.tk (c.rs.getD k rd0) = M.oldB (c.rs.getD k rd0).2.1 (c.rs.getD k rd0).2.2 c.tt c.tk from rfl)
                      clear hy hx hbw
                      obtain ⟨z1, z2, z3⟩ := Z0.out
                      generalize (c.rs.getD k rd0).1 = x at *
                      generalize (c.rs.getD k rd0).2.1 = t at *
                      generalize (c.rs.getD k rd0).2.2 = u at *
                      have hbr : b < wr.heap.size := by omega
                      have hi1 : (k : Int) < (c.rs.length : Int) := by omega
                      rcases two (M.pairB t u 0 1099511627776 0 3) with d0 | d0
                      · rcases two (decide (M.ord t u c.tt c.tk < 0)) with d1 | d1
                        · go_wp2
                          refine wp_region_after (by kernel_rfl) (by kernel_rfl) ?_
                          have hx := @After.cell wr
                          repeat (first
                            | (go_big_quiet_step (first
                                | (go_at_call 60; exact Calls.after_of (refStamp_any _ _ _))
                                | (go_at_call 61; exact Calls.after_of (dbefore_any _ _ _ _ _))))
                            | rw [d0] | rw [d1])
                          refine wpQuiet_nil ?_
                          rintro w3 ⟨⟨_, hb3⟩, rfl⟩
                          have B3 := Lib.hid (below_on HB.out hb3)
                          have O3 := Lib.hid (ownsRow_on HO.out hb3)
                          have Z3 := Lib.hid (Z0.out.below hb3 hbr)
                          have X3 := Lib.hid (X2.out.on B3.out)
                          have hbz3 : w2.heap.size ≤ w3.heap.size := B3.out.size
                          clear hb3 l0 p0 p1 p2 p3 p4 p5 p6 p7 p8 z1 z2 z3
                          obtain ⟨z1, z2, z3⟩ := Z3.out
                          obtain ⟨l0, p0, p1, p2, p3, p4, p5, p6, p7, p8⟩ := X3.out
                          go_wp2_with (at_builtin; refine wpList_append_own _ rfl _ _ 86 rfl w2.heap.size 9 i0 (.string ⟨#[]⟩) 1 16 Tryz.underlying86 hi hz0 hz1 hz2 rfl (by decide) _ _ _ rfl (O3.out.alloc _) ⟨w3.heap.size, 0, none⟩ 1 1 [.string ⟨x.toArray⟩] rfl rfl (cell_one_new _ _ _) (one_str [x]) (by unfold maxLen; omega) (by omega) (by simp; omega) ?_; intro v' w4 hown3 hgrow3 hnil3)
                          have O4 := Lib.hid hown3
                          have B4 := Lib.hid ((B3.out.alloc (by omega) _).grown hgrow3 (by simp; omega) (fun i hi => (O3.out.lt i hi).1))
                          clear hown3 hgrow3 hnil3
                          go_wp2
                          go_roundw
                          case rel => exact ⟨k + 1, by omega, by go_num, by rw [HN.out]; simpa using O4.out, B4.out, M.all_step hlt HA.out (HQ.out.trans ((M.old_yes d0).trans d1))⟩
                          case measure => simp [intOf]; omega
                        · go_wp2
                          refine wp_region_after (by kernel_rfl) (by kernel_rfl) ?_
                          have hx := @After.cell wr
                          repeat (first
                            | (go_big_quiet_step (first
                                | (go_at_call 60; exact Calls.after_of (refStamp_any _ _ _))
                                | (go_at_call 61; exact Calls.after_of (dbefore_any _ _ _ _ _))))
                            | rw [d0] | rw [d1])
                          refine wpQuiet_nil ?_
                          rintro w3 ⟨⟨_, hb3⟩, rfl⟩
                          have B3 := Lib.hid (below_on HB.out hb3)
                          go_wp2
                          go_ret
                          exact ⟨ret_bool (HF.out (M.areR_no hlt (HQ.out.trans ((M.old_yes d0).trans d1))).symm), below_on B2.out B3.out⟩
                      · go_wp2
                        refine wp_region_after (by kernel_rfl) (by kernel_rfl) ?_
                        have hx := @After.cell wr
                        repeat (first
                          | (go_big_quiet_step (first
                              | (go_at_call 60; exact Calls.after_of (refStamp_any _ _ _))
                              | (go_at_call 61; exact Calls.after_of (dbefore_any _ _ _ _ _))))
                          | rw [d0])
                        refine wpQuiet_nil ?_
                        rintro w3 ⟨⟨_, hb3⟩, rfl⟩
                        have B3 := Lib.hid (below_on HB.out hb3)
                        go_wp2
                        go_ret
                        exact ⟨ret_bool (HF.out (M.areR_no hlt (HQ.out.trans (M.old_no d0))).symm), below_on B2.out B3.out⟩
                    · obtain rfl : k = c.rs.length := by omega
                      have HX := Lib.hid (M.areR_end hlt HA.out)
                      have O3 := Lib.hid (show Words wr _ (M.rk c.rs) from Made.words (by rw [M.rk_len]; have := HO.out; rwa [List.take_length] at this))
                      have X3 := Lib.hid (X2.out.on hbw)
                      have W3 := Lib.hid (W2.out.below hbw)
                      have B3 := Lib.hid (below_on B2.out hbw)
                      clear HO HA HB hbw hk hlt X2 R2 W2 B2
                      go_wp2
                      clear l0 p0 p1 p2 p3 p4 p5 p6 p7 p8 hbz
                      obtain ⟨w4, hw4⟩ : ∃ w4 : World, w4 = wr := ⟨_, rfl⟩
                      subst hw4
                      go_loopw [5, 6] (fun x i wr => ∃ k : Nat, k ≤ c.ws.length ∧ i = .int .i64 k ∧ wr.ownsRow w4.heap.size 9 1 x k ((M.wk (c.ws.take k)).map encStr) ∧ Below w4.heap.size w4 wr ∧ (c.ws.take k).all M.shortAt = true) (fun _ i _ => c.ws.length - (intOf i).toNat)
                      case atStart => exact ⟨0, Nat.zero_le _, rfl, World.ownsRow_nil _ _ _ _, Below.refl _ _, rfl⟩
                      case round =>
                        obtain ⟨k, hk, rfl, hrow, hbw, hall⟩ := hrel
                        have hbz := hbw.size
                        have HA := Lib.hid hall
                        have HB := Lib.hid hbw
                        have HO := Lib.hid hrow
                        clear hall hrow
                        obtain ⟨l0, p0, p1, p2, p3, p4, p5, p6, p7, p8⟩ := X3.out.on hbw
                        by_cases hlt : k < c.ws.length
                        · obtain ⟨A1x, c1x, ea, -, hx⟩ := W3.out.opened
                          simp only [Value.slice.injEq, true_and] at ea
                          obtain ⟨rfl, rfl⟩ := ea
                          obtain ⟨b, o, rfl, hb, hy⟩ := hx (by omega)
                          obtain ⟨z1, z2⟩ := (hy k hlt).below hbw hb
                          have HN := Lib.hid (M.wk_take hlt)
                          have HQ := Lib.hid (show M.shortAt (c.ws.getD k wr0) = decide ((c.ws.getD k wr0).2.length ≤ 8) from rfl)
                          clear hy hx hbw
                          generalize (c.ws.getD k wr0).1 = x at *
                          generalize (c.ws.getD k wr0).2 = t at *
                          obtain ⟨s, hs⟩ : ∃ s : ByteArray, s = ⟨t.toArray⟩ := ⟨_, rfl⟩
                          rw [← hs] at z2
                          have HZ := Lib.hid (show s.size = t.length by rw [hs, size_mk])
                          clear hs
                          have hi1 : (k : Int) < (c.ws.length : Int) := by omega
                          by_cases hbig : 8 < s.size
                          · go_wp2
                            go_ret
                            exact ⟨ret_bool (HG.out (M.areW_no hlt (HQ.out.trans (by have := HZ.out; simp; omega))).symm), below_on B3.out HB.out⟩
                          · go_wp2_with (at_builtin; refine wpList_append_own _ rfl _ _ 86 rfl w4.heap.size 9 i0 (.string ⟨#[]⟩) 1 16 Tryz.underlying86 hi hz0 hz1 hz2 rfl (by decide) _ _ _ rfl (HO.out.alloc _) ⟨wr.heap.size, 0, none⟩ 1 1 [.string ⟨x.toArray⟩] rfl rfl (cell_one_new _ _ _) (one_str [x]) (by unfold maxLen; omega) (by omega) (by simp; omega) ?_; intro v' w5 hown3 hgrow3 hnil3)
                            have O4 := Lib.hid hown3
                            have B4 := Lib.hid ((HB.out.alloc (by omega) _).grown hgrow3 (by simp; omega) (fun i hi => (HO.out.lt i hi).1))
                            clear hown3 hgrow3 hnil3
                            go_wp2
                            go_roundw
                            case rel => exact ⟨k + 1, by omega, by go_num, by rw [HN.out]; simpa using O4.out, B4.out, M.all_step hlt HA.out (HQ.out.trans (by have := HZ.out; simp; omega))⟩
                            case measure => simp [intOf]; omega
                        · obtain rfl : k = c.ws.length := by omega
                          have HY := Lib.hid (M.areW_end hlt HA.out)
                          have O4 := Lib.hid (show Words wr _ (M.wk c.ws) from Made.words (by rw [M.wk_len]; have := HO.out; rwa [List.take_length] at this))
                          have O5 := Lib.hid (O3.out.below hbw)
                          have B4 := Lib.hid (below_on B3.out hbw)
                          have HL := Lib.hid (show (M.rk c.rs).length ≤ 1000 by rw [M.rk_len]; omega)
                          have HL' := Lib.hid (show (M.wk c.ws).length ≤ 1000 by rw [M.wk_len]; omega)
                          clear HO HA HB hbw hk hlt O3
                          rcases two (M.rightsB (M.rk c.rs)) with d0 | d0
                          · go_wp2_with (fail)
                            refine (drights_any O5.out HL.out F.rks).mono ?_
                            rintro e w6 ⟨rfl, hb⟩
                            have O6 := Lib.hid (O4.out.below hb)
                            have B6 := Lib.hid (below_on B4.out hb)
                            clear hb
                            go_wp2_with (fail)
                            refine (drights_any O6.out HL'.out F.wks).mono ?_
                            rintro e w7 ⟨rfl, hb⟩
                            have B7 := Lib.hid (below_on B6.out hb)
                            clear hb
                            go_wp2
                            go_ret
                            exact ⟨ret_bool (by rw [HR.out, HE.out, ← HX.out, ← HY.out, d0]; rfl), B7.out⟩
                          · go_wp2_with (fail)
                            refine (drights_any O5.out HL.out F.rks).mono ?_
                            rintro e w6 ⟨rfl, hb⟩
                            have B6 := Lib.hid (below_on B4.out hb)
                            clear hb
                            go_wp2
                            go_ret
                            exact ⟨ret_bool (by rw [HR.out, HE.out, ← HX.out, d0]; rfl), B6.out⟩
            · have HE := Lib.hid (show M.transB c = false by unfold M.transB; rw [e0, e1, decide_eq_true e2, decide_eq_true e3, decide_eq_true e4, decide_eq_false e5]; rfl)
              clear e3
              have t0 : ¬ c.tt = 0 := by have := M.pair_iff.1 e1; omega
              obtain ⟨t1, t2⟩ := neI t0
              clear t0
              go_enter Tryz.func30, Tryz.ntmps30
              go_wp2_with (fail)
              refine (refTxn_any _ _ _).mono ?_
              rintro e w1 ⟨rfl, hb⟩
              have B1 := Lib.hid (below_on B0.out hb)
              have X1 := Lib.hid (X0.out.on hb)
              have R1 := Lib.hid (R0.out.below hb)
              have W1 := Lib.hid (W0.out.below hb)
              clear hb B0 X0 R0 W0
              obtain ⟨l1, p10, p11, p12, p13, p14, p15, p16, p17, p18⟩ := X1.out
              go_wp2_with (fail)
              refine (refStamp_any _ _ _).mono ?_
              rintro e w2 ⟨rfl, hb⟩
              have B2 := Lib.hid (below_on B1.out hb)
              have X2 := Lib.hid (X1.out.on hb)
              have R2 := Lib.hid (R1.out.below hb)
              have W2 := Lib.hid (W1.out.below hb)
              clear hb B1 X1 R1 W1
              clear l1 p10 p11 p12 p13 p14 p15 p16 p17 p18
              obtain ⟨l2, p20, p21, p22, p23, p24, p25, p26, p27, p28⟩ := X2.out
              go_wp2
              go_ret
              exact ⟨ret_bool (HE.out.symm.trans HR.out.symm), B2.out⟩
          · have HE := Lib.hid (show M.transB c = false by unfold M.transB; rw [e0, e1, decide_eq_true e2, decide_eq_true e3, decide_eq_false e4]; rfl)
            clear e3
            have t0 : ¬ c.tt = 0 := by have := M.pair_iff.1 e1; omega
            obtain ⟨t1, t2⟩ := neI t0
            clear t0
            go_enter Tryz.func30, Tryz.ntmps30
            go_wp2_with (fail)
            refine (refTxn_any _ _ _).mono ?_
            rintro e w1 ⟨rfl, hb⟩
            have B1 := Lib.hid (below_on B0.out hb)
            have X1 := Lib.hid (X0.out.on hb)
            have R1 := Lib.hid (R0.out.below hb)
            have W1 := Lib.hid (W0.out.below hb)
            clear hb B0 X0 R0 W0
            obtain ⟨l1, p10, p11, p12, p13, p14, p15, p16, p17, p18⟩ := X1.out
            go_wp2_with (fail)
            refine (refStamp_any _ _ _).mono ?_
            rintro e w2 ⟨rfl, hb⟩
            have B2 := Lib.hid (below_on B1.out hb)
            have X2 := Lib.hid (X1.out.on hb)
            have R2 := Lib.hid (R1.out.below hb)
            have W2 := Lib.hid (W1.out.below hb)
            clear hb B1 X1 R1 W1
            clear l1 p10 p11 p12 p13 p14 p15 p16 p17 p18
            obtain ⟨l2, p20, p21, p22, p23, p24, p25, p26, p27, p28⟩ := X2.out
            go_wp2
            go_ret
            exact ⟨ret_bool (HE.out.symm.trans HR.out.symm), B2.out⟩
        · obtain ⟨q3a, q3b⟩ := neI e3
          have HE := Lib.hid (show M.transB c = false by unfold M.transB; rw [e0, e1, decide_eq_true e2, decide_eq_false e3]; rfl)
          clear e3
          have t0 : ¬ c.tt = 0 := by have := M.pair_iff.1 e1; omega
          obtain ⟨t1, t2⟩ := neI t0
          clear t0
          go_enter Tryz.func30, Tryz.ntmps30
          go_wp2_with (fail)
          refine (refTxn_any _ _ _).mono ?_
          rintro e w1 ⟨rfl, hb⟩
          have B1 := Lib.hid (below_on B0.out hb)
          have X1 := Lib.hid (X0.out.on hb)
          have R1 := Lib.hid (R0.out.below hb)
          have W1 := Lib.hid (W0.out.below hb)
          clear hb B0 X0 R0 W0
          obtain ⟨l1, p10, p11, p12, p13, p14, p15, p16, p17, p18⟩ := X1.out
          go_wp2_with (fail)
          refine (refStamp_any _ _ _).mono ?_
          rintro e w2 ⟨rfl, hb⟩
          have B2 := Lib.hid (below_on B1.out hb)
          have X2 := Lib.hid (X1.out.on hb)
          have R2 := Lib.hid (R1.out.below hb)
          have W2 := Lib.hid (W1.out.below hb)
          clear hb B1 X1 R1 W1
          clear l1 p10 p11 p12 p13 p14 p15 p16 p17 p18
          obtain ⟨l2, p20, p21, p22, p23, p24, p25, p26, p27, p28⟩ := X2.out
          go_wp2
          go_ret
          exact ⟨ret_bool (HE.out.symm.trans HR.out.symm), B2.out⟩
      · have HE := Lib.hid (show M.transB c = false by unfold M.transB; rw [e0, e1, decide_eq_false e2]; rfl)
        have t0 : c.tt = 0 := by have := M.pair_iff.1 e1; omega
        obtain ⟨t1, t2⟩ := eqI t0
        clear t0
        go_enter Tryz.func30, Tryz.ntmps30
        go_wp2_with (fail)
        refine (refTxn_any _ _ _).mono ?_
        rintro e w1 ⟨rfl, hb⟩
        have B1 := Lib.hid (below_on B0.out hb)
        have X1 := Lib.hid (X0.out.on hb)
        have R1 := Lib.hid (R0.out.below hb)
        have W1 := Lib.hid (W0.out.below hb)
        clear hb B0 X0 R0 W0
        obtain ⟨l1, p10, p11, p12, p13, p14, p15, p16, p17, p18⟩ := X1.out
        go_wp2_with (fail)
        refine (refStamp_any _ _ _).mono ?_
        rintro e w2 ⟨rfl, hb⟩
        have B2 := Lib.hid (below_on B1.out hb)
        have X2 := Lib.hid (X1.out.on hb)
        have R2 := Lib.hid (R1.out.below hb)
        have W2 := Lib.hid (W1.out.below hb)
        clear hb B1 X1 R1 W1
        clear l1 p10 p11 p12 p13 p14 p15 p16 p17 p18
        obtain ⟨l2, p20, p21, p22, p23, p24, p25, p26, p27, p28⟩ := X2.out
        go_wp2
        go_ret
        exact ⟨ret_bool (HE.out.symm.trans HR.out.symm), B2.out⟩
    · have HE := Lib.hid (show M.transB c = false by unfold M.transB; rw [e0, e1]; rfl)
      go_enter Tryz.func30, Tryz.ntmps30
      go_wp2_with (fail)
      refine (refTxn_any _ _ _).mono ?_
      rintro e w1 ⟨rfl, hb⟩
      have B1 := Lib.hid (below_on B0.out hb)
      have X1 := Lib.hid (X0.out.on hb)
      have R1 := Lib.hid (R0.out.below hb)
      have W1 := Lib.hid (W0.out.below hb)
      clear hb B0 X0 R0 W0
      obtain ⟨l1, p10, p11, p12, p13, p14, p15, p16, p17, p18⟩ := X1.out
      go_wp2_with (fail)
      refine (refStamp_any _ _ _).mono ?_
      rintro e w2 ⟨rfl, hb⟩
      have B2 := Lib.hid (below_on B1.out hb)
      have X2 := Lib.hid (X1.out.on hb)
      have R2 := Lib.hid (R1.out.below hb)
      have W2 := Lib.hid (W1.out.below hb)
      clear hb B1 X1 R1 W1
      clear l1 p10 p11 p12 p13 p14 p15 p16 p17 p18
      obtain ⟨l2, p20, p21, p22, p23, p24, p25, p26, p27, p28⟩ := X2.out
      go_wp2
      go_ret
      exact ⟨ret_bool (HE.out.symm.trans HR.out.symm), B2.out⟩
  · have HE := Lib.hid (show M.transB c = false by unfold M.transB; rw [e0]; rfl)
    go_enter Tryz.func30, Tryz.ntmps30
    go_wp2_with (fail)
    refine (refTxn_any _ _ _).mono ?_
    rintro e w1 ⟨rfl, hb⟩
    have B1 := Lib.hid (below_on B0.out hb)
    have X1 := Lib.hid (X0.out.on hb)
    have R1 := Lib.hid (R0.out.below hb)
    have W1 := Lib.hid (W0.out.below hb)
    clear hb B0 X0 R0 W0
    obtain ⟨l1, p10, p11, p12, p13, p14, p15, p16, p17, p18⟩ := X1.out
    go_wp2
    go_ret
    exact ⟨ret_bool (HE.out.symm.trans HR.out.symm), B1.out⟩
end Go.Proofs.YtpknkhgkejkpkaaGreat

namespace Go.Proofs.YtpknkhgkejkpkaaGreat
open Go.ChangeShapes Go.WideShapes Go.ChangeAt Go.RowKit
attribute [local go_sem ↓] run_same_rd run_same_wr run_same_txn run_same_stamp
set_option maxHeartbeats 4000000 in
set_option maxRecDepth 100000 in
theorem dright_com {w : World} (c : M.Cmd) {va vb : Value} (hk : c.k = 1) (hcm : c.cm = true) : Calls Tryz.prog 30 #[.agg #[.int .i64 c.k, .int .i64 c.tc, .int .i64 c.tn, .int .i64 c.tt, .int .i64 c.tk, .int .i64 c.sh, va, vb, .bool c.cm]] w fun e w' => e = .returned (.bool (M.rightC c)) ∧ Below w.heap.size w w' := by
  have B0 := Lib.hid (below_new (o := .cells #[.int .i64 c.k, .int .i64 c.tc, .int .i64 c.tn, .int .i64 c.tt, .int .i64 c.tk, .int .i64 c.sh, va, vb, .bool c.cm] 30) (Below.refl w.heap.size w))
  have HR := Lib.hid (show M.rightC c = false by unfold M.rightC; rw [if_neg (by omega), if_pos hk, hcm]; simp)
  obtain ⟨q0, q0'⟩ := neI (show ¬ c.k = 0 by omega)
  obtain ⟨q1, q1'⟩ := eqI hk
  obtain ⟨q2, q2'⟩ := neI (show ¬ c.k = 2 by omega)
  rw [hcm] at B0
  clear hk
  go_enter Tryz.func30, Tryz.ntmps30
  go_wp2
  go_ret
  exact ⟨ret_bool HR.out.symm, B0.out⟩

set_option maxHeartbeats 4000000 in
set_option maxRecDepth 100000 in
theorem dright_oth {w : World} (c : M.Cmd) {va vb : Value} (h0 : ¬ c.k = 0) (h1 : ¬ c.k = 1) (h2 : ¬ c.k = 2) : Calls Tryz.prog 30 #[.agg #[.int .i64 c.k, .int .i64 c.tc, .int .i64 c.tn, .int .i64 c.tt, .int .i64 c.tk, .int .i64 c.sh, va, vb, .bool c.cm]] w fun e w' => e = .returned (.bool (M.rightC c)) ∧ Below w.heap.size w w' := by
  have B0 := Lib.hid (below_new (o := .cells #[.int .i64 c.k, .int .i64 c.tc, .int .i64 c.tn, .int .i64 c.tt, .int .i64 c.tk, .int .i64 c.sh, va, vb, .bool c.cm] 30) (Below.refl w.heap.size w))
  have HR := Lib.hid (show M.rightC c = false by unfold M.rightC; rw [if_neg h0, if_neg h1, if_neg h2])
  obtain ⟨q0, q0'⟩ := neI h0
  obtain ⟨q1, q1'⟩ := neI h1
  obtain ⟨q2, q2'⟩ := neI h2
  clear h0 h1 h2
  go_enter Tryz.func30, Tryz.ntmps30
  go_wp2
  go_ret
  exact ⟨ret_bool HR.out.symm, B0.out⟩

theorem drightC {w : World} (c : M.Cmd) {va vb : Value} (h : Rds w va c.rs) (h' : Wrs w vb c.ws) (F : M.Mod c) : Calls Tryz.prog 30 #[.agg #[.int .i64 c.k, .int .i64 c.tc, .int .i64 c.tn, .int .i64 c.tt, .int .i64 c.tk, .int .i64 c.sh, va, vb, .bool c.cm]] w fun e w' => e = .returned (.bool (M.rightC c)) ∧ Below w.heap.size w w' := by
  by_cases h0 : c.k = 0
  · exact dright_noop c h h' h0
  · by_cases h1 : c.k = 1
    · rcases two c.cm with e | e
      · exact dright_com c h1 e
      · exact dright_one c h h' F h1 e
    · by_cases h2 : c.k = 2
      · exact dright_two c h h' F h2
      · exact dright_oth c h0 h1 h2
end Go.Proofs.YtpknkhgkejkpkaaGreat

namespace Go.Proofs.YtpknkhgkejkpkaaGreat
open Go.ChangeShapes Go.WideShapes Go.ChangeAt Go.RowKit
attribute [local go_sem ↓] run_same7 run_same_inst run_same_ballot
theorem dlower_any (a b c d : Int) (w : World) : Calls Tryz.prog 20 #[.agg #[.int .i64 a, .int .i64 b], .agg #[.int .i64 c, .int .i64 d]] w fun e w' => e = .returned (.bool (decide (M.ord a b c d < 0))) ∧ Below w.heap.size w w' := by
  go_enter Tryz.func20, Tryz.ntmps20
  go_wp2_with (go_at_call 42; refine (order_any _ _ _ _ _).mono ?_; rintro e w' ⟨rfl, rfl⟩)
  go_ret
  exact ⟨rfl, below_new (below_new (Below.refl _ _))⟩
theorem ddeps7_any (r : M.Rec) (w : World) : Calls Tryz.prog 45 #[.agg #[.int .i64 r.d0, .int .i64 r.d1, .int .i64 r.d2, .int .i64 r.d3, .int .i64 r.d4, .int .i64 r.d5, .int .i64 r.d6]] w fun e w' => e = .returned (.bool (V7.right (M.dep r))) ∧ Below w.heap.size w w' := refDeps_any (M.dep r) w

namespace M
def zero7 (r : Rec) : Bool := V7.same7 r.d0 r.d1 r.d2 r.d3 r.d4 r.d5 r.d6 0 0 0 0 0 0 0
def dtail (r : Rec) : Bool := if r.st = 0 then eq2 r.bn r.br 0 0 && (decide (r.sq = 0) && (zero7 r && sameC r.c zero)) else decide (1 ≤ r.st) && (decide (r.st ≤ 3) && (rightC r.c && (decide (1 ≤ r.sq) && (decide (r.sq ≤ 1099511627776) && V7.right (dep r)))))
def drightR (r : Rec) : Bool := pairB r.ir r.is 0 6 1 1048576 && (pairB r.pn r.pr 0 1099511627776 0 6 && (pairB r.bn r.br 0 1099511627776 0 6 && (!decide (ord r.pn r.pr r.bn r.br < 0) && ((!r.kp || decide (r.st = 1)) && dtail r))))
end M

set_option maxHeartbeats 8000000 in
set_option maxRecDepth 100000 in
theorem dright_rec {w : World} (r : M.Rec) {va vb : Value} (h : Rds w va r.c.rs) (h' : Wrs w vb r.c.ws) (F : M.Mod r.c) :
    Calls Tryz.prog 21 #[.agg #[.int .i64 r.ir, .int .i64 r.is, .int .i64 r.st, .int .i64 r.pn, .int .i64 r.pr, .int .i64 r.bn, .int .i64 r.br, .int .i64 r.c.k, .int .i64 r.c.tc, .int .i64 r.c.tn, .int .i64 r.c.tt, .int .i64 r.c.tk, .int .i64 r.c.sh, va, vb, .bool r.c.cm, .int .i64 r.sq, .int .i64 r.d0, .int .i64 r.d1, .int .i64 r.d2, .int .i64 r.d3, .int .i64 r.d4, .int .i64 r.d5, .int .i64 r.d6, .bool r.kp]] w fun e w' => e = .returned (.bool (M.drightR r)) ∧ Below w.heap.size w w' := by
  have X0 := Lib.hid (Cel.new w [.int .i64 r.ir, .int .i64 r.is, .int .i64 r.st, .int .i64 r.pn, .int .i64 r.pr, .int .i64 r.bn, .int .i64 r.br, .int .i64 r.c.k, .int .i64 r.c.tc, .int .i64 r.c.tn, .int .i64 r.c.tt, .int .i64 r.c.tk, .int .i64 r.c.sh, va, vb, .bool r.c.cm, .int .i64 r.sq, .int .i64 r.d0, .int .i64 r.d1, .int .i64 r.d2, .int .i64 r.d3, .int .i64 r.d4, .int .i64 r.d5, .int .i64 r.d6, .bool r.kp] 41)
  have R0 := Lib.hid (h.push (.cells #[.int .i64 r.ir, .int .i64 r.is, .int .i64 r.st, .int .i64 r.pn, .int .i64 r.pr, .int .i64 r.bn, .int .i64 r.br, .int .i64 r.c.k, .int .i64 r.c.tc, .int .i64 r.c.tn, .int .i64 r.c.tt, .int .i64 r.c.tk, .int .i64 r.c.sh, va, vb, .bool r.c.cm, .int .i64 r.sq, .int .i64 r.d0, .int .i64 r.d1, .int .i64 r.d2, .int .i64 r.d3, .int .i64 r.d4, .int .i64 r.d5, .int .i64 r.d6, .bool r.kp] 41))
  have W0 := Lib.hid (h'.push (.cells #[.int .i64 r.ir, .int .i64 r.is, .int .i64 r.st, .int .i64 r.pn, .int .i64 r.pr, .int .i64 r.bn, .int .i64 r.br, .int .i64 r.c.k, .int .i64 r.c.tc, .int .i64 r.c.tn, .int .i64 r.c.tt, .int .i64 r.c.tk, .int .i64 r.c.sh, va, vb, .bool r.c.cm, .int .i64 r.sq, .int .i64 r.d0, .int .i64 r.d1, .int .i64 r.d2, .int .i64 r.d3, .int .i64 r.d4, .int .i64 r.d5, .int .i64 r.d6, .bool r.kp] 41))
  have B0 := Lib.hid (below_new (o := .cells #[.int .i64 r.ir, .int .i64 r.is, .int .i64 r.st, .int .i64 r.pn, .int .i64 r.pr, .int .i64 r.bn, .int .i64 r.br, .int .i64 r.c.k, .int .i64 r.c.tc, .int .i64 r.c.tn, .int .i64 r.c.tt, .int .i64 r.c.tk, .int .i64 r.c.sh, va, vb, .bool r.c.cm, .int .i64 r.sq, .int .i64 r.d0, .int .i64 r.d1, .int .i64 r.d2, .int .i64 r.d3, .int .i64 r.d4, .int .i64 r.d5, .int .i64 r.d6, .bool r.kp] 41) (Below.refl w.heap.size w))
  clear h h'
  rcases two (M.pairB r.ir r.is 0 6 1 1048576) with e0 | e0
  · skip
    rcases two (M.pairB r.pn r.pr 0 1099511627776 0 6) with e1 | e1
    · skip
      rcases two (M.pairB r.bn r.br 0 1099511627776 0 6) with e2 | e2
      · skip
        rcases two (decide (M.ord r.pn r.pr r.bn r.br < 0)) with e3 | e3
        · skip
          have HE := Lib.hid (show M.drightR r = false by unfold M.drightR M.dtail M.zero7; simp [*])
          go_enter Tryz.func21, Tryz.ntmps21
          go_wp2_with (fail)
          refine (refInst_any _ _ _).mono ?_
          rintro e w1 ⟨rfl, hb⟩
          have B1 := Lib.hid (below_on B0.out hb)
          have X1 := Lib.hid (X0.out.on hb)
          have R1 := Lib.hid (R0.out.below hb)
          have W1 := Lib.hid (W0.out.below hb)
          clear hb
          have fX3 := X1.out.get 3 _ rfl
          have fX4 := X1.out.get 4 _ rfl
          go_wp2_with (fail)
          refine (refBallot_any _ _ _).mono ?_
          rintro e w2 ⟨rfl, hb⟩
          have B2 := Lib.hid (below_on B1.out hb)
          have X2 := Lib.hid (X1.out.on hb)
          have R2 := Lib.hid (R1.out.below hb)
          have W2 := Lib.hid (W1.out.below hb)
          clear hb fX3 fX4
          have fX5 := X2.out.get 5 _ rfl
          have fX6 := X2.out.get 6 _ rfl
          go_wp2_with (fail)
          refine (refBallot_any _ _ _).mono ?_
          rintro e w3 ⟨rfl, hb⟩
          have B3 := Lib.hid (below_on B2.out hb)
          have X3 := Lib.hid (X2.out.on hb)
          have R3 := Lib.hid (R2.out.below hb)
          have W3 := Lib.hid (W2.out.below hb)
          clear hb fX5 fX6
          have fX3 := X3.out.get 3 _ rfl
          have fX4 := X3.out.get 4 _ rfl
          have fX5 := X3.out.get 5 _ rfl
          have fX6 := X3.out.get 6 _ rfl
          go_wp2_with (fail)
          refine (dlower_any _ _ _ _ _).mono ?_
          rintro e w4 ⟨rfl, hb⟩
          have B4 := Lib.hid (below_on B3.out hb)
          have X4 := Lib.hid (X3.out.on hb)
          have R4 := Lib.hid (R3.out.below hb)
          have W4 := Lib.hid (W3.out.below hb)
          clear hb fX3 fX4 fX5 fX6
          go_wp2
          go_ret
          exact ⟨ret_bool HE.out.symm, B4.out⟩
        · skip
          rcases two (r.kp) with e4 | e4
          · skip
            by_cases e5 : r.st = 1
            · obtain ⟨q5a, q5b⟩ := eqI e5
              obtain ⟨x0, x1⟩ := neI (show ¬ r.st = 0 by omega)
              have x2 : 1 ≤ r.st := by omega
              have x3 : r.st ≤ 3 := by omega
              rcases two (M.rightC r.c) with e6 | e6
              · skip
                by_cases e7 : 1 ≤ r.sq
                · skip
                  by_cases e8 : r.sq ≤ 1099511627776
                  · skip
                    have HE := Lib.hid (show M.drightR r = V7.right (M.dep r) by unfold M.drightR M.dtail M.zero7; simp [*])
                    clear e5
                    have E4 := Lib.hid e4
                    clear e4
                    go_enter Tryz.func21, Tryz.ntmps21
                    go_wp2_with (fail)
                    refine (refInst_any _ _ _).mono ?_
                    rintro e w1 ⟨rfl, hb⟩
                    have B1 := Lib.hid (below_on B0.out hb)
                    have X1 := Lib.hid (X0.out.on hb)
                    have R1 := Lib.hid (R0.out.below hb)
                    have W1 := Lib.hid (W0.out.below hb)
                    clear hb
                    have e4 := E4.out
                    have fX3 := X1.out.get 3 _ rfl
                    have fX4 := X1.out.get 4 _ rfl
                    go_wp2_with (fail)
                    refine (refBallot_any _ _ _).mono ?_
                    rintro e w2 ⟨rfl, hb⟩
                    have B2 := Lib.hid (below_on B1.out hb)
                    have X2 := Lib.hid (X1.out.on hb)
                    have R2 := Lib.hid (R1.out.below hb)
                    have W2 := Lib.hid (W1.out.below hb)
                    clear hb fX3 fX4
                    have fX5 := X2.out.get 5 _ rfl
                    have fX6 := X2.out.get 6 _ rfl
                    go_wp2_with (fail)
                    refine (refBallot_any _ _ _).mono ?_
                    rintro e w3 ⟨rfl, hb⟩
                    have B3 := Lib.hid (below_on B2.out hb)
                    have X3 := Lib.hid (X2.out.on hb)
                    have R3 := Lib.hid (R2.out.below hb)
                    have W3 := Lib.hid (W2.out.below hb)
                    clear hb fX5 fX6
                    have fX3 := X3.out.get 3 _ rfl
                    have fX4 := X3.out.get 4 _ rfl
                    have fX5 := X3.out.get 5 _ rfl
                    have fX6 := X3.out.get 6 _ rfl
                    go_wp2_with (fail)
                    refine (dlower_any _ _ _ _ _).mono ?_
                    rintro e w4 ⟨rfl, hb⟩
                    have B4 := Lib.hid (below_on B3.out hb)
                    have X4 := Lib.hid (X3.out.on hb)
                    have R4 := Lib.hid (R3.out.below hb)
                    have W4 := Lib.hid (W3.out.below hb)
                    clear hb fX3 fX4 fX5 fX6
                    have fX2 := X4.out.get 2 _ rfl
                    have fX7 := X4.out.get 7 _ rfl
                    have fX8 := X4.out.get 8 _ rfl
                    have fX9 := X4.out.get 9 _ rfl
                    have fX10 := X4.out.get 10 _ rfl
                    have fX11 := X4.out.get 11 _ rfl
                    have fX12 := X4.out.get 12 _ rfl
                    have fX13 := X4.out.get 13 _ rfl
                    have fX14 := X4.out.get 14 _ rfl
                    have fX15 := X4.out.get 15 _ rfl
                    have fX24 := X4.out.get 24 _ rfl
                    go_wp2_with (fail)
                    refine (drightC r.c R4.out W4.out F).mono ?_
                    rintro e w5 ⟨rfl, hb⟩
                    have B5 := Lib.hid (below_on B4.out hb)
                    have X5 := Lib.hid (X4.out.on hb)
                    have R5 := Lib.hid (R4.out.below hb)
                    have W5 := Lib.hid (W4.out.below hb)
                    clear hb fX2 fX7 fX8 fX9 fX10 fX11 fX12 fX13 fX14 fX15 fX24
                    have fX16 := X5.out.get 16 _ rfl
                    have fX17 := X5.out.get 17 _ rfl
                    have fX18 := X5.out.get 18 _ rfl
                    have fX19 := X5.out.get 19 _ rfl
                    have fX20 := X5.out.get 20 _ rfl
                    have fX21 := X5.out.get 21 _ rfl
                    have fX22 := X5.out.get 22 _ rfl
                    have fX23 := X5.out.get 23 _ rfl
                    go_wp2_with (fail)
                    refine (ddeps7_any r _).mono ?_
                    rintro e w6 ⟨rfl, hb⟩
                    have B6 := Lib.hid (below_on B5.out hb)
                    have X6 := Lib.hid (X5.out.on hb)
                    have R6 := Lib.hid (R5.out.below hb)
                    have W6 := Lib.hid (W5.out.below hb)
                    clear hb fX16 fX17 fX18 fX19 fX20 fX21 fX22 fX23
                    go_wp2
                    go_ret
                    exact ⟨ret_bool HE.out.symm, B6.out⟩
                  · skip
                    have HE := Lib.hid (show M.drightR r = false by unfold M.drightR M.dtail M.zero7; simp [*])
                    clear e5
                    have E4 := Lib.hid e4
                    clear e4
                    go_enter Tryz.func21, Tryz.ntmps21
                    go_wp2_with (fail)
                    refine (refInst_any _ _ _).mono ?_
                    rintro e w1 ⟨rfl, hb⟩
                    have B1 := Lib.hid (below_on B0.out hb)
                    have X1 := Lib.hid (X0.out.on hb)
                    have R1 := Lib.hid (R0.out.below hb)
                    have W1 := Lib.hid (W0.out.below hb)
                    clear hb
                    have e4 := E4.out
                    have fX3 := X1.out.get 3 _ rfl
                    have fX4 := X1.out.get 4 _ rfl
                    go_wp2_with (fail)
                    refine (refBallot_any _ _ _).mono ?_
                    rintro e w2 ⟨rfl, hb⟩
                    have B2 := Lib.hid (below_on B1.out hb)
                    have X2 := Lib.hid (X1.out.on hb)
                    have R2 := Lib.hid (R1.out.below hb)
                    have W2 := Lib.hid (W1.out.below hb)
                    clear hb fX3 fX4
                    have fX5 := X2.out.get 5 _ rfl
                    have fX6 := X2.out.get 6 _ rfl
                    go_wp2_with (fail)
                    refine (refBallot_any _ _ _).mono ?_
                    rintro e w3 ⟨rfl, hb⟩
                    have B3 := Lib.hid (below_on B2.out hb)
                    have X3 := Lib.hid (X2.out.on hb)
                    have R3 := Lib.hid (R2.out.below hb)
                    have W3 := Lib.hid (W2.out.below hb)
                    clear hb fX5 fX6
                    have fX3 := X3.out.get 3 _ rfl
                    have fX4 := X3.out.get 4 _ rfl
                    have fX5 := X3.out.get 5 _ rfl
                    have fX6 := X3.out.get 6 _ rfl
                    go_wp2_with (fail)
                    refine (dlower_any _ _ _ _ _).mono ?_
                    rintro e w4 ⟨rfl, hb⟩
                    have B4 := Lib.hid (below_on B3.out hb)
                    have X4 := Lib.hid (X3.out.on hb)
                    have R4 := Lib.hid (R3.out.below hb)
                    have W4 := Lib.hid (W3.out.below hb)
                    clear hb fX3 fX4 fX5 fX6
                    have fX2 := X4.out.get 2 _ rfl
                    have fX7 := X4.out.get 7 _ rfl
                    have fX8 := X4.out.get 8 _ rfl
                    have fX9 := X4.out.get 9 _ rfl
                    have fX10 := X4.out.get 10 _ rfl
                    have fX11 := X4.out.get 11 _ rfl
                    have fX12 := X4.out.get 12 _ rfl
                    have fX13 := X4.out.get 13 _ rfl
                    have fX14 := X4.out.get 14 _ rfl
                    have fX15 := X4.out.get 15 _ rfl
                    have fX24 := X4.out.get 24 _ rfl
                    go_wp2_with (fail)
                    refine (drightC r.c R4.out W4.out F).mono ?_
                    rintro e w5 ⟨rfl, hb⟩
                    have B5 := Lib.hid (below_on B4.out hb)
                    have X5 := Lib.hid (X4.out.on hb)
                    have R5 := Lib.hid (R4.out.below hb)
                    have W5 := Lib.hid (W4.out.below hb)
                    clear hb fX2 fX7 fX8 fX9 fX10 fX11 fX12 fX13 fX14 fX15 fX24
                    have fX16 := X5.out.get 16 _ rfl
                    go_wp2
                    go_ret
                    exact ⟨ret_bool HE.out.symm, B5.out⟩
                · skip
                  have HE := Lib.hid (show M.drightR r = false by unfold M.drightR M.dtail M.zero7; simp [*])
                  clear e5
                  have E4 := Lib.hid e4
                  clear e4
                  go_enter Tryz.func21, Tryz.ntmps21
                  go_wp2_with (fail)
                  refine (refInst_any _ _ _).mono ?_
                  rintro e w1 ⟨rfl, hb⟩
                  have B1 := Lib.hid (below_on B0.out hb)
                  have X1 := Lib.hid (X0.out.on hb)
                  have R1 := Lib.hid (R0.out.below hb)
                  have W1 := Lib.hid (W0.out.below hb)
                  clear hb
                  have e4 := E4.out
                  have fX3 := X1.out.get 3 _ rfl
                  have fX4 := X1.out.get 4 _ rfl
                  go_wp2_with (fail)
                  refine (refBallot_any _ _ _).mono ?_
                  rintro e w2 ⟨rfl, hb⟩
                  have B2 := Lib.hid (below_on B1.out hb)
                  have X2 := Lib.hid (X1.out.on hb)
                  have R2 := Lib.hid (R1.out.below hb)
                  have W2 := Lib.hid (W1.out.below hb)
                  clear hb fX3 fX4
                  have fX5 := X2.out.get 5 _ rfl
                  have fX6 := X2.out.get 6 _ rfl
                  go_wp2_with (fail)
                  refine (refBallot_any _ _ _).mono ?_
                  rintro e w3 ⟨rfl, hb⟩
                  have B3 := Lib.hid (below_on B2.out hb)
                  have X3 := Lib.hid (X2.out.on hb)
                  have R3 := Lib.hid (R2.out.below hb)
                  have W3 := Lib.hid (W2.out.below hb)
                  clear hb fX5 fX6
                  have fX3 := X3.out.get 3 _ rfl
                  have fX4 := X3.out.get 4 _ rfl
                  have fX5 := X3.out.get 5 _ rfl
                  have fX6 := X3.out.get 6 _ rfl
                  go_wp2_with (fail)
                  refine (dlower_any _ _ _ _ _).mono ?_
                  rintro e w4 ⟨rfl, hb⟩
                  have B4 := Lib.hid (below_on B3.out hb)
                  have X4 := Lib.hid (X3.out.on hb)
                  have R4 := Lib.hid (R3.out.below hb)
                  have W4 := Lib.hid (W3.out.below hb)
                  clear hb fX3 fX4 fX5 fX6
                  have fX2 := X4.out.get 2 _ rfl
                  have fX7 := X4.out.get 7 _ rfl
                  have fX8 := X4.out.get 8 _ rfl
                  have fX9 := X4.out.get 9 _ rfl
                  have fX10 := X4.out.get 10 _ rfl
                  have fX11 := X4.out.get 11 _ rfl
                  have fX12 := X4.out.get 12 _ rfl
                  have fX13 := X4.out.get 13 _ rfl
                  have fX14 := X4.out.get 14 _ rfl
                  have fX15 := X4.out.get 15 _ rfl
                  have fX24 := X4.out.get 24 _ rfl
                  go_wp2_with (fail)
                  refine (drightC r.c R4.out W4.out F).mono ?_
                  rintro e w5 ⟨rfl, hb⟩
                  have B5 := Lib.hid (below_on B4.out hb)
                  have X5 := Lib.hid (X4.out.on hb)
                  have R5 := Lib.hid (R4.out.below hb)
                  have W5 := Lib.hid (W4.out.below hb)
                  clear hb fX2 fX7 fX8 fX9 fX10 fX11 fX12 fX13 fX14 fX15 fX24
                  have fX16 := X5.out.get 16 _ rfl
                  go_wp2
                  go_ret
                  exact ⟨ret_bool HE.out.symm, B5.out⟩
              · skip
                have HE := Lib.hid (show M.drightR r = false by unfold M.drightR M.dtail M.zero7; simp [*])
                clear e5
                have E4 := Lib.hid e4
                clear e4
                go_enter Tryz.func21, Tryz.ntmps21
                go_wp2_with (fail)
                refine (refInst_any _ _ _).mono ?_
                rintro e w1 ⟨rfl, hb⟩
                have B1 := Lib.hid (below_on B0.out hb)
                have X1 := Lib.hid (X0.out.on hb)
                have R1 := Lib.hid (R0.out.below hb)
                have W1 := Lib.hid (W0.out.below hb)
                clear hb
                have e4 := E4.out
                have fX3 := X1.out.get 3 _ rfl
                have fX4 := X1.out.get 4 _ rfl
                go_wp2_with (fail)
                refine (refBallot_any _ _ _).mono ?_
                rintro e w2 ⟨rfl, hb⟩
                have B2 := Lib.hid (below_on B1.out hb)
                have X2 := Lib.hid (X1.out.on hb)
                have R2 := Lib.hid (R1.out.below hb)
                have W2 := Lib.hid (W1.out.below hb)
                clear hb fX3 fX4
                have fX5 := X2.out.get 5 _ rfl
                have fX6 := X2.out.get 6 _ rfl
                go_wp2_with (fail)
                refine (refBallot_any _ _ _).mono ?_
                rintro e w3 ⟨rfl, hb⟩
                have B3 := Lib.hid (below_on B2.out hb)
                have X3 := Lib.hid (X2.out.on hb)
                have R3 := Lib.hid (R2.out.below hb)
                have W3 := Lib.hid (W2.out.below hb)
                clear hb fX5 fX6
                have fX3 := X3.out.get 3 _ rfl
                have fX4 := X3.out.get 4 _ rfl
                have fX5 := X3.out.get 5 _ rfl
                have fX6 := X3.out.get 6 _ rfl
                go_wp2_with (fail)
                refine (dlower_any _ _ _ _ _).mono ?_
                rintro e w4 ⟨rfl, hb⟩
                have B4 := Lib.hid (below_on B3.out hb)
                have X4 := Lib.hid (X3.out.on hb)
                have R4 := Lib.hid (R3.out.below hb)
                have W4 := Lib.hid (W3.out.below hb)
                clear hb fX3 fX4 fX5 fX6
                have fX2 := X4.out.get 2 _ rfl
                have fX7 := X4.out.get 7 _ rfl
                have fX8 := X4.out.get 8 _ rfl
                have fX9 := X4.out.get 9 _ rfl
                have fX10 := X4.out.get 10 _ rfl
                have fX11 := X4.out.get 11 _ rfl
                have fX12 := X4.out.get 12 _ rfl
                have fX13 := X4.out.get 13 _ rfl
                have fX14 := X4.out.get 14 _ rfl
                have fX15 := X4.out.get 15 _ rfl
                have fX24 := X4.out.get 24 _ rfl
                go_wp2_with (fail)
                refine (drightC r.c R4.out W4.out F).mono ?_
                rintro e w5 ⟨rfl, hb⟩
                have B5 := Lib.hid (below_on B4.out hb)
                have X5 := Lib.hid (X4.out.on hb)
                have R5 := Lib.hid (R4.out.below hb)
                have W5 := Lib.hid (W4.out.below hb)
                clear hb fX2 fX7 fX8 fX9 fX10 fX11 fX12 fX13 fX14 fX15 fX24
                go_wp2
                go_ret
                exact ⟨ret_bool HE.out.symm, B5.out⟩
            · obtain ⟨q5a, q5b⟩ := neI e5
              have HE := Lib.hid (show M.drightR r = false by unfold M.drightR M.dtail M.zero7; simp [*])
              clear e5
              have E4 := Lib.hid e4
              clear e4
              go_enter Tryz.func21, Tryz.ntmps21
              go_wp2_with (fail)
              refine (refInst_any _ _ _).mono ?_
              rintro e w1 ⟨rfl, hb⟩
              have B1 := Lib.hid (below_on B0.out hb)
              have X1 := Lib.hid (X0.out.on hb)
              have R1 := Lib.hid (R0.out.below hb)
              have W1 := Lib.hid (W0.out.below hb)
              clear hb
              have e4 := E4.out
              have fX3 := X1.out.get 3 _ rfl
              have fX4 := X1.out.get 4 _ rfl
              go_wp2_with (fail)
              refine (refBallot_any _ _ _).mono ?_
              rintro e w2 ⟨rfl, hb⟩
              have B2 := Lib.hid (below_on B1.out hb)
              have X2 := Lib.hid (X1.out.on hb)
              have R2 := Lib.hid (R1.out.below hb)
              have W2 := Lib.hid (W1.out.below hb)
              clear hb fX3 fX4
              have fX5 := X2.out.get 5 _ rfl
              have fX6 := X2.out.get 6 _ rfl
              go_wp2_with (fail)
              refine (refBallot_any _ _ _).mono ?_
              rintro e w3 ⟨rfl, hb⟩
              have B3 := Lib.hid (below_on B2.out hb)
              have X3 := Lib.hid (X2.out.on hb)
              have R3 := Lib.hid (R2.out.below hb)
              have W3 := Lib.hid (W2.out.below hb)
              clear hb fX5 fX6
              have fX3 := X3.out.get 3 _ rfl
              have fX4 := X3.out.get 4 _ rfl
              have fX5 := X3.out.get 5 _ rfl
              have fX6 := X3.out.get 6 _ rfl
              go_wp2_with (fail)
              refine (dlower_any _ _ _ _ _).mono ?_
              rintro e w4 ⟨rfl, hb⟩
              have B4 := Lib.hid (below_on B3.out hb)
              have X4 := Lib.hid (X3.out.on hb)
              have R4 := Lib.hid (R3.out.below hb)
              have W4 := Lib.hid (W3.out.below hb)
              clear hb fX3 fX4 fX5 fX6
              have fX2 := X4.out.get 2 _ rfl
              have fX24 := X4.out.get 24 _ rfl
              go_wp2
              go_ret
              exact ⟨ret_bool HE.out.symm, B4.out⟩
          · skip
            by_cases e5 : r.st = 0
            · obtain ⟨q5a, q5b⟩ := eqI e5
              rcases two (M.eq2 r.bn r.br 0 0) with e6 | e6
              · skip
                by_cases e7 : r.sq = 0
                · obtain ⟨q7a, q7b⟩ := eqI e7
                  rcases two (V7.same7 r.d0 r.d1 r.d2 r.d3 r.d4 r.d5 r.d6 0 0 0 0 0 0 0) with e8 | e8
                  · skip
                    have HE := Lib.hid (show M.drightR r = M.sameC r.c M.zero by unfold M.drightR M.dtail M.zero7; simp [*])
                    clear e5 e7
                    have E4 := Lib.hid e4
                    clear e4
                    go_enter Tryz.func21, Tryz.ntmps21
                    go_wp2_with (fail)
                    refine (refInst_any _ _ _).mono ?_
                    rintro e w1 ⟨rfl, hb⟩
                    have B1 := Lib.hid (below_on B0.out hb)
                    have X1 := Lib.hid (X0.out.on hb)
                    have R1 := Lib.hid (R0.out.below hb)
                    have W1 := Lib.hid (W0.out.below hb)
                    clear hb
                    have e4 := E4.out
                    have fX3 := X1.out.get 3 _ rfl
                    have fX4 := X1.out.get 4 _ rfl
                    go_wp2_with (fail)
                    refine (refBallot_any _ _ _).mono ?_
                    rintro e w2 ⟨rfl, hb⟩
                    have B2 := Lib.hid (below_on B1.out hb)
                    have X2 := Lib.hid (X1.out.on hb)
                    have R2 := Lib.hid (R1.out.below hb)
                    have W2 := Lib.hid (W1.out.below hb)
                    clear hb fX3 fX4
                    have fX5 := X2.out.get 5 _ rfl
                    have fX6 := X2.out.get 6 _ rfl
                    go_wp2_with (fail)
                    refine (refBallot_any _ _ _).mono ?_
                    rintro e w3 ⟨rfl, hb⟩
                    have B3 := Lib.hid (below_on B2.out hb)
                    have X3 := Lib.hid (X2.out.on hb)
                    have R3 := Lib.hid (R2.out.below hb)
                    have W3 := Lib.hid (W2.out.below hb)
                    clear hb fX5 fX6
                    have fX3 := X3.out.get 3 _ rfl
                    have fX4 := X3.out.get 4 _ rfl
                    have fX5 := X3.out.get 5 _ rfl
                    have fX6 := X3.out.get 6 _ rfl
                    go_wp2_with (fail)
                    refine (dlower_any _ _ _ _ _).mono ?_
                    rintro e w4 ⟨rfl, hb⟩
                    have B4 := Lib.hid (below_on B3.out hb)
                    have X4 := Lib.hid (X3.out.on hb)
                    have R4 := Lib.hid (R3.out.below hb)
                    have W4 := Lib.hid (W3.out.below hb)
                    clear hb fX3 fX4 fX5 fX6
                    have fX2 := X4.out.get 2 _ rfl
                    have fX5 := X4.out.get 5 _ rfl
                    have fX6 := X4.out.get 6 _ rfl
                    have fX7 := X4.out.get 7 _ rfl
                    have fX8 := X4.out.get 8 _ rfl
                    have fX9 := X4.out.get 9 _ rfl
                    have fX10 := X4.out.get 10 _ rfl
                    have fX11 := X4.out.get 11 _ rfl
                    have fX12 := X4.out.get 12 _ rfl
                    have fX13 := X4.out.get 13 _ rfl
                    have fX14 := X4.out.get 14 _ rfl
                    have fX15 := X4.out.get 15 _ rfl
                    have fX16 := X4.out.get 16 _ rfl
                    have fX17 := X4.out.get 17 _ rfl
                    have fX18 := X4.out.get 18 _ rfl
                    have fX19 := X4.out.get 19 _ rfl
                    have fX20 := X4.out.get 20 _ rfl
                    have fX21 := X4.out.get 21 _ rfl
                    have fX22 := X4.out.get 22 _ rfl
                    have fX23 := X4.out.get 23 _ rfl
                    have fX24 := X4.out.get 24 _ rfl
                    go_wp2_with (fail)
                    refine (dsame_cmd r.c M.zero R4.out W4.out (Rds.nil _) (Wrs.nil _) F.l F.l').mono ?_
                    rintro e w5 ⟨rfl, hb⟩
                    have B5 := Lib.hid (below_on B4.out hb)
                    have X5 := Lib.hid (X4.out.on hb)
                    have R5 := Lib.hid (R4.out.below hb)
                    have W5 := Lib.hid (W4.out.below hb)
                    clear hb fX2 fX5 fX6 fX7 fX8 fX9 fX10 fX11 fX12 fX13 fX14 fX15 fX16 fX17 fX18 fX19 fX20 fX21 fX22 fX23 fX24
                    go_wp2
                    go_ret
                    exact ⟨ret_bool HE.out.symm, B5.out⟩
                  · skip
                    have HE := Lib.hid (show M.drightR r = false by unfold M.drightR M.dtail M.zero7; simp [*])
                    clear e5 e7
                    have E4 := Lib.hid e4
                    clear e4
                    go_enter Tryz.func21, Tryz.ntmps21
                    go_wp2_with (fail)
                    refine (refInst_any _ _ _).mono ?_
                    rintro e w1 ⟨rfl, hb⟩
                    have B1 := Lib.hid (below_on B0.out hb)
                    have X1 := Lib.hid (X0.out.on hb)
                    have R1 := Lib.hid (R0.out.below hb)
                    have W1 := Lib.hid (W0.out.below hb)
                    clear hb
                    have e4 := E4.out
                    have fX3 := X1.out.get 3 _ rfl
                    have fX4 := X1.out.get 4 _ rfl
                    go_wp2_with (fail)
                    refine (refBallot_any _ _ _).mono ?_
                    rintro e w2 ⟨rfl, hb⟩
                    have B2 := Lib.hid (below_on B1.out hb)
                    have X2 := Lib.hid (X1.out.on hb)
                    have R2 := Lib.hid (R1.out.below hb)
                    have W2 := Lib.hid (W1.out.below hb)
                    clear hb fX3 fX4
                    have fX5 := X2.out.get 5 _ rfl
                    have fX6 := X2.out.get 6 _ rfl
                    go_wp2_with (fail)
                    refine (refBallot_any _ _ _).mono ?_
                    rintro e w3 ⟨rfl, hb⟩
                    have B3 := Lib.hid (below_on B2.out hb)
                    have X3 := Lib.hid (X2.out.on hb)
                    have R3 := Lib.hid (R2.out.below hb)
                    have W3 := Lib.hid (W2.out.below hb)
                    clear hb fX5 fX6
                    have fX3 := X3.out.get 3 _ rfl
                    have fX4 := X3.out.get 4 _ rfl
                    have fX5 := X3.out.get 5 _ rfl
                    have fX6 := X3.out.get 6 _ rfl
                    go_wp2_with (fail)
                    refine (dlower_any _ _ _ _ _).mono ?_
                    rintro e w4 ⟨rfl, hb⟩
                    have B4 := Lib.hid (below_on B3.out hb)
                    have X4 := Lib.hid (X3.out.on hb)
                    have R4 := Lib.hid (R3.out.below hb)
                    have W4 := Lib.hid (W3.out.below hb)
                    clear hb fX3 fX4 fX5 fX6
                    have fX2 := X4.out.get 2 _ rfl
                    have fX5 := X4.out.get 5 _ rfl
                    have fX6 := X4.out.get 6 _ rfl
                    have fX16 := X4.out.get 16 _ rfl
                    have fX17 := X4.out.get 17 _ rfl
                    have fX18 := X4.out.get 18 _ rfl
                    have fX19 := X4.out.get 19 _ rfl
                    have fX20 := X4.out.get 20 _ rfl
                    have fX21 := X4.out.get 21 _ rfl
                    have fX22 := X4.out.get 22 _ rfl
                    have fX23 := X4.out.get 23 _ rfl
                    have fX24 := X4.out.get 24 _ rfl
                    go_wp2
                    go_ret
                    exact ⟨ret_bool HE.out.symm, B4.out⟩
                · obtain ⟨q7a, q7b⟩ := neI e7
                  have HE := Lib.hid (show M.drightR r = false by unfold M.drightR M.dtail M.zero7; simp [*])
                  clear e5 e7
                  have E4 := Lib.hid e4
                  clear e4
                  go_enter Tryz.func21, Tryz.ntmps21
                  go_wp2_with (fail)
                  refine (refInst_any _ _ _).mono ?_
                  rintro e w1 ⟨rfl, hb⟩
                  have B1 := Lib.hid (below_on B0.out hb)
                  have X1 := Lib.hid (X0.out.on hb)
                  have R1 := Lib.hid (R0.out.below hb)
                  have W1 := Lib.hid (W0.out.below hb)
                  clear hb
                  have e4 := E4.out
                  have fX3 := X1.out.get 3 _ rfl
                  have fX4 := X1.out.get 4 _ rfl
                  go_wp2_with (fail)
                  refine (refBallot_any _ _ _).mono ?_
                  rintro e w2 ⟨rfl, hb⟩
                  have B2 := Lib.hid (below_on B1.out hb)
                  have X2 := Lib.hid (X1.out.on hb)
                  have R2 := Lib.hid (R1.out.below hb)
                  have W2 := Lib.hid (W1.out.below hb)
                  clear hb fX3 fX4
                  have fX5 := X2.out.get 5 _ rfl
                  have fX6 := X2.out.get 6 _ rfl
                  go_wp2_with (fail)
                  refine (refBallot_any _ _ _).mono ?_
                  rintro e w3 ⟨rfl, hb⟩
                  have B3 := Lib.hid (below_on B2.out hb)
                  have X3 := Lib.hid (X2.out.on hb)
                  have R3 := Lib.hid (R2.out.below hb)
                  have W3 := Lib.hid (W2.out.below hb)
                  clear hb fX5 fX6
                  have fX3 := X3.out.get 3 _ rfl
                  have fX4 := X3.out.get 4 _ rfl
                  have fX5 := X3.out.get 5 _ rfl
                  have fX6 := X3.out.get 6 _ rfl
                  go_wp2_with (fail)
                  refine (dlower_any _ _ _ _ _).mono ?_
                  rintro e w4 ⟨rfl, hb⟩
                  have B4 := Lib.hid (below_on B3.out hb)
                  have X4 := Lib.hid (X3.out.on hb)
                  have R4 := Lib.hid (R3.out.below hb)
                  have W4 := Lib.hid (W3.out.below hb)
                  clear hb fX3 fX4 fX5 fX6
                  have fX2 := X4.out.get 2 _ rfl
                  have fX5 := X4.out.get 5 _ rfl
                  have fX6 := X4.out.get 6 _ rfl
                  have fX16 := X4.out.get 16 _ rfl
                  have fX24 := X4.out.get 24 _ rfl
                  go_wp2
                  go_ret
                  exact ⟨ret_bool HE.out.symm, B4.out⟩
              · skip
                have HE := Lib.hid (show M.drightR r = false by unfold M.drightR M.dtail M.zero7; simp [*])
                clear e5
                have E4 := Lib.hid e4
                clear e4
                go_enter Tryz.func21, Tryz.ntmps21
                go_wp2_with (fail)
                refine (refInst_any _ _ _).mono ?_
                rintro e w1 ⟨rfl, hb⟩
                have B1 := Lib.hid (below_on B0.out hb)
                have X1 := Lib.hid (X0.out.on hb)
                have R1 := Lib.hid (R0.out.below hb)
                have W1 := Lib.hid (W0.out.below hb)
                clear hb
                have e4 := E4.out
                have fX3 := X1.out.get 3 _ rfl
                have fX4 := X1.out.get 4 _ rfl
                go_wp2_with (fail)
                refine (refBallot_any _ _ _).mono ?_
                rintro e w2 ⟨rfl, hb⟩
                have B2 := Lib.hid (below_on B1.out hb)
                have X2 := Lib.hid (X1.out.on hb)
                have R2 := Lib.hid (R1.out.below hb)
                have W2 := Lib.hid (W1.out.below hb)
                clear hb fX3 fX4
                have fX5 := X2.out.get 5 _ rfl
                have fX6 := X2.out.get 6 _ rfl
                go_wp2_with (fail)
                refine (refBallot_any _ _ _).mono ?_
                rintro e w3 ⟨rfl, hb⟩
                have B3 := Lib.hid (below_on B2.out hb)
                have X3 := Lib.hid (X2.out.on hb)
                have R3 := Lib.hid (R2.out.below hb)
                have W3 := Lib.hid (W2.out.below hb)
                clear hb fX5 fX6
                have fX3 := X3.out.get 3 _ rfl
                have fX4 := X3.out.get 4 _ rfl
                have fX5 := X3.out.get 5 _ rfl
                have fX6 := X3.out.get 6 _ rfl
                go_wp2_with (fail)
                refine (dlower_any _ _ _ _ _).mono ?_
                rintro e w4 ⟨rfl, hb⟩
                have B4 := Lib.hid (below_on B3.out hb)
                have X4 := Lib.hid (X3.out.on hb)
                have R4 := Lib.hid (R3.out.below hb)
                have W4 := Lib.hid (W3.out.below hb)
                clear hb fX3 fX4 fX5 fX6
                have fX2 := X4.out.get 2 _ rfl
                have fX5 := X4.out.get 5 _ rfl
                have fX6 := X4.out.get 6 _ rfl
                have fX24 := X4.out.get 24 _ rfl
                go_wp2
                go_ret
                exact ⟨ret_bool HE.out.symm, B4.out⟩
            · obtain ⟨q5a, q5b⟩ := neI e5
              by_cases e6 : 1 ≤ r.st
              · skip
                by_cases e7 : r.st ≤ 3
                · skip
                  rcases two (M.rightC r.c) with e8 | e8
                  · skip
                    by_cases e9 : 1 ≤ r.sq
                    · skip
                      by_cases e10 : r.sq ≤ 1099511627776
                      · skip
                        have HE := Lib.hid (show M.drightR r = V7.right (M.dep r) by unfold M.drightR M.dtail M.zero7; simp [*])
                        clear e5
                        have E4 := Lib.hid e4
                        clear e4
                        go_enter Tryz.func21, Tryz.ntmps21
                        go_wp2_with (fail)
                        refine (refInst_any _ _ _).mono ?_
                        rintro e w1 ⟨rfl, hb⟩
                        have B1 := Lib.hid (below_on B0.out hb)
                        have X1 := Lib.hid (X0.out.on hb)
                        have R1 := Lib.hid (R0.out.below hb)
                        have W1 := Lib.hid (W0.out.below hb)
                        clear hb
                        have e4 := E4.out
                        have fX3 := X1.out.get 3 _ rfl
                        have fX4 := X1.out.get 4 _ rfl
                        go_wp2_with (fail)
                        refine (refBallot_any _ _ _).mono ?_
                        rintro e w2 ⟨rfl, hb⟩
                        have B2 := Lib.hid (below_on B1.out hb)
                        have X2 := Lib.hid (X1.out.on hb)
                        have R2 := Lib.hid (R1.out.below hb)
                        have W2 := Lib.hid (W1.out.below hb)
                        clear hb fX3 fX4
                        have fX5 := X2.out.get 5 _ rfl
                        have fX6 := X2.out.get 6 _ rfl
                        go_wp2_with (fail)
                        refine (refBallot_any _ _ _).mono ?_
                        rintro e w3 ⟨rfl, hb⟩
                        have B3 := Lib.hid (below_on B2.out hb)
                        have X3 := Lib.hid (X2.out.on hb)
                        have R3 := Lib.hid (R2.out.below hb)
                        have W3 := Lib.hid (W2.out.below hb)
                        clear hb fX5 fX6
                        have fX3 := X3.out.get 3 _ rfl
                        have fX4 := X3.out.get 4 _ rfl
                        have fX5 := X3.out.get 5 _ rfl
                        have fX6 := X3.out.get 6 _ rfl
                        go_wp2_with (fail)
                        refine (dlower_any _ _ _ _ _).mono ?_
                        rintro e w4 ⟨rfl, hb⟩
                        have B4 := Lib.hid (below_on B3.out hb)
                        have X4 := Lib.hid (X3.out.on hb)
                        have R4 := Lib.hid (R3.out.below hb)
                        have W4 := Lib.hid (W3.out.below hb)
                        clear hb fX3 fX4 fX5 fX6
                        have fX2 := X4.out.get 2 _ rfl
                        have fX7 := X4.out.get 7 _ rfl
                        have fX8 := X4.out.get 8 _ rfl
                        have fX9 := X4.out.get 9 _ rfl
                        have fX10 := X4.out.get 10 _ rfl
                        have fX11 := X4.out.get 11 _ rfl
                        have fX12 := X4.out.get 12 _ rfl
                        have fX13 := X4.out.get 13 _ rfl
                        have fX14 := X4.out.get 14 _ rfl
                        have fX15 := X4.out.get 15 _ rfl
                        have fX24 := X4.out.get 24 _ rfl
                        go_wp2_with (fail)
                        refine (drightC r.c R4.out W4.out F).mono ?_
                        rintro e w5 ⟨rfl, hb⟩
                        have B5 := Lib.hid (below_on B4.out hb)
                        have X5 := Lib.hid (X4.out.on hb)
                        have R5 := Lib.hid (R4.out.below hb)
                        have W5 := Lib.hid (W4.out.below hb)
                        clear hb fX2 fX7 fX8 fX9 fX10 fX11 fX12 fX13 fX14 fX15 fX24
                        have fX16 := X5.out.get 16 _ rfl
                        have fX17 := X5.out.get 17 _ rfl
                        have fX18 := X5.out.get 18 _ rfl
                        have fX19 := X5.out.get 19 _ rfl
                        have fX20 := X5.out.get 20 _ rfl
                        have fX21 := X5.out.get 21 _ rfl
                        have fX22 := X5.out.get 22 _ rfl
                        have fX23 := X5.out.get 23 _ rfl
                        go_wp2_with (fail)
                        refine (ddeps7_any r _).mono ?_
                        rintro e w6 ⟨rfl, hb⟩
                        have B6 := Lib.hid (below_on B5.out hb)
                        have X6 := Lib.hid (X5.out.on hb)
                        have R6 := Lib.hid (R5.out.below hb)
                        have W6 := Lib.hid (W5.out.below hb)
                        clear hb fX16 fX17 fX18 fX19 fX20 fX21 fX22 fX23
                        go_wp2
                        go_ret
                        exact ⟨ret_bool HE.out.symm, B6.out⟩
                      · skip
                        have HE := Lib.hid (show M.drightR r = false by unfold M.drightR M.dtail M.zero7; simp [*])
                        clear e5
                        have E4 := Lib.hid e4
                        clear e4
                        go_enter Tryz.func21, Tryz.ntmps21
                        go_wp2_with (fail)
                        refine (refInst_any _ _ _).mono ?_
                        rintro e w1 ⟨rfl, hb⟩
                        have B1 := Lib.hid (below_on B0.out hb)
                        have X1 := Lib.hid (X0.out.on hb)
                        have R1 := Lib.hid (R0.out.below hb)
                        have W1 := Lib.hid (W0.out.below hb)
                        clear hb
                        have e4 := E4.out
                        have fX3 := X1.out.get 3 _ rfl
                        have fX4 := X1.out.get 4 _ rfl
                        go_wp2_with (fail)
                        refine (refBallot_any _ _ _).mono ?_
                        rintro e w2 ⟨rfl, hb⟩
                        have B2 := Lib.hid (below_on B1.out hb)
                        have X2 := Lib.hid (X1.out.on hb)
                        have R2 := Lib.hid (R1.out.below hb)
                        have W2 := Lib.hid (W1.out.below hb)
                        clear hb fX3 fX4
                        have fX5 := X2.out.get 5 _ rfl
                        have fX6 := X2.out.get 6 _ rfl
                        go_wp2_with (fail)
                        refine (refBallot_any _ _ _).mono ?_
                        rintro e w3 ⟨rfl, hb⟩
                        have B3 := Lib.hid (below_on B2.out hb)
                        have X3 := Lib.hid (X2.out.on hb)
                        have R3 := Lib.hid (R2.out.below hb)
                        have W3 := Lib.hid (W2.out.below hb)
                        clear hb fX5 fX6
                        have fX3 := X3.out.get 3 _ rfl
                        have fX4 := X3.out.get 4 _ rfl
                        have fX5 := X3.out.get 5 _ rfl
                        have fX6 := X3.out.get 6 _ rfl
                        go_wp2_with (fail)
                        refine (dlower_any _ _ _ _ _).mono ?_
                        rintro e w4 ⟨rfl, hb⟩
                        have B4 := Lib.hid (below_on B3.out hb)
                        have X4 := Lib.hid (X3.out.on hb)
                        have R4 := Lib.hid (R3.out.below hb)
                        have W4 := Lib.hid (W3.out.below hb)
                        clear hb fX3 fX4 fX5 fX6
                        have fX2 := X4.out.get 2 _ rfl
                        have fX7 := X4.out.get 7 _ rfl
                        have fX8 := X4.out.get 8 _ rfl
                        have fX9 := X4.out.get 9 _ rfl
                        have fX10 := X4.out.get 10 _ rfl
                        have fX11 := X4.out.get 11 _ rfl
                        have fX12 := X4.out.get 12 _ rfl
                        have fX13 := X4.out.get 13 _ rfl
                        have fX14 := X4.out.get 14 _ rfl
                        have fX15 := X4.out.get 15 _ rfl
                        have fX24 := X4.out.get 24 _ rfl
                        go_wp2_with (fail)
                        refine (drightC r.c R4.out W4.out F).mono ?_
                        rintro e w5 ⟨rfl, hb⟩
                        have B5 := Lib.hid (below_on B4.out hb)
                        have X5 := Lib.hid (X4.out.on hb)
                        have R5 := Lib.hid (R4.out.below hb)
                        have W5 := Lib.hid (W4.out.below hb)
                        clear hb fX2 fX7 fX8 fX9 fX10 fX11 fX12 fX13 fX14 fX15 fX24
                        have fX16 := X5.out.get 16 _ rfl
                        go_wp2
                        go_ret
                        exact ⟨ret_bool HE.out.symm, B5.out⟩
                    · skip
                      have HE := Lib.hid (show M.drightR r = false by unfold M.drightR M.dtail M.zero7; simp [*])
                      clear e5
                      have E4 := Lib.hid e4
                      clear e4
                      go_enter Tryz.func21, Tryz.ntmps21
                      go_wp2_with (fail)
                      refine (refInst_any _ _ _).mono ?_
                      rintro e w1 ⟨rfl, hb⟩
                      have B1 := Lib.hid (below_on B0.out hb)
                      have X1 := Lib.hid (X0.out.on hb)
                      have R1 := Lib.hid (R0.out.below hb)
                      have W1 := Lib.hid (W0.out.below hb)
                      clear hb
                      have e4 := E4.out
                      have fX3 := X1.out.get 3 _ rfl
                      have fX4 := X1.out.get 4 _ rfl
                      go_wp2_with (fail)
                      refine (refBallot_any _ _ _).mono ?_
                      rintro e w2 ⟨rfl, hb⟩
                      have B2 := Lib.hid (below_on B1.out hb)
                      have X2 := Lib.hid (X1.out.on hb)
                      have R2 := Lib.hid (R1.out.below hb)
                      have W2 := Lib.hid (W1.out.below hb)
                      clear hb fX3 fX4
                      have fX5 := X2.out.get 5 _ rfl
                      have fX6 := X2.out.get 6 _ rfl
                      go_wp2_with (fail)
                      refine (refBallot_any _ _ _).mono ?_
                      rintro e w3 ⟨rfl, hb⟩
                      have B3 := Lib.hid (below_on B2.out hb)
                      have X3 := Lib.hid (X2.out.on hb)
                      have R3 := Lib.hid (R2.out.below hb)
                      have W3 := Lib.hid (W2.out.below hb)
                      clear hb fX5 fX6
                      have fX3 := X3.out.get 3 _ rfl
                      have fX4 := X3.out.get 4 _ rfl
                      have fX5 := X3.out.get 5 _ rfl
                      have fX6 := X3.out.get 6 _ rfl
                      go_wp2_with (fail)
                      refine (dlower_any _ _ _ _ _).mono ?_
                      rintro e w4 ⟨rfl, hb⟩
                      have B4 := Lib.hid (below_on B3.out hb)
                      have X4 := Lib.hid (X3.out.on hb)
                      have R4 := Lib.hid (R3.out.below hb)
                      have W4 := Lib.hid (W3.out.below hb)
                      clear hb fX3 fX4 fX5 fX6
                      have fX2 := X4.out.get 2 _ rfl
                      have fX7 := X4.out.get 7 _ rfl
                      have fX8 := X4.out.get 8 _ rfl
                      have fX9 := X4.out.get 9 _ rfl
                      have fX10 := X4.out.get 10 _ rfl
                      have fX11 := X4.out.get 11 _ rfl
                      have fX12 := X4.out.get 12 _ rfl
                      have fX13 := X4.out.get 13 _ rfl
                      have fX14 := X4.out.get 14 _ rfl
                      have fX15 := X4.out.get 15 _ rfl
                      have fX24 := X4.out.get 24 _ rfl
                      go_wp2_with (fail)
                      refine (drightC r.c R4.out W4.out F).mono ?_
                      rintro e w5 ⟨rfl, hb⟩
                      have B5 := Lib.hid (below_on B4.out hb)
                      have X5 := Lib.hid (X4.out.on hb)
                      have R5 := Lib.hid (R4.out.below hb)
                      have W5 := Lib.hid (W4.out.below hb)
                      clear hb fX2 fX7 fX8 fX9 fX10 fX11 fX12 fX13 fX14 fX15 fX24
                      have fX16 := X5.out.get 16 _ rfl
                      go_wp2
                      go_ret
                      exact ⟨ret_bool HE.out.symm, B5.out⟩
                  · skip
                    have HE := Lib.hid (show M.drightR r = false by unfold M.drightR M.dtail M.zero7; simp [*])
                    clear e5
                    have E4 := Lib.hid e4
                    clear e4
                    go_enter Tryz.func21, Tryz.ntmps21
                    go_wp2_with (fail)
                    refine (refInst_any _ _ _).mono ?_
                    rintro e w1 ⟨rfl, hb⟩
                    have B1 := Lib.hid (below_on B0.out hb)
                    have X1 := Lib.hid (X0.out.on hb)
                    have R1 := Lib.hid (R0.out.below hb)
                    have W1 := Lib.hid (W0.out.below hb)
                    clear hb
                    have e4 := E4.out
                    have fX3 := X1.out.get 3 _ rfl
                    have fX4 := X1.out.get 4 _ rfl
                    go_wp2_with (fail)
                    refine (refBallot_any _ _ _).mono ?_
                    rintro e w2 ⟨rfl, hb⟩
                    have B2 := Lib.hid (below_on B1.out hb)
                    have X2 := Lib.hid (X1.out.on hb)
                    have R2 := Lib.hid (R1.out.below hb)
                    have W2 := Lib.hid (W1.out.below hb)
                    clear hb fX3 fX4
                    have fX5 := X2.out.get 5 _ rfl
                    have fX6 := X2.out.get 6 _ rfl
                    go_wp2_with (fail)
                    refine (refBallot_any _ _ _).mono ?_
                    rintro e w3 ⟨rfl, hb⟩
                    have B3 := Lib.hid (below_on B2.out hb)
                    have X3 := Lib.hid (X2.out.on hb)
                    have R3 := Lib.hid (R2.out.below hb)
                    have W3 := Lib.hid (W2.out.below hb)
                    clear hb fX5 fX6
                    have fX3 := X3.out.get 3 _ rfl
                    have fX4 := X3.out.get 4 _ rfl
                    have fX5 := X3.out.get 5 _ rfl
                    have fX6 := X3.out.get 6 _ rfl
                    go_wp2_with (fail)
                    refine (dlower_any _ _ _ _ _).mono ?_
                    rintro e w4 ⟨rfl, hb⟩
                    have B4 := Lib.hid (below_on B3.out hb)
                    have X4 := Lib.hid (X3.out.on hb)
                    have R4 := Lib.hid (R3.out.below hb)
                    have W4 := Lib.hid (W3.out.below hb)
                    clear hb fX3 fX4 fX5 fX6
                    have fX2 := X4.out.get 2 _ rfl
                    have fX7 := X4.out.get 7 _ rfl
                    have fX8 := X4.out.get 8 _ rfl
                    have fX9 := X4.out.get 9 _ rfl
                    have fX10 := X4.out.get 10 _ rfl
                    have fX11 := X4.out.get 11 _ rfl
                    have fX12 := X4.out.get 12 _ rfl
                    have fX13 := X4.out.get 13 _ rfl
                    have fX14 := X4.out.get 14 _ rfl
                    have fX15 := X4.out.get 15 _ rfl
                    have fX24 := X4.out.get 24 _ rfl
                    go_wp2_with (fail)
                    refine (drightC r.c R4.out W4.out F).mono ?_
                    rintro e w5 ⟨rfl, hb⟩
                    have B5 := Lib.hid (below_on B4.out hb)
                    have X5 := Lib.hid (X4.out.on hb)
                    have R5 := Lib.hid (R4.out.below hb)
                    have W5 := Lib.hid (W4.out.below hb)
                    clear hb fX2 fX7 fX8 fX9 fX10 fX11 fX12 fX13 fX14 fX15 fX24
                    go_wp2
                    go_ret
                    exact ⟨ret_bool HE.out.symm, B5.out⟩
                · skip
                  have HE := Lib.hid (show M.drightR r = false by unfold M.drightR M.dtail M.zero7; simp [*])
                  clear e5
                  have E4 := Lib.hid e4
                  clear e4
                  go_enter Tryz.func21, Tryz.ntmps21
                  go_wp2_with (fail)
                  refine (refInst_any _ _ _).mono ?_
                  rintro e w1 ⟨rfl, hb⟩
                  have B1 := Lib.hid (below_on B0.out hb)
                  have X1 := Lib.hid (X0.out.on hb)
                  have R1 := Lib.hid (R0.out.below hb)
                  have W1 := Lib.hid (W0.out.below hb)
                  clear hb
                  have e4 := E4.out
                  have fX3 := X1.out.get 3 _ rfl
                  have fX4 := X1.out.get 4 _ rfl
                  go_wp2_with (fail)
                  refine (refBallot_any _ _ _).mono ?_
                  rintro e w2 ⟨rfl, hb⟩
                  have B2 := Lib.hid (below_on B1.out hb)
                  have X2 := Lib.hid (X1.out.on hb)
                  have R2 := Lib.hid (R1.out.below hb)
                  have W2 := Lib.hid (W1.out.below hb)
                  clear hb fX3 fX4
                  have fX5 := X2.out.get 5 _ rfl
                  have fX6 := X2.out.get 6 _ rfl
                  go_wp2_with (fail)
                  refine (refBallot_any _ _ _).mono ?_
                  rintro e w3 ⟨rfl, hb⟩
                  have B3 := Lib.hid (below_on B2.out hb)
                  have X3 := Lib.hid (X2.out.on hb)
                  have R3 := Lib.hid (R2.out.below hb)
                  have W3 := Lib.hid (W2.out.below hb)
                  clear hb fX5 fX6
                  have fX3 := X3.out.get 3 _ rfl
                  have fX4 := X3.out.get 4 _ rfl
                  have fX5 := X3.out.get 5 _ rfl
                  have fX6 := X3.out.get 6 _ rfl
                  go_wp2_with (fail)
                  refine (dlower_any _ _ _ _ _).mono ?_
                  rintro e w4 ⟨rfl, hb⟩
                  have B4 := Lib.hid (below_on B3.out hb)
                  have X4 := Lib.hid (X3.out.on hb)
                  have R4 := Lib.hid (R3.out.below hb)
                  have W4 := Lib.hid (W3.out.below hb)
                  clear hb fX3 fX4 fX5 fX6
                  have fX2 := X4.out.get 2 _ rfl
                  have fX24 := X4.out.get 24 _ rfl
                  go_wp2
                  go_ret
                  exact ⟨ret_bool HE.out.symm, B4.out⟩
              · skip
                have HE := Lib.hid (show M.drightR r = false by unfold M.drightR M.dtail M.zero7; simp [*])
                clear e5
                have E4 := Lib.hid e4
                clear e4
                go_enter Tryz.func21, Tryz.ntmps21
                go_wp2_with (fail)
                refine (refInst_any _ _ _).mono ?_
                rintro e w1 ⟨rfl, hb⟩
                have B1 := Lib.hid (below_on B0.out hb)
                have X1 := Lib.hid (X0.out.on hb)
                have R1 := Lib.hid (R0.out.below hb)
                have W1 := Lib.hid (W0.out.below hb)
                clear hb
                have e4 := E4.out
                have fX3 := X1.out.get 3 _ rfl
                have fX4 := X1.out.get 4 _ rfl
                go_wp2_with (fail)
                refine (refBallot_any _ _ _).mono ?_
                rintro e w2 ⟨rfl, hb⟩
                have B2 := Lib.hid (below_on B1.out hb)
                have X2 := Lib.hid (X1.out.on hb)
                have R2 := Lib.hid (R1.out.below hb)
                have W2 := Lib.hid (W1.out.below hb)
                clear hb fX3 fX4
                have fX5 := X2.out.get 5 _ rfl
                have fX6 := X2.out.get 6 _ rfl
                go_wp2_with (fail)
                refine (refBallot_any _ _ _).mono ?_
                rintro e w3 ⟨rfl, hb⟩
                have B3 := Lib.hid (below_on B2.out hb)
                have X3 := Lib.hid (X2.out.on hb)
                have R3 := Lib.hid (R2.out.below hb)
                have W3 := Lib.hid (W2.out.below hb)
                clear hb fX5 fX6
                have fX3 := X3.out.get 3 _ rfl
                have fX4 := X3.out.get 4 _ rfl
                have fX5 := X3.out.get 5 _ rfl
                have fX6 := X3.out.get 6 _ rfl
                go_wp2_with (fail)
                refine (dlower_any _ _ _ _ _).mono ?_
                rintro e w4 ⟨rfl, hb⟩
                have B4 := Lib.hid (below_on B3.out hb)
                have X4 := Lib.hid (X3.out.on hb)
                have R4 := Lib.hid (R3.out.below hb)
                have W4 := Lib.hid (W3.out.below hb)
                clear hb fX3 fX4 fX5 fX6
                have fX2 := X4.out.get 2 _ rfl
                have fX24 := X4.out.get 24 _ rfl
                go_wp2
                go_ret
                exact ⟨ret_bool HE.out.symm, B4.out⟩
      · skip
        have HE := Lib.hid (show M.drightR r = false by unfold M.drightR M.dtail M.zero7; simp [*])
        go_enter Tryz.func21, Tryz.ntmps21
        go_wp2_with (fail)
        refine (refInst_any _ _ _).mono ?_
        rintro e w1 ⟨rfl, hb⟩
        have B1 := Lib.hid (below_on B0.out hb)
        have X1 := Lib.hid (X0.out.on hb)
        have R1 := Lib.hid (R0.out.below hb)
        have W1 := Lib.hid (W0.out.below hb)
        clear hb
        have fX3 := X1.out.get 3 _ rfl
        have fX4 := X1.out.get 4 _ rfl
        go_wp2_with (fail)
        refine (refBallot_any _ _ _).mono ?_
        rintro e w2 ⟨rfl, hb⟩
        have B2 := Lib.hid (below_on B1.out hb)
        have X2 := Lib.hid (X1.out.on hb)
        have R2 := Lib.hid (R1.out.below hb)
        have W2 := Lib.hid (W1.out.below hb)
        clear hb fX3 fX4
        have fX5 := X2.out.get 5 _ rfl
        have fX6 := X2.out.get 6 _ rfl
        go_wp2_with (fail)
        refine (refBallot_any _ _ _).mono ?_
        rintro e w3 ⟨rfl, hb⟩
        have B3 := Lib.hid (below_on B2.out hb)
        have X3 := Lib.hid (X2.out.on hb)
        have R3 := Lib.hid (R2.out.below hb)
        have W3 := Lib.hid (W2.out.below hb)
        clear hb fX5 fX6
        go_wp2
        go_ret
        exact ⟨ret_bool HE.out.symm, B3.out⟩
    · skip
      have HE := Lib.hid (show M.drightR r = false by unfold M.drightR M.dtail M.zero7; simp [*])
      go_enter Tryz.func21, Tryz.ntmps21
      go_wp2_with (fail)
      refine (refInst_any _ _ _).mono ?_
      rintro e w1 ⟨rfl, hb⟩
      have B1 := Lib.hid (below_on B0.out hb)
      have X1 := Lib.hid (X0.out.on hb)
      have R1 := Lib.hid (R0.out.below hb)
      have W1 := Lib.hid (W0.out.below hb)
      clear hb
      have fX3 := X1.out.get 3 _ rfl
      have fX4 := X1.out.get 4 _ rfl
      go_wp2_with (fail)
      refine (refBallot_any _ _ _).mono ?_
      rintro e w2 ⟨rfl, hb⟩
      have B2 := Lib.hid (below_on B1.out hb)
      have X2 := Lib.hid (X1.out.on hb)
      have R2 := Lib.hid (R1.out.below hb)
      have W2 := Lib.hid (W1.out.below hb)
      clear hb fX3 fX4
      go_wp2
      go_ret
      exact ⟨ret_bool HE.out.symm, B2.out⟩
  · skip
    have HE := Lib.hid (show M.drightR r = false by unfold M.drightR M.dtail M.zero7; simp [*])
    go_enter Tryz.func21, Tryz.ntmps21
    go_wp2_with (fail)
    refine (refInst_any _ _ _).mono ?_
    rintro e w1 ⟨rfl, hb⟩
    have B1 := Lib.hid (below_on B0.out hb)
    have X1 := Lib.hid (X0.out.on hb)
    have R1 := Lib.hid (R0.out.below hb)
    have W1 := Lib.hid (W0.out.below hb)
    clear hb
    go_wp2
    go_ret
    exact ⟨ret_bool HE.out.symm, B1.out⟩

namespace M
theorem ord_anti {a b c d : Int} : decide (ord a b c d ≤ 0) = !decide (ord c d a b < 0) := by
  unfold ord
  by_cases h1 : a < c
  · have : ¬ c < a := by omega
    simp [h1, this]
  · by_cases h2 : c < a
    · simp [h1, h2]
    · by_cases h3 : b < d
      · have : ¬ d < b := by omega
        simp [h1, h2, h3, this]
      · by_cases h4 : d < b
        · simp [h1, h2, h3, h4]
        · simp [h1, h2, h3, h4]
end M
end Go.Proofs.YtpknkhgkejkpkaaGreat

namespace Go.Proofs.YtpknkhgkejkpkaaGreat
open Go.ChangeShapes Go.WideShapes Go.ChangeAt Go.RowKit
attribute [local go_sem ↓] run_same7 run_same_inst run_same_ballot
namespace M
def rightM (m : Msg) : Bool := decide (1 ≤ m.k) && (decide (m.k ≤ 8) && (within m.fr 0 6 && (within m.to 0 6 && (pairB m.bn m.br 0 1099511627776 0 6 && rightR m.r))))
def drightM (m : Msg) : Bool := decide (1 ≤ m.k) && (decide (m.k ≤ 8) && (decide (0 ≤ m.fr) && (decide (m.fr ≤ 6) && (decide (0 ≤ m.to) && (decide (m.to ≤ 6) && (pairB m.bn m.br 0 1099511627776 0 6 && drightR m.r))))))
theorem zero7_iff {r : Rec} : zero7 r = true ↔ r.d0 = 0 ∧ r.d1 = 0 ∧ r.d2 = 0 ∧ r.d3 = 0 ∧ r.d4 = 0 ∧ r.d5 = 0 ∧ r.d6 = 0 := by simp [zero7, V7.same7]
theorem eq2_iff {a b c d : Int} : eq2 a b c d = true ↔ a = c ∧ b = d := by simp [eq2]
theorem eq2_self (a b : Int) : eq2 a b a b = true := by simp [eq2]
theorem sameC_kind {a b : Cmd} (h : sameC a b = true) : a.k = b.k := by
  simp [sameC] at h; exact h.1
theorem right_zero {c : Cmd} (h : sameC c zero = true) : rightC c = true := by
  have : c.k = 0 := sameC_kind h
  unfold rightC; rw [if_pos this, h]
theorem right7_zero {r : Rec} (h : zero7 r = true) : V7.right (dep r) = true := by
  obtain ⟨h0, h1, h2, h3, h4, h5, h6⟩ := zero7_iff.1 h
  rw [V7.right_iff, V7.all7 (p := fun k => 0 ≤ dep r k ∧ dep r k ≤ 1048576)]
  simp only [dep]
  omega
theorem ord_zero {a b : Int} (h : pairB a b 0 1099511627776 0 6 = true) : ord 0 0 a b ≤ 0 := by
  have := pair_iff.1 h
  unfold ord
  by_cases h1 : 0 < a
  · simp [h1]
  · by_cases h3 : 0 < b
    · have : ¬ a < 0 := by omega
      simp [h1, h3, this]
    · have h4 : ¬ a < 0 := by omega
      have h5 : ¬ b < 0 := by omega
      simp [h1, h3, h4, h5]
/-- The document's and the program's are one. -/
theorem right_eq (r : Rec) : drightR r = rightR r := by
  unfold drightR rightR
  cases h1 : pairB r.ir r.is 0 6 1 1048576
  · rfl
  cases h2 : pairB r.pn r.pr 0 1099511627776 0 6
  · rfl
  cases h3 : pairB r.bn r.br 0 1099511627776 0 6
  · rfl
  rw [← ord_anti]
  simp only [Bool.true_and]
  by_cases h0 : r.st = 0
  · unfold dtail fitsS
    rw [if_pos h0, if_pos h0]
    have e1 : sameRec r (zeroRec r) = (eq2 r.bn r.br 0 0 && (sameC r.c zero && (decide (r.sq = 0) && (zero7 r && !r.kp)))) := by
      simp [sameRec, zeroRec, h0, eq2_self, zero7]
      rfl
    rw [e1]
    cases h4 : eq2 r.bn r.br 0 0
    · simp
    cases h5 : sameC r.c zero
    · simp
    cases h6 : decide (r.sq = 0)
    · simp
    cases h7 : zero7 r
    · simp
    rw [right_zero h5, right7_zero h7]
    obtain ⟨e2, e3⟩ := eq2_iff.1 h4
    rw [e2, e3]
    have := ord_zero h2
    cases h8 : r.kp
    · simp
    · simp [h0]
  · by_cases h4 : r.st = 1
    · unfold dtail fitsS seqB
      rw [if_neg h0, if_neg h0, if_pos h4]
      simp [h4]
      cases decide (ord r.bn r.br r.pn r.pr ≤ 0) <;> cases rightC r.c <;> cases V7.right (dep r) <;> cases decide (1 ≤ r.sq) <;> cases decide (r.sq ≤ 1099511627776) <;> rfl
    · by_cases h5 : r.st = 2 ∨ r.st = 3
      · unfold dtail fitsS seqB
        have g1 : 1 ≤ r.st := by omega
        have g2 : r.st ≤ 3 := by omega
        rw [if_neg h0, if_neg h0, if_neg h4, if_pos h5, decide_eq_true g1, decide_eq_true g2, decide_eq_false h4]
        cases decide (ord r.bn r.br r.pn r.pr ≤ 0) <;> cases rightC r.c <;> cases V7.right (dep r) <;> cases decide (1 ≤ r.sq) <;> cases decide (r.sq ≤ 1099511627776) <;> cases r.kp <;> rfl
      · unfold dtail fitsS
        rw [if_neg h0, if_neg h0, if_neg h4, if_neg h5]
        by_cases g1 : 1 ≤ r.st
        · have g2 : ¬ r.st ≤ 3 := by omega
          simp [g2]
        · simp [g1]
theorem rightM_eq (m : Msg) : drightM m = rightM m := by
  unfold drightM rightM within
  rw [right_eq]
  simp only [Bool.and_assoc]
end M

set_option maxHeartbeats 400000 in
theorem isReplicaW_any (k : Int) (w : World) : Calls Tryz.prog 90 #[.int .i64 k] w fun e w' => e = .returned (.bool (M.within k 0 6)) ∧ w = w' := by
  by_cases h1 : 0 ≤ k
  · by_cases h2 : k ≤ 6
    · rw [M.within_true h1 h2]
      have h3 : k < 7 := by omega
      go_enter Tryz.func90, Tryz.ntmps90
      go_wp2
      go_ret
      exact ⟨rfl, rfl⟩
    · rw [M.within_high h2]
      have h3 : ¬ k < 7 := by omega
      go_enter Tryz.func90, Tryz.ntmps90
      go_wp2
      go_ret
      exact ⟨rfl, rfl⟩
  · rw [M.within_low h1]
    go_enter Tryz.func90, Tryz.ntmps90
    go_wp2
    go_ret
    exact ⟨rfl, rfl⟩

set_option maxHeartbeats 8000000 in
set_option maxRecDepth 100000 in
theorem right_msg {w : World} (m : M.Msg) {va vb : Value} (h : Rds w va m.r.c.rs) (h' : Wrs w vb m.r.c.ws) (hl : m.r.c.rs.length ≤ 1000) (hl' : m.r.c.ws.length ≤ 1000) :
    Calls Tryz.prog 67 #[.agg #[.int .i64 m.k, .int .i64 m.fr, .int .i64 m.to, .int .i64 m.bn, .int .i64 m.br, .int .i64 m.r.ir, .int .i64 m.r.is, .int .i64 m.r.st, .int .i64 m.r.pn, .int .i64 m.r.pr, .int .i64 m.r.bn, .int .i64 m.r.br, .int .i64 m.r.c.k, .int .i64 m.r.c.tc, .int .i64 m.r.c.tn, .int .i64 m.r.c.tt, .int .i64 m.r.c.tk, .int .i64 m.r.c.sh, va, vb, .bool m.r.c.cm, .int .i64 m.r.sq, .int .i64 m.r.d0, .int .i64 m.r.d1, .int .i64 m.r.d2, .int .i64 m.r.d3, .int .i64 m.r.d4, .int .i64 m.r.d5, .int .i64 m.r.d6, .bool m.r.kp]] w fun e w' => e = .returned (.bool (M.rightM m)) ∧ Below w.heap.size w w' := by
  have X0 := Lib.hid (Cel.new w [.int .i64 m.k, .int .i64 m.fr, .int .i64 m.to, .int .i64 m.bn, .int .i64 m.br, .int .i64 m.r.ir, .int .i64 m.r.is, .int .i64 m.r.st, .int .i64 m.r.pn, .int .i64 m.r.pr, .int .i64 m.r.bn, .int .i64 m.r.br, .int .i64 m.r.c.k, .int .i64 m.r.c.tc, .int .i64 m.r.c.tn, .int .i64 m.r.c.tt, .int .i64 m.r.c.tk, .int .i64 m.r.c.sh, va, vb, .bool m.r.c.cm, .int .i64 m.r.sq, .int .i64 m.r.d0, .int .i64 m.r.d1, .int .i64 m.r.d2, .int .i64 m.r.d3, .int .i64 m.r.d4, .int .i64 m.r.d5, .int .i64 m.r.d6, .bool m.r.kp] 49)
  have R0 := Lib.hid (h.push (.cells #[.int .i64 m.k, .int .i64 m.fr, .int .i64 m.to, .int .i64 m.bn, .int .i64 m.br, .int .i64 m.r.ir, .int .i64 m.r.is, .int .i64 m.r.st, .int .i64 m.r.pn, .int .i64 m.r.pr, .int .i64 m.r.bn, .int .i64 m.r.br, .int .i64 m.r.c.k, .int .i64 m.r.c.tc, .int .i64 m.r.c.tn, .int .i64 m.r.c.tt, .int .i64 m.r.c.tk, .int .i64 m.r.c.sh, va, vb, .bool m.r.c.cm, .int .i64 m.r.sq, .int .i64 m.r.d0, .int .i64 m.r.d1, .int .i64 m.r.d2, .int .i64 m.r.d3, .int .i64 m.r.d4, .int .i64 m.r.d5, .int .i64 m.r.d6, .bool m.r.kp] 49))
  have W0 := Lib.hid (h'.push (.cells #[.int .i64 m.k, .int .i64 m.fr, .int .i64 m.to, .int .i64 m.bn, .int .i64 m.br, .int .i64 m.r.ir, .int .i64 m.r.is, .int .i64 m.r.st, .int .i64 m.r.pn, .int .i64 m.r.pr, .int .i64 m.r.bn, .int .i64 m.r.br, .int .i64 m.r.c.k, .int .i64 m.r.c.tc, .int .i64 m.r.c.tn, .int .i64 m.r.c.tt, .int .i64 m.r.c.tk, .int .i64 m.r.c.sh, va, vb, .bool m.r.c.cm, .int .i64 m.r.sq, .int .i64 m.r.d0, .int .i64 m.r.d1, .int .i64 m.r.d2, .int .i64 m.r.d3, .int .i64 m.r.d4, .int .i64 m.r.d5, .int .i64 m.r.d6, .bool m.r.kp] 49))
  have B0 := Lib.hid (below_new (o := .cells #[.int .i64 m.k, .int .i64 m.fr, .int .i64 m.to, .int .i64 m.bn, .int .i64 m.br, .int .i64 m.r.ir, .int .i64 m.r.is, .int .i64 m.r.st, .int .i64 m.r.pn, .int .i64 m.r.pr, .int .i64 m.r.bn, .int .i64 m.r.br, .int .i64 m.r.c.k, .int .i64 m.r.c.tc, .int .i64 m.r.c.tn, .int .i64 m.r.c.tt, .int .i64 m.r.c.tk, .int .i64 m.r.c.sh, va, vb, .bool m.r.c.cm, .int .i64 m.r.sq, .int .i64 m.r.d0, .int .i64 m.r.d1, .int .i64 m.r.d2, .int .i64 m.r.d3, .int .i64 m.r.d4, .int .i64 m.r.d5, .int .i64 m.r.d6, .bool m.r.kp] 49) (Below.refl w.heap.size w))
  clear h h'
  by_cases e0 : 1 ≤ m.k
  · skip
    by_cases e1 : m.k ≤ 8
    · skip
      rcases two (M.within m.fr 0 6) with e2 | e2
      · skip
        rcases two (M.within m.to 0 6) with e3 | e3
        · skip
          rcases two (M.pairB m.bn m.br 0 1099511627776 0 6) with e4 | e4
          · skip
            have HE := Lib.hid (show M.rightM m = M.rightR m.r by unfold M.rightM; simp [*])
            go_enter Tryz.func67, Tryz.ntmps67
            go_wp2_with (fail)
            refine (isReplicaW_any _ _).mono ?_
            rintro e _ ⟨rfl, rfl⟩
            go_wp2_with (fail)
            refine (isReplicaW_any _ _).mono ?_
            rintro e _ ⟨rfl, rfl⟩
            go_wp2_with (fail)
            refine (rightBallot_any _ _ _).mono ?_
            rintro e w1 ⟨rfl, hb⟩
            have B1 := Lib.hid (below_on B0.out hb)
            have X1 := Lib.hid (X0.out.on hb)
            have R1 := Lib.hid (R0.out.below hb)
            have W1 := Lib.hid (W0.out.below hb)
            clear hb
            go_wp2_with ((with_reducible refine wpList_load_mid_g ?_ 41 _ rfl w.heap.size 5 rfl _ _ (X1.out.range (pre := [.int .i64 m.k, .int .i64 m.fr, .int .i64 m.to, .int .i64 m.bn, .int .i64 m.br]) (L := [.int .i64 m.r.ir, .int .i64 m.r.is, .int .i64 m.r.st, .int .i64 m.r.pn, .int .i64 m.r.pr, .int .i64 m.r.bn, .int .i64 m.r.br, .int .i64 m.r.c.k, .int .i64 m.r.c.tc, .int .i64 m.r.c.tn, .int .i64 m.r.c.tt, .int .i64 m.r.c.tk, .int .i64 m.r.c.sh, va, vb, .bool m.r.c.cm, .int .i64 m.r.sq, .int .i64 m.r.d0, .int .i64 m.r.d1, .int .i64 m.r.d2, .int .i64 m.r.d3, .int .i64 m.r.d4, .int .i64 m.r.d5, .int .i64 m.r.d6, .bool m.r.kp]) (o := 5) rfl) Tryz.underlying41 rfl (by kernel_rfl) ?_); rfl)
            refine (right_rec m.r R1.out W1.out hl hl').mono ?_
            rintro e w2 ⟨rfl, hb⟩
            have B2 := Lib.hid (below_on B1.out hb)
            have X2 := Lib.hid (X1.out.on hb)
            have R2 := Lib.hid (R1.out.below hb)
            have W2 := Lib.hid (W1.out.below hb)
            clear hb
            go_wp2
            go_ret
            exact ⟨ret_bool HE.out.symm, B2.out⟩
          · skip
            have HE := Lib.hid (show M.rightM m = false by unfold M.rightM; simp [*])
            go_enter Tryz.func67, Tryz.ntmps67
            go_wp2_with (fail)
            refine (isReplicaW_any _ _).mono ?_
            rintro e _ ⟨rfl, rfl⟩
            go_wp2_with (fail)
            refine (isReplicaW_any _ _).mono ?_
            rintro e _ ⟨rfl, rfl⟩
            go_wp2_with (fail)
            refine (rightBallot_any _ _ _).mono ?_
            rintro e w1 ⟨rfl, hb⟩
            have B1 := Lib.hid (below_on B0.out hb)
            have X1 := Lib.hid (X0.out.on hb)
            have R1 := Lib.hid (R0.out.below hb)
            have W1 := Lib.hid (W0.out.below hb)
            clear hb
            go_wp2
            go_ret
            exact ⟨ret_bool HE.out.symm, B1.out⟩
        · skip
          have HE := Lib.hid (show M.rightM m = false by unfold M.rightM; simp [*])
          go_enter Tryz.func67, Tryz.ntmps67
          go_wp2_with (fail)
          refine (isReplicaW_any _ _).mono ?_
          rintro e _ ⟨rfl, rfl⟩
          go_wp2_with (fail)
          refine (isReplicaW_any _ _).mono ?_
          rintro e _ ⟨rfl, rfl⟩
          go_wp2
          go_ret
          exact ⟨ret_bool HE.out.symm, B0.out⟩
      · skip
        have HE := Lib.hid (show M.rightM m = false by unfold M.rightM; simp [*])
        go_enter Tryz.func67, Tryz.ntmps67
        go_wp2_with (fail)
        refine (isReplicaW_any _ _).mono ?_
        rintro e _ ⟨rfl, rfl⟩
        go_wp2
        go_ret
        exact ⟨ret_bool HE.out.symm, B0.out⟩
    · skip
      have HE := Lib.hid (show M.rightM m = false by unfold M.rightM; simp [*])
      go_enter Tryz.func67, Tryz.ntmps67
      go_wp2
      go_ret
      exact ⟨ret_bool HE.out.symm, B0.out⟩
  · skip
    have HE := Lib.hid (show M.rightM m = false by unfold M.rightM; simp [*])
    go_enter Tryz.func67, Tryz.ntmps67
    go_wp2
    go_ret
    exact ⟨ret_bool HE.out.symm, B0.out⟩

set_option maxHeartbeats 8000000 in
set_option maxRecDepth 100000 in
theorem dright_msg {w : World} (m : M.Msg) {va vb : Value} (h : Rds w va m.r.c.rs) (h' : Wrs w vb m.r.c.ws) (F : M.Mod m.r.c) :
    Calls Tryz.prog 22 #[.agg #[.int .i64 m.k, .int .i64 m.fr, .int .i64 m.to, .int .i64 m.bn, .int .i64 m.br, .int .i64 m.r.ir, .int .i64 m.r.is, .int .i64 m.r.st, .int .i64 m.r.pn, .int .i64 m.r.pr, .int .i64 m.r.bn, .int .i64 m.r.br, .int .i64 m.r.c.k, .int .i64 m.r.c.tc, .int .i64 m.r.c.tn, .int .i64 m.r.c.tt, .int .i64 m.r.c.tk, .int .i64 m.r.c.sh, va, vb, .bool m.r.c.cm, .int .i64 m.r.sq, .int .i64 m.r.d0, .int .i64 m.r.d1, .int .i64 m.r.d2, .int .i64 m.r.d3, .int .i64 m.r.d4, .int .i64 m.r.d5, .int .i64 m.r.d6, .bool m.r.kp]] w fun e w' => e = .returned (.bool (M.drightM m)) ∧ Below w.heap.size w w' := by
  have X0 := Lib.hid (Cel.new w [.int .i64 m.k, .int .i64 m.fr, .int .i64 m.to, .int .i64 m.bn, .int .i64 m.br, .int .i64 m.r.ir, .int .i64 m.r.is, .int .i64 m.r.st, .int .i64 m.r.pn, .int .i64 m.r.pr, .int .i64 m.r.bn, .int .i64 m.r.br, .int .i64 m.r.c.k, .int .i64 m.r.c.tc, .int .i64 m.r.c.tn, .int .i64 m.r.c.tt, .int .i64 m.r.c.tk, .int .i64 m.r.c.sh, va, vb, .bool m.r.c.cm, .int .i64 m.r.sq, .int .i64 m.r.d0, .int .i64 m.r.d1, .int .i64 m.r.d2, .int .i64 m.r.d3, .int .i64 m.r.d4, .int .i64 m.r.d5, .int .i64 m.r.d6, .bool m.r.kp] 49)
  have R0 := Lib.hid (h.push (.cells #[.int .i64 m.k, .int .i64 m.fr, .int .i64 m.to, .int .i64 m.bn, .int .i64 m.br, .int .i64 m.r.ir, .int .i64 m.r.is, .int .i64 m.r.st, .int .i64 m.r.pn, .int .i64 m.r.pr, .int .i64 m.r.bn, .int .i64 m.r.br, .int .i64 m.r.c.k, .int .i64 m.r.c.tc, .int .i64 m.r.c.tn, .int .i64 m.r.c.tt, .int .i64 m.r.c.tk, .int .i64 m.r.c.sh, va, vb, .bool m.r.c.cm, .int .i64 m.r.sq, .int .i64 m.r.d0, .int .i64 m.r.d1, .int .i64 m.r.d2, .int .i64 m.r.d3, .int .i64 m.r.d4, .int .i64 m.r.d5, .int .i64 m.r.d6, .bool m.r.kp] 49))
  have W0 := Lib.hid (h'.push (.cells #[.int .i64 m.k, .int .i64 m.fr, .int .i64 m.to, .int .i64 m.bn, .int .i64 m.br, .int .i64 m.r.ir, .int .i64 m.r.is, .int .i64 m.r.st, .int .i64 m.r.pn, .int .i64 m.r.pr, .int .i64 m.r.bn, .int .i64 m.r.br, .int .i64 m.r.c.k, .int .i64 m.r.c.tc, .int .i64 m.r.c.tn, .int .i64 m.r.c.tt, .int .i64 m.r.c.tk, .int .i64 m.r.c.sh, va, vb, .bool m.r.c.cm, .int .i64 m.r.sq, .int .i64 m.r.d0, .int .i64 m.r.d1, .int .i64 m.r.d2, .int .i64 m.r.d3, .int .i64 m.r.d4, .int .i64 m.r.d5, .int .i64 m.r.d6, .bool m.r.kp] 49))
  have B0 := Lib.hid (below_new (o := .cells #[.int .i64 m.k, .int .i64 m.fr, .int .i64 m.to, .int .i64 m.bn, .int .i64 m.br, .int .i64 m.r.ir, .int .i64 m.r.is, .int .i64 m.r.st, .int .i64 m.r.pn, .int .i64 m.r.pr, .int .i64 m.r.bn, .int .i64 m.r.br, .int .i64 m.r.c.k, .int .i64 m.r.c.tc, .int .i64 m.r.c.tn, .int .i64 m.r.c.tt, .int .i64 m.r.c.tk, .int .i64 m.r.c.sh, va, vb, .bool m.r.c.cm, .int .i64 m.r.sq, .int .i64 m.r.d0, .int .i64 m.r.d1, .int .i64 m.r.d2, .int .i64 m.r.d3, .int .i64 m.r.d4, .int .i64 m.r.d5, .int .i64 m.r.d6, .bool m.r.kp] 49) (Below.refl w.heap.size w))
  clear h h'
  by_cases e0 : 1 ≤ m.k
  · skip
    by_cases e1 : m.k ≤ 8
    · skip
      by_cases e2 : 0 ≤ m.fr
      · skip
        by_cases e3 : m.fr ≤ 6
        · skip
          by_cases e4 : 0 ≤ m.to
          · skip
            by_cases e5 : m.to ≤ 6
            · skip
              rcases two (M.pairB m.bn m.br 0 1099511627776 0 6) with e6 | e6
              · skip
                have HE := Lib.hid (show M.drightM m = M.drightR m.r by unfold M.drightM; simp [*])
                go_enter Tryz.func22, Tryz.ntmps22
                go_wp2_with (fail)
                refine (refBallot_any _ _ _).mono ?_
                rintro e w1 ⟨rfl, hb⟩
                have B1 := Lib.hid (below_on B0.out hb)
                have X1 := Lib.hid (X0.out.on hb)
                have R1 := Lib.hid (R0.out.below hb)
                have W1 := Lib.hid (W0.out.below hb)
                clear hb
                go_wp2_with ((with_reducible refine wpList_load_mid_g ?_ 41 _ rfl w.heap.size 5 rfl _ _ (X1.out.range (pre := [.int .i64 m.k, .int .i64 m.fr, .int .i64 m.to, .int .i64 m.bn, .int .i64 m.br]) (L := [.int .i64 m.r.ir, .int .i64 m.r.is, .int .i64 m.r.st, .int .i64 m.r.pn, .int .i64 m.r.pr, .int .i64 m.r.bn, .int .i64 m.r.br, .int .i64 m.r.c.k, .int .i64 m.r.c.tc, .int .i64 m.r.c.tn, .int .i64 m.r.c.tt, .int .i64 m.r.c.tk, .int .i64 m.r.c.sh, va, vb, .bool m.r.c.cm, .int .i64 m.r.sq, .int .i64 m.r.d0, .int .i64 m.r.d1, .int .i64 m.r.d2, .int .i64 m.r.d3, .int .i64 m.r.d4, .int .i64 m.r.d5, .int .i64 m.r.d6, .bool m.r.kp]) (o := 5) rfl) Tryz.underlying41 rfl (by kernel_rfl) ?_); rfl)
                refine (dright_rec m.r R1.out W1.out F).mono ?_
                rintro e w2 ⟨rfl, hb⟩
                have B2 := Lib.hid (below_on B1.out hb)
                have X2 := Lib.hid (X1.out.on hb)
                have R2 := Lib.hid (R1.out.below hb)
                have W2 := Lib.hid (W1.out.below hb)
                clear hb
                go_wp2
                go_ret
                exact ⟨ret_bool HE.out.symm, B2.out⟩
              · skip
                have HE := Lib.hid (show M.drightM m = false by unfold M.drightM; simp [*])
                go_enter Tryz.func22, Tryz.ntmps22
                go_wp2_with (fail)
                refine (refBallot_any _ _ _).mono ?_
                rintro e w1 ⟨rfl, hb⟩
                have B1 := Lib.hid (below_on B0.out hb)
                have X1 := Lib.hid (X0.out.on hb)
                have R1 := Lib.hid (R0.out.below hb)
                have W1 := Lib.hid (W0.out.below hb)
                clear hb
                go_wp2
                go_ret
                exact ⟨ret_bool HE.out.symm, B1.out⟩
            · skip
              have HE := Lib.hid (show M.drightM m = false by unfold M.drightM; simp [*])
              go_enter Tryz.func22, Tryz.ntmps22
              go_wp2
              go_ret
              exact ⟨ret_bool HE.out.symm, B0.out⟩
          · skip
            have HE := Lib.hid (show M.drightM m = false by unfold M.drightM; simp [*])
            go_enter Tryz.func22, Tryz.ntmps22
            go_wp2
            go_ret
            exact ⟨ret_bool HE.out.symm, B0.out⟩
        · skip
          have HE := Lib.hid (show M.drightM m = false by unfold M.drightM; simp [*])
          go_enter Tryz.func22, Tryz.ntmps22
          go_wp2
          go_ret
          exact ⟨ret_bool HE.out.symm, B0.out⟩
      · skip
        have HE := Lib.hid (show M.drightM m = false by unfold M.drightM; simp [*])
        go_enter Tryz.func22, Tryz.ntmps22
        go_wp2
        go_ret
        exact ⟨ret_bool HE.out.symm, B0.out⟩
    · skip
      have HE := Lib.hid (show M.drightM m = false by unfold M.drightM; simp [*])
      go_enter Tryz.func22, Tryz.ntmps22
      go_wp2
      go_ret
      exact ⟨ret_bool HE.out.symm, B0.out⟩
  · skip
    have HE := Lib.hid (show M.drightM m = false by unfold M.drightM; simp [*])
    go_enter Tryz.func22, Tryz.ntmps22
    go_wp2
    go_ret
    exact ⟨ret_bool HE.out.symm, B0.out⟩

set_option maxHeartbeats 8000000 in
set_option maxRecDepth 100000 in
theorem dsame_msg {w : World} (a b : M.Msg) {va vb ua ub : Value} (h : Rds w va a.r.c.rs) (h' : Wrs w vb a.r.c.ws) (g : Rds w ua b.r.c.rs) (g' : Wrs w ub b.r.c.ws) (hl : a.r.c.rs.length ≤ 1000) (hl' : a.r.c.ws.length ≤ 1000) :
    Calls Tryz.prog 23 #[.agg #[.int .i64 a.k, .int .i64 a.fr, .int .i64 a.to, .int .i64 a.bn, .int .i64 a.br, .int .i64 a.r.ir, .int .i64 a.r.is, .int .i64 a.r.st, .int .i64 a.r.pn, .int .i64 a.r.pr, .int .i64 a.r.bn, .int .i64 a.r.br, .int .i64 a.r.c.k, .int .i64 a.r.c.tc, .int .i64 a.r.c.tn, .int .i64 a.r.c.tt, .int .i64 a.r.c.tk, .int .i64 a.r.c.sh, va, vb, .bool a.r.c.cm, .int .i64 a.r.sq, .int .i64 a.r.d0, .int .i64 a.r.d1, .int .i64 a.r.d2, .int .i64 a.r.d3, .int .i64 a.r.d4, .int .i64 a.r.d5, .int .i64 a.r.d6, .bool a.r.kp], .agg #[.int .i64 b.k, .int .i64 b.fr, .int .i64 b.to, .int .i64 b.bn, .int .i64 b.br, .int .i64 b.r.ir, .int .i64 b.r.is, .int .i64 b.r.st, .int .i64 b.r.pn, .int .i64 b.r.pr, .int .i64 b.r.bn, .int .i64 b.r.br, .int .i64 b.r.c.k, .int .i64 b.r.c.tc, .int .i64 b.r.c.tn, .int .i64 b.r.c.tt, .int .i64 b.r.c.tk, .int .i64 b.r.c.sh, ua, ub, .bool b.r.c.cm, .int .i64 b.r.sq, .int .i64 b.r.d0, .int .i64 b.r.d1, .int .i64 b.r.d2, .int .i64 b.r.d3, .int .i64 b.r.d4, .int .i64 b.r.d5, .int .i64 b.r.d6, .bool b.r.kp]] w fun e w' => e = .returned (.bool (M.sameMsg a b)) ∧ Below w.heap.size w w' := by
  have X0 := Lib.hid ((Cel.new w [.int .i64 a.k, .int .i64 a.fr, .int .i64 a.to, .int .i64 a.bn, .int .i64 a.br, .int .i64 a.r.ir, .int .i64 a.r.is, .int .i64 a.r.st, .int .i64 a.r.pn, .int .i64 a.r.pr, .int .i64 a.r.bn, .int .i64 a.r.br, .int .i64 a.r.c.k, .int .i64 a.r.c.tc, .int .i64 a.r.c.tn, .int .i64 a.r.c.tt, .int .i64 a.r.c.tk, .int .i64 a.r.c.sh, va, vb, .bool a.r.c.cm, .int .i64 a.r.sq, .int .i64 a.r.d0, .int .i64 a.r.d1, .int .i64 a.r.d2, .int .i64 a.r.d3, .int .i64 a.r.d4, .int .i64 a.r.d5, .int .i64 a.r.d6, .bool a.r.kp] 49).push (.cells #[.int .i64 b.k, .int .i64 b.fr, .int .i64 b.to, .int .i64 b.bn, .int .i64 b.br, .int .i64 b.r.ir, .int .i64 b.r.is, .int .i64 b.r.st, .int .i64 b.r.pn, .int .i64 b.r.pr, .int .i64 b.r.bn, .int .i64 b.r.br, .int .i64 b.r.c.k, .int .i64 b.r.c.tc, .int .i64 b.r.c.tn, .int .i64 b.r.c.tt, .int .i64 b.r.c.tk, .int .i64 b.r.c.sh, ua, ub, .bool b.r.c.cm, .int .i64 b.r.sq, .int .i64 b.r.d0, .int .i64 b.r.d1, .int .i64 b.r.d2, .int .i64 b.r.d3, .int .i64 b.r.d4, .int .i64 b.r.d5, .int .i64 b.r.d6, .bool b.r.kp] 49))
  have Y0 := Lib.hid (Cel.new1 w (.cells #[.int .i64 a.k, .int .i64 a.fr, .int .i64 a.to, .int .i64 a.bn, .int .i64 a.br, .int .i64 a.r.ir, .int .i64 a.r.is, .int .i64 a.r.st, .int .i64 a.r.pn, .int .i64 a.r.pr, .int .i64 a.r.bn, .int .i64 a.r.br, .int .i64 a.r.c.k, .int .i64 a.r.c.tc, .int .i64 a.r.c.tn, .int .i64 a.r.c.tt, .int .i64 a.r.c.tk, .int .i64 a.r.c.sh, va, vb, .bool a.r.c.cm, .int .i64 a.r.sq, .int .i64 a.r.d0, .int .i64 a.r.d1, .int .i64 a.r.d2, .int .i64 a.r.d3, .int .i64 a.r.d4, .int .i64 a.r.d5, .int .i64 a.r.d6, .bool a.r.kp] 49) [.int .i64 b.k, .int .i64 b.fr, .int .i64 b.to, .int .i64 b.bn, .int .i64 b.br, .int .i64 b.r.ir, .int .i64 b.r.is, .int .i64 b.r.st, .int .i64 b.r.pn, .int .i64 b.r.pr, .int .i64 b.r.bn, .int .i64 b.r.br, .int .i64 b.r.c.k, .int .i64 b.r.c.tc, .int .i64 b.r.c.tn, .int .i64 b.r.c.tt, .int .i64 b.r.c.tk, .int .i64 b.r.c.sh, ua, ub, .bool b.r.c.cm, .int .i64 b.r.sq, .int .i64 b.r.d0, .int .i64 b.r.d1, .int .i64 b.r.d2, .int .i64 b.r.d3, .int .i64 b.r.d4, .int .i64 b.r.d5, .int .i64 b.r.d6, .bool b.r.kp] 49)
  have R0 := Lib.hid ((h.push (.cells #[.int .i64 a.k, .int .i64 a.fr, .int .i64 a.to, .int .i64 a.bn, .int .i64 a.br, .int .i64 a.r.ir, .int .i64 a.r.is, .int .i64 a.r.st, .int .i64 a.r.pn, .int .i64 a.r.pr, .int .i64 a.r.bn, .int .i64 a.r.br, .int .i64 a.r.c.k, .int .i64 a.r.c.tc, .int .i64 a.r.c.tn, .int .i64 a.r.c.tt, .int .i64 a.r.c.tk, .int .i64 a.r.c.sh, va, vb, .bool a.r.c.cm, .int .i64 a.r.sq, .int .i64 a.r.d0, .int .i64 a.r.d1, .int .i64 a.r.d2, .int .i64 a.r.d3, .int .i64 a.r.d4, .int .i64 a.r.d5, .int .i64 a.r.d6, .bool a.r.kp] 49)).push (.cells #[.int .i64 b.k, .int .i64 b.fr, .int .i64 b.to, .int .i64 b.bn, .int .i64 b.br, .int .i64 b.r.ir, .int .i64 b.r.is, .int .i64 b.r.st, .int .i64 b.r.pn, .int .i64 b.r.pr, .int .i64 b.r.bn, .int .i64 b.r.br, .int .i64 b.r.c.k, .int .i64 b.r.c.tc, .int .i64 b.r.c.tn, .int .i64 b.r.c.tt, .int .i64 b.r.c.tk, .int .i64 b.r.c.sh, ua, ub, .bool b.r.c.cm, .int .i64 b.r.sq, .int .i64 b.r.d0, .int .i64 b.r.d1, .int .i64 b.r.d2, .int .i64 b.r.d3, .int .i64 b.r.d4, .int .i64 b.r.d5, .int .i64 b.r.d6, .bool b.r.kp] 49))
  have W0 := Lib.hid ((h'.push (.cells #[.int .i64 a.k, .int .i64 a.fr, .int .i64 a.to, .int .i64 a.bn, .int .i64 a.br, .int .i64 a.r.ir, .int .i64 a.r.is, .int .i64 a.r.st, .int .i64 a.r.pn, .int .i64 a.r.pr, .int .i64 a.r.bn, .int .i64 a.r.br, .int .i64 a.r.c.k, .int .i64 a.r.c.tc, .int .i64 a.r.c.tn, .int .i64 a.r.c.tt, .int .i64 a.r.c.tk, .int .i64 a.r.c.sh, va, vb, .bool a.r.c.cm, .int .i64 a.r.sq, .int .i64 a.r.d0, .int .i64 a.r.d1, .int .i64 a.r.d2, .int .i64 a.r.d3, .int .i64 a.r.d4, .int .i64 a.r.d5, .int .i64 a.r.d6, .bool a.r.kp] 49)).push (.cells #[.int .i64 b.k, .int .i64 b.fr, .int .i64 b.to, .int .i64 b.bn, .int .i64 b.br, .int .i64 b.r.ir, .int .i64 b.r.is, .int .i64 b.r.st, .int .i64 b.r.pn, .int .i64 b.r.pr, .int .i64 b.r.bn, .int .i64 b.r.br, .int .i64 b.r.c.k, .int .i64 b.r.c.tc, .int .i64 b.r.c.tn, .int .i64 b.r.c.tt, .int .i64 b.r.c.tk, .int .i64 b.r.c.sh, ua, ub, .bool b.r.c.cm, .int .i64 b.r.sq, .int .i64 b.r.d0, .int .i64 b.r.d1, .int .i64 b.r.d2, .int .i64 b.r.d3, .int .i64 b.r.d4, .int .i64 b.r.d5, .int .i64 b.r.d6, .bool b.r.kp] 49))
  have S0 := Lib.hid ((g.push (.cells #[.int .i64 a.k, .int .i64 a.fr, .int .i64 a.to, .int .i64 a.bn, .int .i64 a.br, .int .i64 a.r.ir, .int .i64 a.r.is, .int .i64 a.r.st, .int .i64 a.r.pn, .int .i64 a.r.pr, .int .i64 a.r.bn, .int .i64 a.r.br, .int .i64 a.r.c.k, .int .i64 a.r.c.tc, .int .i64 a.r.c.tn, .int .i64 a.r.c.tt, .int .i64 a.r.c.tk, .int .i64 a.r.c.sh, va, vb, .bool a.r.c.cm, .int .i64 a.r.sq, .int .i64 a.r.d0, .int .i64 a.r.d1, .int .i64 a.r.d2, .int .i64 a.r.d3, .int .i64 a.r.d4, .int .i64 a.r.d5, .int .i64 a.r.d6, .bool a.r.kp] 49)).push (.cells #[.int .i64 b.k, .int .i64 b.fr, .int .i64 b.to, .int .i64 b.bn, .int .i64 b.br, .int .i64 b.r.ir, .int .i64 b.r.is, .int .i64 b.r.st, .int .i64 b.r.pn, .int .i64 b.r.pr, .int .i64 b.r.bn, .int .i64 b.r.br, .int .i64 b.r.c.k, .int .i64 b.r.c.tc, .int .i64 b.r.c.tn, .int .i64 b.r.c.tt, .int .i64 b.r.c.tk, .int .i64 b.r.c.sh, ua, ub, .bool b.r.c.cm, .int .i64 b.r.sq, .int .i64 b.r.d0, .int .i64 b.r.d1, .int .i64 b.r.d2, .int .i64 b.r.d3, .int .i64 b.r.d4, .int .i64 b.r.d5, .int .i64 b.r.d6, .bool b.r.kp] 49))
  have V0 := Lib.hid ((g'.push (.cells #[.int .i64 a.k, .int .i64 a.fr, .int .i64 a.to, .int .i64 a.bn, .int .i64 a.br, .int .i64 a.r.ir, .int .i64 a.r.is, .int .i64 a.r.st, .int .i64 a.r.pn, .int .i64 a.r.pr, .int .i64 a.r.bn, .int .i64 a.r.br, .int .i64 a.r.c.k, .int .i64 a.r.c.tc, .int .i64 a.r.c.tn, .int .i64 a.r.c.tt, .int .i64 a.r.c.tk, .int .i64 a.r.c.sh, va, vb, .bool a.r.c.cm, .int .i64 a.r.sq, .int .i64 a.r.d0, .int .i64 a.r.d1, .int .i64 a.r.d2, .int .i64 a.r.d3, .int .i64 a.r.d4, .int .i64 a.r.d5, .int .i64 a.r.d6, .bool a.r.kp] 49)).push (.cells #[.int .i64 b.k, .int .i64 b.fr, .int .i64 b.to, .int .i64 b.bn, .int .i64 b.br, .int .i64 b.r.ir, .int .i64 b.r.is, .int .i64 b.r.st, .int .i64 b.r.pn, .int .i64 b.r.pr, .int .i64 b.r.bn, .int .i64 b.r.br, .int .i64 b.r.c.k, .int .i64 b.r.c.tc, .int .i64 b.r.c.tn, .int .i64 b.r.c.tt, .int .i64 b.r.c.tk, .int .i64 b.r.c.sh, ua, ub, .bool b.r.c.cm, .int .i64 b.r.sq, .int .i64 b.r.d0, .int .i64 b.r.d1, .int .i64 b.r.d2, .int .i64 b.r.d3, .int .i64 b.r.d4, .int .i64 b.r.d5, .int .i64 b.r.d6, .bool b.r.kp] 49))
  have B0 := Lib.hid (below_new (o := .cells #[.int .i64 b.k, .int .i64 b.fr, .int .i64 b.to, .int .i64 b.bn, .int .i64 b.br, .int .i64 b.r.ir, .int .i64 b.r.is, .int .i64 b.r.st, .int .i64 b.r.pn, .int .i64 b.r.pr, .int .i64 b.r.bn, .int .i64 b.r.br, .int .i64 b.r.c.k, .int .i64 b.r.c.tc, .int .i64 b.r.c.tn, .int .i64 b.r.c.tt, .int .i64 b.r.c.tk, .int .i64 b.r.c.sh, ua, ub, .bool b.r.c.cm, .int .i64 b.r.sq, .int .i64 b.r.d0, .int .i64 b.r.d1, .int .i64 b.r.d2, .int .i64 b.r.d3, .int .i64 b.r.d4, .int .i64 b.r.d5, .int .i64 b.r.d6, .bool b.r.kp] 49) (below_new (o := .cells #[.int .i64 a.k, .int .i64 a.fr, .int .i64 a.to, .int .i64 a.bn, .int .i64 a.br, .int .i64 a.r.ir, .int .i64 a.r.is, .int .i64 a.r.st, .int .i64 a.r.pn, .int .i64 a.r.pr, .int .i64 a.r.bn, .int .i64 a.r.br, .int .i64 a.r.c.k, .int .i64 a.r.c.tc, .int .i64 a.r.c.tn, .int .i64 a.r.c.tt, .int .i64 a.r.c.tk, .int .i64 a.r.c.sh, va, vb, .bool a.r.c.cm, .int .i64 a.r.sq, .int .i64 a.r.d0, .int .i64 a.r.d1, .int .i64 a.r.d2, .int .i64 a.r.d3, .int .i64 a.r.d4, .int .i64 a.r.d5, .int .i64 a.r.d6, .bool a.r.kp] 49) (Below.refl w.heap.size w)))
  clear h h' g g'
  by_cases e0 : a.k = b.k
  · obtain ⟨q0a, q0b⟩ := eqI e0
    by_cases e1 : a.fr = b.fr
    · obtain ⟨q1a, q1b⟩ := eqI e1
      by_cases e2 : a.to = b.to
      · obtain ⟨q2a, q2b⟩ := eqI e2
        rcases two (M.eq2 a.bn a.br b.bn b.br) with e3 | e3
        · skip
          have HE := Lib.hid (show M.sameMsg a b = M.sameRec a.r b.r by unfold M.sameMsg; simp [*])
          clear e0 e1 e2
          go_enter Tryz.func23, Tryz.ntmps23
          go_wp2_with (first | ((with_reducible refine wpList_load_mid_g ?_ 41 _ rfl w.heap.size 5 rfl _ _ (X0.out.range (pre := [.int .i64 a.k, .int .i64 a.fr, .int .i64 a.to, .int .i64 a.bn, .int .i64 a.br]) (L := [.int .i64 a.r.ir, .int .i64 a.r.is, .int .i64 a.r.st, .int .i64 a.r.pn, .int .i64 a.r.pr, .int .i64 a.r.bn, .int .i64 a.r.br, .int .i64 a.r.c.k, .int .i64 a.r.c.tc, .int .i64 a.r.c.tn, .int .i64 a.r.c.tt, .int .i64 a.r.c.tk, .int .i64 a.r.c.sh, va, vb, .bool a.r.c.cm, .int .i64 a.r.sq, .int .i64 a.r.d0, .int .i64 a.r.d1, .int .i64 a.r.d2, .int .i64 a.r.d3, .int .i64 a.r.d4, .int .i64 a.r.d5, .int .i64 a.r.d6, .bool a.r.kp]) (o := 5) rfl) Tryz.underlying41 rfl (by kernel_rfl) ?_); rfl) | ((with_reducible refine wpList_load_mid_g ?_ 41 _ rfl (w.heap.size + 1) 5 rfl _ _ (Y0.out.range (pre := [.int .i64 b.k, .int .i64 b.fr, .int .i64 b.to, .int .i64 b.bn, .int .i64 b.br]) (L := [.int .i64 b.r.ir, .int .i64 b.r.is, .int .i64 b.r.st, .int .i64 b.r.pn, .int .i64 b.r.pr, .int .i64 b.r.bn, .int .i64 b.r.br, .int .i64 b.r.c.k, .int .i64 b.r.c.tc, .int .i64 b.r.c.tn, .int .i64 b.r.c.tt, .int .i64 b.r.c.tk, .int .i64 b.r.c.sh, ua, ub, .bool b.r.c.cm, .int .i64 b.r.sq, .int .i64 b.r.d0, .int .i64 b.r.d1, .int .i64 b.r.d2, .int .i64 b.r.d3, .int .i64 b.r.d4, .int .i64 b.r.d5, .int .i64 b.r.d6, .bool b.r.kp]) (o := 5) rfl) Tryz.underlying41 rfl (by kernel_rfl) ?_); rfl))
          refine (dsame_rec a.r b.r R0.out W0.out S0.out V0.out hl hl').mono ?_
          rintro e w1 ⟨rfl, hb⟩
          have B1 := Lib.hid (below_on B0.out hb)
          have X1 := Lib.hid (X0.out.on hb)
          have Y1 := Lib.hid (Y0.out.on hb)
          have R1 := Lib.hid (R0.out.below hb)
          have W1 := Lib.hid (W0.out.below hb)
          have S1 := Lib.hid (S0.out.below hb)
          have V1 := Lib.hid (V0.out.below hb)
          clear hb
          go_wp2
          go_ret
          exact ⟨ret_bool HE.out.symm, B1.out⟩
        · skip
          have HE := Lib.hid (show M.sameMsg a b = false by unfold M.sameMsg; simp [*])
          clear e0 e1 e2
          go_enter Tryz.func23, Tryz.ntmps23
          go_wp2
          go_ret
          exact ⟨ret_bool HE.out.symm, B0.out⟩
      · obtain ⟨q2a, q2b⟩ := neI e2
        have HE := Lib.hid (show M.sameMsg a b = false by unfold M.sameMsg; simp [*])
        clear e0 e1 e2
        go_enter Tryz.func23, Tryz.ntmps23
        go_wp2
        go_ret
        exact ⟨ret_bool HE.out.symm, B0.out⟩
    · obtain ⟨q1a, q1b⟩ := neI e1
      have HE := Lib.hid (show M.sameMsg a b = false by unfold M.sameMsg; simp [*])
      clear e0 e1
      go_enter Tryz.func23, Tryz.ntmps23
      go_wp2
      go_ret
      exact ⟨ret_bool HE.out.symm, B0.out⟩
  · obtain ⟨q0a, q0b⟩ := neI e0
    have HE := Lib.hid (show M.sameMsg a b = false by unfold M.sameMsg; simp [*])
    clear e0
    go_enter Tryz.func23, Tryz.ntmps23
    go_wp2
    go_ret
    exact ⟨ret_bool HE.out.symm, B0.out⟩
end Go.Proofs.YtpknkhgkejkpkaaGreat
