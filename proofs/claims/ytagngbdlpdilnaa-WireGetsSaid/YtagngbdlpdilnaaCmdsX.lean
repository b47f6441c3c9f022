/- Contract of the document's Right; no conditions but the lengths that it names. -/
import Derived.Test.YtagngbdlpdilnaaCmdsV
namespace Go.Proofs.Ytagngbdlpdilnaa
open Go.ChangeShapes Go.WideShapes Go.ChangeAt Go.RowKit
attribute [local go_sem ↓] run_same_rd run_same_wr run_same_txn run_same_stamp

set_option maxHeartbeats 8000000 in
set_option maxRecDepth 100000 in
theorem dright_one {w : World} (c : M.Cmd) {va vb : Value} (h : Rds w va c.rs) (h' : Wrs w vb c.ws) (F : M.Mod c) (hk : c.k = 1) (hcm : c.cm = false) : Calls Try.prog 19 #[.agg #[.int .i64 c.k, .int .i64 c.tc, .int .i64 c.tn, .int .i64 c.tt, .int .i64 c.tk, .int .i64 c.sh, va, vb, .bool c.cm]] w fun e w' => e = .returned (.bool (M.rightC c)) ∧ Below w.heap.size w w' := by
  obtain ⟨i0, hi, hz0, hz1, hz2⟩ := info_parts info9
  have hl := F.r
  have hl' := F.w
  have X0 := Lib.hid (Box.new w c va vb)
  have R0 := Lib.hid (h.push (.cells #[.int .i64 c.k, .int .i64 c.tc, .int .i64 c.tn, .int .i64 c.tt, .int .i64 c.tk, .int .i64 c.sh, va, vb, .bool c.cm] 33))
  have W0 := Lib.hid (h'.push (.cells #[.int .i64 c.k, .int .i64 c.tc, .int .i64 c.tn, .int .i64 c.tt, .int .i64 c.tk, .int .i64 c.sh, va, vb, .bool c.cm] 33))
  have B0 := Lib.hid (below_new (o := .cells #[.int .i64 c.k, .int .i64 c.tc, .int .i64 c.tn, .int .i64 c.tt, .int .i64 c.tk, .int .i64 c.sh, va, vb, .bool c.cm] 33) (Below.refl w.heap.size w))
  have HR := Lib.hid (show M.rightC c = M.transB c by unfold M.rightC; rw [if_neg (by omega), if_pos hk, hcm]; simp)
  obtain ⟨A1, c1, rfl, g1, -⟩ := h.opened
  obtain ⟨A2, c2, rfl, g2, -⟩ := h'.opened
  clear h h'
  obtain ⟨q0, q0'⟩ := neI (show ¬ c.k = 0 by omega)
  obtain ⟨q1, q1'⟩ := eqI hk
  obtain ⟨q2, q2'⟩ := neI (show ¬ c.k = 2 by omega)
  rw [hcm] at X0 R0 W0 B0
  clear hk
  rcases two (M.pairB c.tc c.tn 0 3 1 1099511627776) with e0 | e0
  · rcases two (M.pairB c.tt c.tk 0 1099511627776 0 3) with e1 | e1
    · by_cases e2 : 1 ≤ c.tt
      · by_cases e3 : c.tk = c.tc
        · obtain ⟨q3a, q3b⟩ := eqI e3
          by_cases e4 : 1 ≤ c.sh
          · by_cases e5 : c.sh ≤ 15
            · rcases two (M.emptyB c.rs.length c.ws.length) with e6 | e6
              · have HE := Lib.hid (show M.transB c = false by unfold M.transB; rw [e0, e1, decide_eq_true e2, decide_eq_true e3, decide_eq_true e4, decide_eq_true e5, e6]; rfl)
                clear e3
                have t0 : ¬ c.tt = 0 := by have := M.pair_iff.1 e1; omega
                obtain ⟨t1, t2⟩ := neI t0
                clear t0
                have t3 : c.rs.length = 0 ∧ c.ws.length = 0 := by unfold M.emptyB at e6; simpa using e6
                obtain ⟨t4, t5⟩ := zz t3.1
                obtain ⟨t6, t7⟩ := zz t3.2
                clear t3
                go_enter Try.func19, Try.ntmps19
                go_wp2_with (fail)
                refine (refTxn_any _ _ _).mono ?_
                rintro e w1 ⟨rfl, hb⟩
                have B1 := Lib.hid (below_on B0.out hb)
                have X1 := Lib.hid (X0.out.on hb)
                have R1 := Lib.hid (R0.out.below hb)
                have W1 := Lib.hid (W0.out.below hb)
                clear hb B0 X0 R0 W0
                obtain ⟨l1, p10, p11, p12, p13, p14, p15, p16, p17, p18⟩ := X1.out
                go_wp2_with (fail)
                refine (refStamp_any _ _ _).mono ?_
                rintro e w2 ⟨rfl, hb⟩
                have B2 := Lib.hid (below_on B1.out hb)
                have X2 := Lib.hid (X1.out.on hb)
                have R2 := Lib.hid (R1.out.below hb)
                have W2 := Lib.hid (W1.out.below hb)
                clear hb B1 X1 R1 W1
                clear l1 p10 p11 p12 p13 p14 p15 p16 p17 p18
                obtain ⟨l2, p20, p21, p22, p23, p24, p25, p26, p27, p28⟩ := X2.out
                go_wp2
                go_ret
                exact ⟨ret_bool (HE.out.symm.trans HR.out.symm), B2.out⟩
              · have HE := Lib.hid (show M.transB c = (M.areR c.rs c.tt c.tk && M.areW c.ws) by unfold M.transB; rw [e0, e1, decide_eq_true e2, decide_eq_true e3, decide_eq_true e4, decide_eq_true e5, e6]; rfl)
                clear e3
                have t0 : ¬ c.tt = 0 := by have := M.pair_iff.1 e1; omega
                obtain ⟨t1, t2⟩ := neI t0
                clear t0
                by_cases t3 : c.rs.length = 0
                · have t8 : ¬ c.ws.length = 0 := fun h => by unfold M.emptyB at e6; simp [t3, h] at e6
                  obtain ⟨t4, t5⟩ := zz t3
                  obtain ⟨t6, t7⟩ := nz t8
                  clear t3 t8
                  go_enter Try.func19, Try.ntmps19
                  go_wp2_with (fail)
                  refine (refTxn_any _ _ _).mono ?_
                  rintro e w1 ⟨rfl, hb⟩
                  have B1 := Lib.hid (below_on B0.out hb)
                  have X1 := Lib.hid (X0.out.on hb)
                  have R1 := Lib.hid (R0.out.below hb)
                  have W1 := Lib.hid (W0.out.below hb)
                  clear hb B0 X0 R0 W0
                  obtain ⟨l1, p10, p11, p12, p13, p14, p15, p16, p17, p18⟩ := X1.out
                  go_wp2_with (fail)
                  refine (refStamp_any _ _ _).mono ?_
                  rintro e w2 ⟨rfl, hb⟩
                  have B2 := Lib.hid (below_on B1.out hb)
                  have X2 := Lib.hid (X1.out.on hb)
                  have R2 := Lib.hid (R1.out.below hb)
                  have W2 := Lib.hid (W1.out.below hb)
                  clear hb B1 X1 R1 W1
                  clear l1 p10 p11 p12 p13 p14 p15 p16 p17 p18
                  obtain ⟨l2, p20, p21, p22, p23, p24, p25, p26, p27, p28⟩ := X2.out
                  go_wp2
                  clear l2 p20 p21 p22 p23 p24 p25 p26 p27 p28
                  have HF := Lib.hid (show M.areR c.rs c.tt c.tk = false → false = M.rightC c from fun h => by rw [HR.out, HE.out, h]; rfl)
                  have HG := Lib.hid (show M.areW c.ws = false → false = M.rightC c from fun h => by rw [HR.out, HE.out, h]; simp)
                  go_loopw [3, 4] (fun x i wr => ∃ k : Nat, k ≤ c.rs.length ∧ i = .int .i64 k ∧ wr.ownsRow w2.heap.size 9 1 x k ((M.rk (c.rs.take k)).map encStr) ∧ Below w2.heap.size w2 wr ∧ (c.rs.take k).all (M.oldAt c.tt c.tk) = true) (fun _ i _ => c.rs.length - (intOf i).toNat)
                  case atStart => exact ⟨0, Nat.zero_le _, rfl, World.ownsRow_nil _ _ _ _, Below.refl _ _, rfl⟩
                  case round =>
                    obtain ⟨k, hk, rfl, hrow, hbw, hall⟩ := hrel
                    have hbz := hbw.size
                    have HA := Lib.hid hall
                    have HB := Lib.hid hbw
                    have HO := Lib.hid hrow
                    clear hall hrow
                    obtain ⟨l0, p0, p1, p2, p3, p4, p5, p6, p7, p8⟩ := X2.out.on hbw
                    by_cases hlt : k < c.rs.length
                    · obtain ⟨A1x, c1x, ea, -, hx⟩ := R2.out.opened
                      simp only [Value.slice.injEq, true_and] at ea
                      obtain ⟨rfl, rfl⟩ := ea
                      obtain ⟨b, o, rfl, hb, hy⟩ := hx (by omega)
                      have Z0 := Lib.hid ((hy k hlt).below hbw hb)
                      have HN := Lib.hid (M.rk_take hlt)
                      have HQ := Lib.hid (show M.oldAt c.tt c.tk (c.rs.getD k rd0) = M.oldB (c.rs.getD k rd0).2.1 (c.rs.getD k rd0).2.2 c.tt c.tk from rfl)
                      clear hy hx hbw
                      obtain ⟨z1, z2, z3⟩ := Z0.out
                      generalize (c.rs.getD k rd0).1 = x at *
                      generalize (c.rs.getD k rd0).2.1 = t at *
                      generalize (c.rs.getD k rd0).2.2 = u at *
                      have hbr : b < wr.heap.size := by omega
                      have hi1 : (k : Int) < (c.rs.length : Int) := by omega
                      rcases two (M.pairB t u 0 1099511627776 0 3) with d0 | d0
                      · rcases two (decide (M.ord t u c.tt c.tk < 0)) with d1 | d1
                        · go_wp2
                          refine wp_region_after (by kernel_rfl) (by kernel_rfl) ?_
                          have hx := @After.cell wr
                          repeat (first
                            | (go_big_quiet_step (first
                                | (go_at_call 47; exact Calls.after_of (refStamp_any _ _ _))
                                | (go_at_call 48; exact Calls.after_of (dbefore_any _ _ _ _ _))))
                            | rw [d0] | rw [d1])
                          refine wpQuiet_nil ?_
                          rintro w3 ⟨⟨_, hb3⟩, rfl⟩
                          have B3 := Lib.hid (below_on HB.out hb3)
                          have O3 := Lib.hid (ownsRow_on HO.out hb3)
                          have Z3 := Lib.hid (Z0.out.below hb3 hbr)
                          have X3 := Lib.hid (X2.out.on B3.out)
                          have hbz3 : w2.heap.size ≤ w3.heap.size := B3.out.size
                          clear hb3 l0 p0 p1 p2 p3 p4 p5 p6 p7 p8 z1 z2 z3
                          obtain ⟨z1, z2, z3⟩ := Z3.out
                          obtain ⟨l0, p0, p1, p2, p3, p4, p5, p6, p7, p8⟩ := X3.out
                          go_wp2_with (at_builtin; refine wpList_append_own _ rfl _ _ 87 rfl w2.heap.size 9 i0 (.string ⟨#[]⟩) 1 16 Try.underlying87 hi hz0 hz1 hz2 rfl (by decide) _ _ _ rfl (O3.out.alloc _) ⟨w3.heap.size, 0, none⟩ 1 1 [.string ⟨x.toArray⟩] rfl rfl (cell_one_new _ _ _) (one_str [x]) (by unfold maxLen; omega) (by omega) (by simp; omega) ?_; intro v' w4 hown3 hgrow3 hnil3)
                          have O4 := Lib.hid hown3
                          have B4 := Lib.hid ((B3.out.alloc (by omega) _).grown hgrow3 (by simp; omega) (fun i hi => (O3.out.lt i hi).1))
                          clear hown3 hgrow3 hnil3
                          go_wp2
                          go_roundw
                          case rel => exact ⟨k + 1, by omega, by go_num, by rw [HN.out]; simpa using O4.out, B4.out, M.all_step hlt HA.out (HQ.out.trans ((M.old_yes d0).trans d1))⟩
                          case measure => simp [intOf]; omega
                        · go_wp2
                          refine wp_region_after (by kernel_rfl) (by kernel_rfl) ?_
                          have hx := @After.cell wr
                          repeat (first
                            | (go_big_quiet_step (first
                                | (go_at_call 47; exact Calls.after_of (refStamp_any _ _ _))
                                | (go_at_call 48; exact Calls.after_of (dbefore_any _ _ _ _ _))))
                            | rw [d0] | rw [d1])
                          refine wpQuiet_nil ?_
                          rintro w3 ⟨⟨_, hb3⟩, rfl⟩
                          have B3 := Lib.hid (below_on HB.out hb3)
                          go_wp2
                          go_ret
                          exact ⟨ret_bool (HF.out (M.areR_no hlt (HQ.out.trans ((M.old_yes d0).trans d1))).symm), below_on B2.out B3.out⟩
                      · go_wp2
                        refine wp_region_after (by kernel_rfl) (by kernel_rfl) ?_
                        have hx := @After.cell wr
                        repeat (first
                          | (go_big_quiet_step (first
                              | (go_at_call 47; exact Calls.after_of (refStamp_any _ _ _))
                              | (go_at_call 48; exact Calls.after_of (dbefore_any _ _ _ _ _))))
                          | rw [d0])
                        refine wpQuiet_nil ?_
                        rintro w3 ⟨⟨_, hb3⟩, rfl⟩
                        have B3 := Lib.hid (below_on HB.out hb3)
                        go_wp2
                        go_ret
                        exact ⟨ret_bool (HF.out (M.areR_no hlt (HQ.out.trans (M.old_no d0))).symm), below_on B2.out B3.out⟩
                    · obtain rfl : k = c.rs.length := by omega
                      have HX := Lib.hid (M.areR_end hlt HA.out)
                      have O3 := Lib.hid (show Words wr _ (M.rk c.rs) from Made.words (by rw [M.rk_len]; have := HO.out; rwa [List.take_length] at this))
                      have X3 := Lib.hid (X2.out.on hbw)
                      have W3 := Lib.hid (W2.out.below hbw)
                      have B3 := Lib.hid (below_on B2.out hbw)
                      clear HO HA HB hbw hk hlt X2 R2 W2 B2
                      go_wp2
                      clear l0 p0 p1 p2 p3 p4 p5 p6 p7 p8 hbz
                      obtain ⟨w4, hw4⟩ : ∃ w4 : World, w4 = wr := ⟨_, rfl⟩
                      subst hw4
                      go_loopw [5, 6] (fun x i wr => ∃ k : Nat, k ≤ c.ws.length ∧ i = .int .i64 k ∧ wr.ownsRow w4.heap.size 9 1 x k ((M.wk (c.ws.take k)).map encStr) ∧ Below w4.heap.size w4 wr ∧ (c.ws.take k).all M.shortAt = true) (fun _ i _ => c.ws.length - (intOf i).toNat)
                      case atStart => exact ⟨0, Nat.zero_le _, rfl, World.ownsRow_nil _ _ _ _, Below.refl _ _, rfl⟩
                      case round =>
                        obtain ⟨k, hk, rfl, hrow, hbw, hall⟩ := hrel
                        have hbz := hbw.size
                        have HA := Lib.hid hall
                        have HB := Lib.hid hbw
                        have HO := Lib.hid hrow
                        clear hall hrow
                        obtain ⟨l0, p0, p1, p2, p3, p4, p5, p6, p7, p8⟩ := X3.out.on hbw
                        by_cases hlt : k < c.ws.length
                        · obtain ⟨A1x, c1x, ea, -, hx⟩ := W3.out.opened
                          simp only [Value.slice.injEq, true_and] at ea
                          obtain ⟨rfl, rfl⟩ := ea
                          obtain ⟨b, o, rfl, hb, hy⟩ := hx (by omega)
                          obtain ⟨z1, z2⟩ := (hy k hlt).below hbw hb
                          have HN := Lib.hid (M.wk_take hlt)
                          have HQ := Lib.hid (show M.shortAt (c.ws.getD k wr0) = decide ((c.ws.getD k wr0).2.length ≤ 8) from rfl)
                          clear hy hx hbw
                          generalize (c.ws.getD k wr0).1 = x at *
                          generalize (c.ws.getD k wr0).2 = t at *
                          obtain ⟨s, hs⟩ : ∃ s : ByteArray, s = ⟨t.toArray⟩ := ⟨_, rfl⟩
                          rw [← hs] at z2
                          have HZ := Lib.hid (show s.size = t.length by rw [hs, size_mk])
                          clear hs
                          have hi1 : (k : Int) < (c.ws.length : Int) := by omega
                          by_cases hbig : 8 < s.size
                          · go_wp2
                            go_ret
                            exact ⟨ret_bool (HG.out (M.areW_no hlt (HQ.out.trans (by have := HZ.out; simp; omega))).symm), below_on B3.out HB.out⟩
                          · go_wp2_with (at_builtin; refine wpList_append_own _ rfl _ _ 87 rfl w4.heap.size 9 i0 (.string ⟨#[]⟩) 1 16 Try.underlying87 hi hz0 hz1 hz2 rfl (by decide) _ _ _ rfl (HO.out.alloc _) ⟨wr.heap.size, 0, none⟩ 1 1 [.string ⟨x.toArray⟩] rfl rfl (cell_one_new _ _ _) (one_str [x]) (by unfold maxLen; omega) (by omega) (by simp; omega) ?_; intro v' w5 hown3 hgrow3 hnil3)
                            have O4 := Lib.hid hown3
                            have B4 := Lib.hid ((HB.out.alloc (by omega) _).grown hgrow3 (by simp; omega) (fun i hi => (HO.out.lt i hi).1))
                            clear hown3 hgrow3 hnil3
                            go_wp2
                            go_roundw
                            case rel => exact ⟨k + 1, by omega, by go_num, by rw [HN.out]; simpa using O4.out, B4.out, M.all_step hlt HA.out (HQ.out.trans (by have := HZ.out; simp; omega))⟩
                            case measure => simp [intOf]; omega
                        · obtain rfl : k = c.ws.length := by omega
                          have HY := Lib.hid (M.areW_end hlt HA.out)
                          have O4 := Lib.hid (show Words wr _ (M.wk c.ws) from Made.words (by rw [M.wk_len]; have := HO.out; rwa [List.take_length] at this))
                          have O5 := Lib.hid (O3.out.below hbw)
                          have B4 := Lib.hid (below_on B3.out hbw)
                          have HL := Lib.hid (show (M.rk c.rs).length ≤ 1000 by rw [M.rk_len]; omega)
                          have HL' := Lib.hid (show (M.wk c.ws).length ≤ 1000 by rw [M.wk_len]; omega)
                          clear HO HA HB hbw hk hlt O3
                          rcases two (M.rightsB (M.rk c.rs)) with d0 | d0
                          · go_wp2_with (fail)
                            refine (drights_any O5.out HL.out F.rks).mono ?_
                            rintro e w6 ⟨rfl, hb⟩
                            have O6 := Lib.hid (O4.out.below hb)
                            have B6 := Lib.hid (below_on B4.out hb)
                            clear hb
                            go_wp2_with (fail)
                            refine (drights_any O6.out HL'.out F.wks).mono ?_
                            rintro e w7 ⟨rfl, hb⟩
                            have B7 := Lib.hid (below_on B6.out hb)
                            clear hb
                            go_wp2
                            go_ret
                            exact ⟨ret_bool (by rw [HR.out, HE.out, ← HX.out, ← HY.out, d0]; rfl), B7.out⟩
                          · go_wp2_with (fail)
                            refine (drights_any O5.out HL.out F.rks).mono ?_
                            rintro e w6 ⟨rfl, hb⟩
                            have B6 := Lib.hid (below_on B4.out hb)
                            clear hb
                            go_wp2
                            go_ret
                            exact ⟨ret_bool (by rw [HR.out, HE.out, ← HX.out, d0]; rfl), B6.out⟩
                · obtain ⟨t4, t5⟩ := nz t3
                  clear t3
                  go_enter Try.func19, Try.ntmps19
                  go_wp2_with (fail)
                  refine (refTxn_any _ _ _).mono ?_
                  rintro e w1 ⟨rfl, hb⟩
                  have B1 := Lib.hid (below_on B0.out hb)
                  have X1 := Lib.hid (X0.out.on hb)
                  have R1 := Lib.hid (R0.out.below hb)
                  have W1 := Lib.hid (W0.out.below hb)
                  clear hb B0 X0 R0 W0
                  obtain ⟨l1, p10, p11, p12, p13, p14, p15, p16, p17, p18⟩ := X1.out
                  go_wp2_with (fail)
                  refine (refStamp_any _ _ _).mono ?_
                  rintro e w2 ⟨rfl, hb⟩
                  have B2 := Lib.hid (below_on B1.out hb)
                  have X2 := Lib.hid (X1.out.on hb)
                  have R2 := Lib.hid (R1.out.below hb)
                  have W2 := Lib.hid (W1.out.below hb)
                  clear hb B1 X1 R1 W1
                  clear l1 p10 p11 p12 p13 p14 p15 p16 p17 p18
                  obtain ⟨l2, p20, p21, p22, p23, p24, p25, p26, p27, p28⟩ := X2.out
                  go_wp2
                  clear l2 p20 p21 p22 p23 p24 p25 p26 p27 p28
                  have HF := Lib.hid (show M.areR c.rs c.tt c.tk = false → false = M.rightC c from fun h => by rw [HR.out, HE.out, h]; rfl)
                  have HG := Lib.hid (show M.areW c.ws = false → false = M.rightC c from fun h => by rw [HR.out, HE.out, h]; simp)
                  go_loopw [3, 4] (fun x i wr => ∃ k : Nat, k ≤ c.rs.length ∧ i = .int .i64 k ∧ wr.ownsRow w2.heap.size 9 1 x k ((M.rk (c.rs.take k)).map encStr) ∧ Below w2.heap.size w2 wr ∧ (c.rs.take k).all (M.oldAt c.tt c.tk) = true) (fun _ i _ => c.rs.length - (intOf i).toNat)
                  case atStart => exact ⟨0, Nat.zero_le _, rfl, World.ownsRow_nil _ _ _ _, Below.refl _ _, rfl⟩
                  case round =>
                    obtain ⟨k, hk, rfl, hrow, hbw, hall⟩ := hrel
                    have hbz := hbw.size
                    have HA := Lib.hid hall
                    have HB := Lib.hid hbw
                    have HO := Lib.hid hrow
                    clear hall hrow
                    obtain ⟨l0, p0, p1, p2, p3, p4, p5, p6, p7, p8⟩ := X2.out.on hbw
                    by_cases hlt : k < c.rs.length
                    · obtain ⟨A1x, c1x, ea, -, hx⟩ := R2.out.opened
                      simp only [Value.slice.injEq, true_and] at ea
                      obtain ⟨rfl, rfl⟩ := ea
                      obtain ⟨b, o, rfl, hb, hy⟩ := hx (by omega)
                      have Z0 := Lib.hid ((hy k hlt).below hbw hb)
                      have HN := Lib.hid (M.rk_take hlt)
                      have HQ := Lib.hid (show M.oldAt c.tt c.tk (c.rs.getD k rd0) = M.oldB (c.rs.getD k rd0).2.1 (c.rs.getD k rd0).2.2 c.tt c.tk from rfl)
                      clear hy hx hbw
                      obtain ⟨z1, z2, z3⟩ := Z0.out
                      generalize (c.rs.getD k rd0).1 = x at *
                      generalize (c.rs.getD k rd0).2.1 = t at *
                      generalize (c.rs.getD k rd0).2.2 = u at *
                      have hbr : b < wr.heap.size := by omega
                      have hi1 : (k : Int) < (c.rs.length : Int) := by omega
                      rcases two (M.pairB t u 0 1099511627776 0 3) with d0 | d0
                      · rcases two (decide (M.ord t u c.tt c.tk < 0)) with d1 | d1
                        · go_wp2
                          refine wp_region_after (by kernel_rfl) (by kernel_rfl) ?_
                          have hx := @After.cell wr
                          repeat (first
                            | (go_big_quiet_step (first
                                | (go_at_call 47; exact Calls.after_of (refStamp_any _ _ _))
                                | (go_at_call 48; exact Calls.after_of (dbefore_any _ _ _ _ _))))
                            | rw [d0] | rw [d1])
                          refine wpQuiet_nil ?_
                          rintro w3 ⟨⟨_, hb3⟩, rfl⟩
                          have B3 := Lib.hid (below_on HB.out hb3)
                          have O3 := Lib.hid (ownsRow_on HO.out hb3)
                          have Z3 := Lib.hid (Z0.out.below hb3 hbr)
                          have X3 := Lib.hid (X2.out.on B3.out)
                          have hbz3 : w2.heap.size ≤ w3.heap.size := B3.out.size
                          clear hb3 l0 p0 p1 p2 p3 p4 p5 p6 p7 p8 z1 z2 z3
                          obtain ⟨z1, z2, z3⟩ := Z3.out
                          obtain ⟨l0, p0, p1, p2, p3, p4, p5, p6, p7, p8⟩ := X3.out
                          go_wp2_with (at_builtin; refine wpList_append_own _ rfl _ _ 87 rfl w2.heap.size 9 i0 (.string ⟨#[]⟩) 1 16 Try.underlying87 hi hz0 hz1 hz2 rfl (by decide) _ _ _ rfl (O3.out.alloc _) ⟨w3.heap.size, 0, none⟩ 1 1 [.string ⟨x.toArray⟩] rfl rfl (cell_one_new _ _ _) (one_str [x]) (by unfold maxLen; omega) (by omega) (by simp; omega) ?_; intro v' w4 hown3 hgrow3 hnil3)
                          have O4 := Lib.hid hown3
                          have B4 := Lib.hid ((B3.out.alloc (by omega) _).grown hgrow3 (by simp; omega) (fun i hi => (O3.out.lt i hi).1))
                          clear hown3 hgrow3 hnil3
                          go_wp2
                          go_roundw
                          case rel => exact ⟨k + 1, by omega, by go_num, by rw [HN.out]; simpa using O4.out, B4.out, M.all_step hlt HA.out (HQ.out.trans ((M.old_yes d0).trans d1))⟩
                          case measure => simp [intOf]; omega
                        · go_wp2
                          refine wp_region_after (by kernel_rfl) (by kernel_rfl) ?_
                          have hx := @After.cell wr
                          repeat (first
                            | (go_big_quiet_step (first
                                | (go_at_call 47; exact Calls.after_of (refStamp_any _ _ _))
                                | (go_at_call 48; exact Calls.after_of (dbefore_any _ _ _ _ _))))
                            | rw [d0] | rw [d1])
                          refine wpQuiet_nil ?_
                          rintro w3 ⟨⟨_, hb3⟩, rfl⟩
                          have B3 := Lib.hid (below_on HB.out hb3)
                          go_wp2
                          go_ret
                          exact ⟨ret_bool (HF.out (M.areR_no hlt (HQ.out.trans ((M.old_yes d0).trans d1))).symm), below_on B2.out B3.out⟩
                      · go_wp2
                        refine wp_region_after (by kernel_rfl) (by kernel_rfl) ?_
                        have hx := @After.cell wr
                        repeat (first
                          | (go_big_quiet_step (first
                              | (go_at_call 47; exact Calls.after_of (refStamp_any _ _ _))
                              | (go_at_call 48; exact Calls.after_of (dbefore_any _ _ _ _ _))))
                          | rw [d0])
                        refine wpQuiet_nil ?_
                        rintro w3 ⟨⟨_, hb3⟩, rfl⟩
                        have B3 := Lib.hid (below_on HB.out hb3)
                        go_wp2
                        go_ret
                        exact ⟨ret_bool (HF.out (M.areR_no hlt (HQ.out.trans (M.old_no d0))).symm), below_on B2.out B3.out⟩
                    · obtain rfl : k = c.rs.length := by omega
                      have HX := Lib.hid (M.areR_end hlt HA.out)
                      have O3 := Lib.hid (show Words wr _ (M.rk c.rs) from Made.words (by rw [M.rk_len]; have := HO.out; rwa [List.take_length] at this))
                      have X3 := Lib.hid (X2.out.on hbw)
                      have W3 := Lib.hid (W2.out.below hbw)
                      have B3 := Lib.hid (below_on B2.out hbw)
                      clear HO HA HB hbw hk hlt X2 R2 W2 B2
                      go_wp2
                      clear l0 p0 p1 p2 p3 p4 p5 p6 p7 p8 hbz
                      obtain ⟨w4, hw4⟩ : ∃ w4 : World, w4 = wr := ⟨_, rfl⟩
                      subst hw4
                      go_loopw [5, 6] (fun x i wr => ∃ k : Nat, k ≤ c.ws.length ∧ i = .int .i64 k ∧ wr.ownsRow w4.heap.size 9 1 x k ((M.wk (c.ws.take k)).map encStr) ∧ Below w4.heap.size w4 wr ∧ (c.ws.take k).all M.shortAt = true) (fun _ i _ => c.ws.length - (intOf i).toNat)
                      case atStart => exact ⟨0, Nat.zero_le _, rfl, World.ownsRow_nil _ _ _ _, Below.refl _ _, rfl⟩
                      case round =>
                        obtain ⟨k, hk, rfl, hrow, hbw, hall⟩ := hrel
                        have hbz := hbw.size
                        have HA := Lib.hid hall
                        have HB := Lib.hid hbw
                        have HO := Lib.hid hrow
                        clear hall hrow
                        obtain ⟨l0, p0, p1, p2, p3, p4, p5, p6, p7, p8⟩ := X3.out.on hbw
                        by_cases hlt : k < c.ws.length
                        · obtain ⟨A1x, c1x, ea, -, hx⟩ := W3.out.opened
                          simp only [Value.slice.injEq, true_and] at ea
                          obtain ⟨rfl, rfl⟩ := ea
                          obtain ⟨b, o, rfl, hb, hy⟩ := hx (by omega)
                          obtain ⟨z1, z2⟩ := (hy k hlt).below hbw hb
                          have HN := Lib.hid (M.wk_take hlt)
                          have HQ := Lib.hid (show M.shortAt (c.ws.getD k wr0) = decide ((c.ws.getD k wr0).2.length ≤ 8) from rfl)
                          clear hy hx hbw
                          generalize (c.ws.getD k wr0).1 = x at *
                          generalize (c.ws.getD k wr0).2 = t at *
                          obtain ⟨s, hs⟩ : ∃ s : ByteArray, s = ⟨t.toArray⟩ := ⟨_, rfl⟩
                          rw [← hs] at z2
                          have HZ := Lib.hid (show s.size = t.length by rw [hs, size_mk])
                          clear hs
                          have hi1 : (k : Int) < (c.ws.length : Int) := by omega
                          by_cases hbig : 8 < s.size
                          · go_wp2
                            go_ret
                            exact ⟨ret_bool (HG.out (M.areW_no hlt (HQ.out.trans (by have := HZ.out; simp; omega))).symm), below_on B3.out HB.out⟩
                          · go_wp2_with (at_builtin; refine wpList_append_own _ rfl _ _ 87 rfl w4.heap.size 9 i0 (.string ⟨#[]⟩) 1 16 Try.underlying87 hi hz0 hz1 hz2 rfl (by decide) _ _ _ rfl (HO.out.alloc _) ⟨wr.heap.size, 0, none⟩ 1 1 [.string ⟨x.toArray⟩] rfl rfl (cell_one_new _ _ _) (one_str [x]) (by unfold maxLen; omega) (by omega) (by simp; omega) ?_; intro v' w5 hown3 hgrow3 hnil3)
                            have O4 := Lib.hid hown3
                            have B4 := Lib.hid ((HB.out.alloc (by omega) _).grown hgrow3 (by simp; omega) (fun i hi => (HO.out.lt i hi).1))
                            clear hown3 hgrow3 hnil3
                            go_wp2
                            go_roundw
                            case rel => exact ⟨k + 1, by omega, by go_num, by rw [HN.out]; simpa using O4.out, B4.out, M.all_step hlt HA.out (HQ.out.trans (by have := HZ.out; simp; omega))⟩
                            case measure => simp [intOf]; omega
                        · obtain rfl : k = c.ws.length := by omega
                          have HY := Lib.hid (M.areW_end hlt HA.out)
                          have O4 := Lib.hid (show Words wr _ (M.wk c.ws) from Made.words (by rw [M.wk_len]; have := HO.out; rwa [List.take_length] at this))
                          have O5 := Lib.hid (O3.out.below hbw)
                          have B4 := Lib.hid (below_on B3.out hbw)
                          have HL := Lib.hid (show (M.rk c.rs).length ≤ 1000 by rw [M.rk_len]; omega)
                          have HL' := Lib.hid (show (M.wk c.ws).length ≤ 1000 by rw [M.wk_len]; omega)
                          clear HO HA HB hbw hk hlt O3
                          rcases two (M.rightsB (M.rk c.rs)) with d0 | d0
                          · go_wp2_with (fail)
                            refine (drights_any O5.out HL.out F.rks).mono ?_
                            rintro e w6 ⟨rfl, hb⟩
                            have O6 := Lib.hid (O4.out.below hb)
                            have B6 := Lib.hid (below_on B4.out hb)
                            clear hb
                            go_wp2_with (fail)
                            refine (drights_any O6.out HL'.out F.wks).mono ?_
                            rintro e w7 ⟨rfl, hb⟩
                            have B7 := Lib.hid (below_on B6.out hb)
                            clear hb
                            go_wp2
                            go_ret
                            exact ⟨ret_bool (by rw [HR.out, HE.out, ← HX.out, ← HY.out, d0]; rfl), B7.out⟩
                          · go_wp2_with (fail)
                            refine (drights_any O5.out HL.out F.rks).mono ?_
                            rintro e w6 ⟨rfl, hb⟩
                            have B6 := Lib.hid (below_on B4.out hb)
                            clear hb
                            go_wp2
                            go_ret
                            exact ⟨ret_bool (by rw [HR.out, HE.out, ← HX.out, d0]; rfl), B6.out⟩
            · have HE := Lib.hid (show M.transB c = false by unfold M.transB; rw [e0, e1, decide_eq_true e2, decide_eq_true e3, decide_eq_true e4, decide_eq_false e5]; rfl)
              clear e3
              have t0 : ¬ c.tt = 0 := by have := M.pair_iff.1 e1; omega
              obtain ⟨t1, t2⟩ := neI t0
              clear t0
              go_enter Try.func19, Try.ntmps19
              go_wp2_with (fail)
              refine (refTxn_any _ _ _).mono ?_
              rintro e w1 ⟨rfl, hb⟩
              have B1 := Lib.hid (below_on B0.out hb)
              have X1 := Lib.hid (X0.out.on hb)
              have R1 := Lib.hid (R0.out.below hb)
              have W1 := Lib.hid (W0.out.below hb)
              clear hb B0 X0 R0 W0
              obtain ⟨l1, p10, p11, p12, p13, p14, p15, p16, p17, p18⟩ := X1.out
              go_wp2_with (fail)
              refine (refStamp_any _ _ _).mono ?_
              rintro e w2 ⟨rfl, hb⟩
              have B2 := Lib.hid (below_on B1.out hb)
              have X2 := Lib.hid (X1.out.on hb)
              have R2 := Lib.hid (R1.out.below hb)
              have W2 := Lib.hid (W1.out.below hb)
              clear hb B1 X1 R1 W1
              clear l1 p10 p11 p12 p13 p14 p15 p16 p17 p18
              obtain ⟨l2, p20, p21, p22, p23, p24, p25, p26, p27, p28⟩ := X2.out
              go_wp2
              go_ret
              exact ⟨ret_bool (HE.out.symm.trans HR.out.symm), B2.out⟩
          · have HE := Lib.hid (show M.transB c = false by unfold M.transB; rw [e0, e1, decide_eq_true e2, decide_eq_true e3, decide_eq_false e4]; rfl)
            clear e3
            have t0 : ¬ c.tt = 0 := by have := M.pair_iff.1 e1; omega
            obtain ⟨t1, t2⟩ := neI t0
            clear t0
            go_enter Try.func19, Try.ntmps19
            go_wp2_with (fail)
            refine (refTxn_any _ _ _).mono ?_
            rintro e w1 ⟨rfl, hb⟩
            have B1 := Lib.hid (below_on B0.out hb)
            have X1 := Lib.hid (X0.out.on hb)
            have R1 := Lib.hid (R0.out.below hb)
            have W1 := Lib.hid (W0.out.below hb)
            clear hb B0 X0 R0 W0
            obtain ⟨l1, p10, p11, p12, p13, p14, p15, p16, p17, p18⟩ := X1.out
            go_wp2_with (fail)
            refine (refStamp_any _ _ _).mono ?_
            rintro e w2 ⟨rfl, hb⟩
            have B2 := Lib.hid (below_on B1.out hb)
            have X2 := Lib.hid (X1.out.on hb)
            have R2 := Lib.hid (R1.out.below hb)
            have W2 := Lib.hid (W1.out.below hb)
            clear hb B1 X1 R1 W1
            clear l1 p10 p11 p12 p13 p14 p15 p16 p17 p18
            obtain ⟨l2, p20, p21, p22, p23, p24, p25, p26, p27, p28⟩ := X2.out
            go_wp2
            go_ret
            exact ⟨ret_bool (HE.out.symm.trans HR.out.symm), B2.out⟩
        · obtain ⟨q3a, q3b⟩ := neI e3
          have HE := Lib.hid (show M.transB c = false by unfold M.transB; rw [e0, e1, decide_eq_true e2, decide_eq_false e3]; rfl)
          clear e3
          have t0 : ¬ c.tt = 0 := by have := M.pair_iff.1 e1; omega
          obtain ⟨t1, t2⟩ := neI t0
          clear t0
          go_enter Try.func19, Try.ntmps19
          go_wp2_with (fail)
          refine (refTxn_any _ _ _).mono ?_
          rintro e w1 ⟨rfl, hb⟩
          have B1 := Lib.hid (below_on B0.out hb)
          have X1 := Lib.hid (X0.out.on hb)
          have R1 := Lib.hid (R0.out.below hb)
          have W1 := Lib.hid (W0.out.below hb)
          clear hb B0 X0 R0 W0
          obtain ⟨l1, p10, p11, p12, p13, p14, p15, p16, p17, p18⟩ := X1.out
          go_wp2_with (fail)
          refine (refStamp_any _ _ _).mono ?_
          rintro e w2 ⟨rfl, hb⟩
          have B2 := Lib.hid (below_on B1.out hb)
          have X2 := Lib.hid (X1.out.on hb)
          have R2 := Lib.hid (R1.out.below hb)
          have W2 := Lib.hid (W1.out.below hb)
          clear hb B1 X1 R1 W1
          clear l1 p10 p11 p12 p13 p14 p15 p16 p17 p18
          obtain ⟨l2, p20, p21, p22, p23, p24, p25, p26, p27, p28⟩ := X2.out
          go_wp2
          go_ret
          exact ⟨ret_bool (HE.out.symm.trans HR.out.symm), B2.out⟩
      · have HE := Lib.hid (show M.transB c = false by unfold M.transB; rw [e0, e1, decide_eq_false e2]; rfl)
        have t0 : c.tt = 0 := by have := M.pair_iff.1 e1; omega
        obtain ⟨t1, t2⟩ := eqI t0
        clear t0
        go_enter Try.func19, Try.ntmps19
        go_wp2_with (fail)
        refine (refTxn_any _ _ _).mono ?_
        rintro e w1 ⟨rfl, hb⟩
        have B1 := Lib.hid (below_on B0.out hb)
        have X1 := Lib.hid (X0.out.on hb)
        have R1 := Lib.hid (R0.out.below hb)
        have W1 := Lib.hid (W0.out.below hb)
        clear hb B0 X0 R0 W0
        obtain ⟨l1, p10, p11, p12, p13, p14, p15, p16, p17, p18⟩ := X1.out
        go_wp2_with (fail)
        refine (refStamp_any _ _ _).mono ?_
        rintro e w2 ⟨rfl, hb⟩
        have B2 := Lib.hid (below_on B1.out hb)
        have X2 := Lib.hid (X1.out.on hb)
        have R2 := Lib.hid (R1.out.below hb)
        have W2 := Lib.hid (W1.out.below hb)
        clear hb B1 X1 R1 W1
        clear l1 p10 p11 p12 p13 p14 p15 p16 p17 p18
        obtain ⟨l2, p20, p21, p22, p23, p24, p25, p26, p27, p28⟩ := X2.out
        go_wp2
        go_ret
        exact ⟨ret_bool (HE.out.symm.trans HR.out.symm), B2.out⟩
    · have HE := Lib.hid (show M.transB c = false by unfold M.transB; rw [e0, e1]; rfl)
      go_enter Try.func19, Try.ntmps19
      go_wp2_with (fail)
      refine (refTxn_any _ _ _).mono ?_
      rintro e w1 ⟨rfl, hb⟩
      have B1 := Lib.hid (below_on B0.out hb)
      have X1 := Lib.hid (X0.out.on hb)
      have R1 := Lib.hid (R0.out.below hb)
      have W1 := Lib.hid (W0.out.below hb)
      clear hb B0 X0 R0 W0
      obtain ⟨l1, p10, p11, p12, p13, p14, p15, p16, p17, p18⟩ := X1.out
      go_wp2_with (fail)
      refine (refStamp_any _ _ _).mono ?_
      rintro e w2 ⟨rfl, hb⟩
      have B2 := Lib.hid (below_on B1.out hb)
      have X2 := Lib.hid (X1.out.on hb)
      have R2 := Lib.hid (R1.out.below hb)
      have W2 := Lib.hid (W1.out.below hb)
      clear hb B1 X1 R1 W1
      clear l1 p10 p11 p12 p13 p14 p15 p16 p17 p18
      obtain ⟨l2, p20, p21, p22, p23, p24, p25, p26, p27, p28⟩ := X2.out
      go_wp2
      go_ret
      exact ⟨ret_bool (HE.out.symm.trans HR.out.symm), B2.out⟩
  · have HE := Lib.hid (show M.transB c = false by unfold M.transB; rw [e0]; rfl)
    go_enter Try.func19, Try.ntmps19
    go_wp2_with (fail)
    refine (refTxn_any _ _ _).mono ?_
    rintro e w1 ⟨rfl, hb⟩
    have B1 := Lib.hid (below_on B0.out hb)
    have X1 := Lib.hid (X0.out.on hb)
    have R1 := Lib.hid (R0.out.below hb)
    have W1 := Lib.hid (W0.out.below hb)
    clear hb B0 X0 R0 W0
    obtain ⟨l1, p10, p11, p12, p13, p14, p15, p16, p17, p18⟩ := X1.out
    go_wp2
    go_ret
    exact ⟨ret_bool (HE.out.symm.trans HR.out.symm), B1.out⟩
end Go.Proofs.Ytagngbdlpdilnaa
