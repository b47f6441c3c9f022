/- WalSafe: the law's walk; conditions: the table of sixteen, arguments that read as steps. -/
import Derived.Test.YtdachohcjpjblaaGreatDoorFDs
set_option maxHeartbeats 8000000
set_option maxRecDepth 100000
namespace Go.Proofs.YtdachohcjpjblaaGreatDoor
open Go.ChangeShapes Go.WideShapes Go.ChangeAt Go.RowKit
open Di (Keeps In below_on below_new)
open Wi (Hold)
namespace Ds
theorem safe_law {w : World} {v : Value} {D : List Dv} (z keep pos : Int) (mask : UInt8) (hT : Fr.Tab w) (hD : DoRows w v D) (hl : D.length ≤ maxLen) : Calls Tryz.prog 4 #[.int .i64 z, v,.int .i64 keep,.int .i64 pos,.int .u8 (mask.toNat : Int)] w fun e w' => e = .returned (.bool true) ∧ Below w.heap.size w w' := by
 have HT := Lib.hid hT
 have HD := Lib.hid hD
 obtain ⟨A, c, rfl⟩ := rowN_sliceOf hD.row
 have HF := Lib.hid (few09_any z hD (by unfold maxLen at hl; omega))
 clear hT hD hl
 cases hfw : fewB z D with
 | false =>
   rw [hfw] at HF
   clear hfw
   go_enter Tryz.func4, Tryz.ntmps4
   go_wp2_with (fail)
   refine HF.out.mono ?_
   rintro e w1 ⟨rfl, hb⟩
   have HB1 := Lib.hid hb
   clear hb
   go_wp2_with (fail)
   refine (awake_any (HT.out.below HB1.out)).mono ?_
   rintro e w2 ⟨rfl, hb⟩
   have HB2 := Lib.hid (below_on HB1.out hb)
   clear hb
   go_wp2
   go_ret
   exact ⟨rfl, HB2.out⟩
 | true =>
   rw [hfw] at HF
   have hff : (∀ d ∈ D, d.X.length ≤ 4 ∧ modX d.X = true) ∧ D.length ≤ 30 ∧ 0 ≤ z ∧ z ≤ 1048576 := by
    unfold fewB at hfw
    simp only [Bool.and_eq_true, decide_eq_true_eq, List.all_eq_true] at hfw
    exact ⟨fun d hd => by have := hfw.1 d hd; unfold Dv.fewB at this; simpa only [Bool.and_eq_true, decide_eq_true_eq] using this, hfw.2.1, hfw.2.2⟩
   have HFF := Lib.hid hff.1
   obtain ⟨n, rfl⟩ : ∃ n : Nat, z = n := ⟨z.toNat, by omega⟩
   have hn : n ≤ 1048576 := by omega
   have hdl : D.length ≤ 30 := hff.2.1
   clear hfw hff
   go_enter Tryz.func4, Tryz.ntmps4
   go_wp2_with (fail)
   refine HF.out.mono ?_
   rintro e w1 ⟨rfl, hb⟩
   have HB1 := Lib.hid hb
   clear hb HF
   go_wp2_with (fail)
   refine (Di.new_any n w1 hn).mono ?_
   rintro e w2 ⟨rfl, hd, hb⟩
   have HDK := Lib.hid hd
   have HB2 := Lib.hid (below_on HB1.out hb)
   have HF2 := Lib.hid (show ∀ x, (x = w1.heap.size) → w.heap.size ≤ x from fun x e => by have := HB1.out.size; omega)
   have HN := Lib.hid (show ¬ (0 = w1.heap.size) from by have := HT.out.1; have := HB1.out.size; omega)
   clear hd hb
   go_wp2_with (fail)
   refine (open_any HDK.out (HT.out.below HB2.out) HN.out (by simp [Di.M.nil])).mono ?_
   rintro e w3 ⟨gl, F3, rfl, hL, hk, hg⟩
   rw [show K.opn (Di.M.nil n) = Di.M.nil n by unfold K.opn Di.M.nil; rw [K.rd_nil, K.fb_nil]; rfl] at hL
   obtain ⟨hb3, hF3⟩ := since HB2.out HF2.out hk hg
   have hbn : Below w3.heap.size w3 (w3.alloc (.cells #[.slice none 0 0,.int .i64 0,.int .i64 n] 41)) := below_new (Below.refl _ _)
   have HST : Hid (Stands w (w3.alloc (.cells #[.slice none 0 0,.int .i64 0,.int .i64 n] 41)) gl w1.heap.size w3.heap.size n 0 0 (.slice none 0 0)) := Lib.hid ⟨F3, _, [], hL.below hbn, hF3, fun f => Nat.lt_irrefl _ (hL.lt _ f), Wi.Hold.new w3 [.slice none 0 0,.int .i64 0,.int .i64 n] 41, ⟨⟨⟨rfl, none, 0, rfl, Nat.le_refl _, fun h => absurd h (by simp)⟩, fun y hy => (List.not_mem_nil hy).elim⟩, fun h => absurd h (by simp), fun y hy => (List.not_mem_nil hy).elim⟩, Ag.Agr.nil n, rfl, by simp, below_on hb3 hbn⟩
   have HBR := Lib.hid (show w.heap.size ≤ w3.heap.size from hb3.size)
   clear hL hk hg hb3 hF3 hbn HDK HN HF2 HB2
   go_wp2
   generalize hgd : w1.heap.size = gd at *
   generalize hbr : w3.heap.size = br at *
   generalize hW4 : w3.alloc (.cells #[.slice none 0 0,.int .i64 0,.int .i64 n] 41) = w4 at *
   clear hgd hbr hW4
   go_loopw [11, 41] (fun x i wr => ∃ (k gl sf : Nat) (v : Value), x = .pointer (some ⟨gl, 0, none⟩) ∧ i = .int .i64 k ∧ k ≤ D.length ∧ Hid (Stands w wr gl gd br n k sf v)) (fun _ i _ => D.length - (intOf i).toNat)
   case atStart => exact ⟨0, gl, 0, _, rfl, rfl, Nat.zero_le _, HST⟩
   case round =>
    obtain ⟨k, gx, sf, v, rfl, rfl, hk, HS⟩ := hrel
    by_cases hlt : k < D.length
    ·obtain ⟨d, hd⟩ : ∃ d, D[k]? = some d := ⟨_, List.getElem?_eq_getElem hlt⟩
     have hdm : d ∈ D := List.mem_of_getElem? hd
     obtain ⟨F, s, Y, hL, hF, hbr, hh, hR, hag, hz, hy, hlow⟩ := HS.out
     obtain ⟨A1, c1, rfl⟩ := rowN_sliceOf hR.rows.row
     obtain ⟨b, o, rfl, hbl, q0, q1, q2, q3, q4⟩ := drow_at (HD.out.below hlow).row hd
     have hrow := HD.out.tx d hdm
     have hfd := HFF.out d hdm
     obtain ⟨vb, dn, ps, msk, X, rv⟩ := d
     dsimp only at q0 q1 q2 q3 q4 hrow hfd
     obtain ⟨A2, c2, rfl⟩ := rowN_sliceOf hrow.row
     have hbn : Below wr.heap.size wr (wr.alloc (.cells #[.int .i64 vb,.int .i64 dn,.int .i64 ps,.int .u8 (msk.toNat : Int),.slice A2 X.length c2] 43)) := below_new (Below.refl _ _)
     have HDS := Lib.hid (does_any vb dn ps msk (hL.below hbn) (hR.below hbn) hag ((hrow.rws hF).below (below_on hlow hbn)) (modX_iff hfd.2) hfd.1 (by omega))
     rw [hz] at HDS
     have HZ := Lib.hid hz
     have HBR2 := Lib.hid (hh.on hbn)
     have z0 := hold_cell (hh.on hbn) 0 rfl
     have z1 := hold_cell (hh.on hbn) 1 rfl
     have z2 := hold_cell (hh.on hbn) 2 rfl
     have HLOW := Lib.hid (below_on hlow hbn)
     have HFL := Lib.hid hF
     have HNB := Lib.hid hbr
     have HYL := Lib.hid hy
     have hk1 : (k : Int) < (D.length : Int) := by omega
     clear hd hdm hL hF hbr hh hR hag hz hy hlow hrow hfd hbl hbn
     go_wp2_with (fail)
     refine HDS.out.mono ?_
     rintro e w5 ⟨gl2, F2, s2, v2, Y2, sf2, b2, rfl, hL2, hk2, hg2, hr2, ha2, hz2, hy2⟩
     have hz9 := HZ.out
     rw [hz9] at hz2 ⊢
     obtain ⟨A3, c3, rfl⟩ := rowN_sliceOf hr2.rows.row
     obtain ⟨hlow5, hF5⟩ := since HLOW.out HFL.out hk2 hg2
     have hnb5 : ¬ F2 br := fun f => (hg2.1 br f).elim HNB.out (fun e => by have := hold_lt HBR2.out; omega)
     have HH5 := Lib.hid (hold_keeps HBR2.out hk2 HNB.out)
     have HL5 := Lib.hid hL2
     have HF5 := Lib.hid hF5
     have HN5 := Lib.hid hnb5
     have HR5 := Lib.hid hr2
     have HA5 := Lib.hid ha2
     have HZ5 := Lib.hid hz2
     have HY5 := Lib.hid hy2
     have HW5 := Lib.hid hlow5
     have HLT := Lib.hid hlt
     clear z0 z1 z2 hL2 hk2 hg2 hr2 ha2 hz2 hy2 hlow5 hF5 hnb5 hz9 HDS
     have z0 := hold_cell HH5.out 0 rfl
     have z1 := hold_cell HH5.out 1 rfl
     have z2 := hold_cell HH5.out 2 rfl
     have f0 := hold_soft HH5.out 0
     have f1 := hold_soft HH5.out 1
     have f2 := hold_soft HH5.out 2
     go_wp2
     go_roundw
     case rel =>
      obtain ⟨hbb, hh⟩ := Bx.box_fill HH5.out (.slice A3 Y2.length c3) (.int .i64 sf2) (.int .i64 n)
      have hb0 := HT.out.1
      have hb1 := HBR.out
      have hlow5 := HW5.out
      exact ⟨k + 1, gl2, sf2, _, rfl, by go_num, HLT.out, Lib.hid ⟨F2, s2, Y2, hbb.log HL5.out HN5.out (by omega), HF5.out, HN5.out, hh, hbb.rws HR5.out, HA5.out, HZ5.out, by have := HY5.out; have := HYL.out; omega, hlow5.trans (hbb.k.below (fun x f => by rw [f]; exact hb1) hlow5.size)⟩⟩
     case measure => simp [intOf]; have := HLT.out; omega
    ·obtain rfl : k = D.length := by omega
     obtain ⟨F, s, Y, hL, hF, hbr, hh, hR, hag, hz, hy, hlow⟩ := HS.out
     obtain ⟨A1, c1, rfl⟩ := rowN_sliceOf hR.rows.row
     have hsm := hag.small
     rw [rcs_len] at hsm
     have hsz : s.bs.length ≤ 100000 := by omega
     obtain ⟨⟨m, hm1, hm2, hm3⟩, hm4⟩ := hag.fell keep pos mask
     have HRG := Lib.hid hag.rd.1.r
     have HSZ := Lib.hid hsz
     have HSZ2 := Lib.hid (show (Di.M.crash keep pos mask s).bs.length ≤ 100000 by have := crash_len hL.ok keep pos mask; omega)
     have HSZ3 := Lib.hid (show (K.opn (Di.M.crash keep pos mask s)).bs.length ≤ 100000 by have h1 := crash_len hL.ok keep pos mask; have h2 := K.rd_len (Di.M.crash keep pos mask s).bs; show (K.fb (K.rd (Di.M.crash keep pos mask s).bs)).length ≤ 100000; omega)
     have HM3 := Lib.hid hm3
     have HM4 := Lib.hid (show decide ((K.opn (Di.M.crash keep pos mask s)).k = (K.opn (Di.M.crash keep pos mask s)).bs.length) = true from decide_eq_true hm4)
     have HAL := Lib.hid (all_any hL hsz)
     have HLW := Lib.hid hlow
     have HFL := Lib.hid hF
     have HNB := Lib.hid hbr
     have HHB := Lib.hid hh
     have hj1 : ¬ ((D.length : Int) < (D.length : Int)) := by omega
     have hqb : (K.rd s.bs).length ≤ 120 := by rw [hag.rd.1.n, rcs_len]; omega
     generalize hq : (K.rd s.bs).length = q at *
     have HQ := Lib.hid hq
     have hsq : (sf : Int) ≤ (m : Int) := by omega
     have hmq : (m : Int) ≤ (q : Int) := by omega
     clear hL hF hbr hh hR hag hz hy hlow hsm hsz hm3 hm4 hq
     go_wp2_with (fail)
     refine HAL.out.mono ?_
     rintro e w5 ⟨v5, Y5, F5, rfl, hY5, hr5, hL5, hk5, hg5⟩
     obtain ⟨A5, c5, rfl⟩ := rowN_sliceOf hr5.rows.row
     have hyl : Y5.length = q := by rw [← HQ.out, ← hY5, rcs_len]
     have hqc : q ≤ c5 := by
      obtain ⟨-, A', c', e, hc, -⟩ := hr5.rows.row
      simp only [Value.slice.injEq] at e
      obtain ⟨-, -, rfl⟩ := e
      omega
     obtain ⟨hlow5, hF5⟩ := since HLW.out HFL.out hk5 hg5
     have HYL := Lib.hid hyl
     have HY5 := Lib.hid hY5
     have HR5 := Lib.hid hr5
     have HL5 := Lib.hid hL5
     have HW5 := Lib.hid hlow5
     have HF5 := Lib.hid hF5
     have HH5 := Lib.hid (hold_keeps HHB.out hk5 HNB.out)
     have HN5 := Lib.hid (show ¬ F5 br from fun f => (hg5.1 br f).elim HNB.out (fun e => by have := hold_lt HHB.out; omega))
     have HCR := Lib.hid (crash_log hL5 keep pos mask)
     rw [hyl]
     clear hyl hY5 hr5 hL5 hk5 hg5 hlow5 hF5 HAL
     go_wp2_with (fail)
     refine (disk_log HL5.out).mono ?_
     rintro e wx ⟨rfl, rfl⟩
     go_wp2_with (fail)
     refine HCR.out.mono ?_
     rintro e w6 ⟨rfl, F6, hL6, hk6, hg6⟩
     obtain ⟨hlow6, hF6⟩ := since HW5.out HF5.out hk6 hg6
     have HR6 := Lib.hid (HR5.out.step hk6 hg6)
     have HL6 := Lib.hid hL6
     have HW6 := Lib.hid hlow6
     have HF6 := Lib.hid hF6
     have HH6 := Lib.hid (hold_keeps HH5.out hk6 HN5.out)
     have HN6 := Lib.hid (show ¬ F6 br from fun f => (hg6.1 br f).elim HN5.out (fun e => by have := hold_lt HH5.out; omega))
     have HOP := Lib.hid (open_log hL6 HSZ2.out)
     clear hL6 hk6 hg6 hlow6 hF6 HCR
     go_wp2_with (fail)
     refine (disk_log HL6.out).mono ?_
     rintro e wx ⟨rfl, rfl⟩
     go_wp2_with (fail)
     refine HOP.out.mono ?_
     rintro e w7 ⟨gl7, rfl, F7, hL7, hk7, hg7⟩
     obtain ⟨hlow7, hF7⟩ := since HW6.out HF6.out hk7 hg7
     have HR7 := Lib.hid (HR6.out.step hk7 hg7)
     have HL7 := Lib.hid hL7
     have HW7 := Lib.hid hlow7
     have HF7 := Lib.hid hF7
     have HH7 := Lib.hid (hold_keeps HH6.out hk7 HN6.out)
     have HN7 := Lib.hid (show ¬ F7 br from fun f => (hg7.1 br f).elim HN6.out (fun e => by have := hold_lt HH6.out; omega))
     have HAL := Lib.hid (all_any hL7 HSZ3.out)
     clear hL7 hk7 hg7 hlow7 hF7 HOP
     go_wp2_with (fail)
     refine HAL.out.mono ?_
     rintro e w8 ⟨v8, Y8, F8, rfl, hY8, hr8, hL8, hk8, hg8⟩
     obtain ⟨A8, c8, rfl⟩ := rowN_sliceOf hr8.rows.row
     have hyl : Y8.length = m := by
      have := congrArg List.length (hY8.trans HM3.out)
      rw [rcs_len, List.length_take, HQ.out] at this
      omega
     have hrw : Rows w8 (.slice A5 m c5) (Y5.take m) := Rf.rows_take (HR7.out.step hk8 hg8).rows (by have := HYL.out; omega)
     have hrc : rcs Y8 = rcs (Y5.take m) := by
      rw [hY8, HM3.out, show rcs (Y5.take m) = (rcs Y5).take m by simp [rcs, List.map_take], HY5.out]
     have HROW := Lib.hid (rows_any hr8.rows hrw hrc (by omega) (fun x hx => by
      have hx2 : x.r ∈ K.rd s.bs := by
       have h1 : x.r ∈ rcs Y8 := List.mem_map.2 ⟨x, hx, rfl⟩
       rw [hY8, HM3.out] at h1
       exact List.mem_of_mem_take h1
      have h2 := K.tiny (HRG.out x.r hx2)
      exact ⟨by have := h2.rl; omega, by have := h2.wl; omega⟩))
     rw [hyl] at HROW ⊢
     have HL8 := Lib.hid hL8
     have HW8 := Lib.hid (since HW7.out HF7.out hk8 hg8).1
     have z1 := hold_cell (hold_keeps HH7.out hk8 HN7.out) 1 rfl
     have hmc : (m : Int) ≤ (c5 : Int) := by omega
     clear hyl hrw hrc hY8 hr8 hL8 hk8 hg8 HAL
     go_wp2_with (first
      | (go_at_call 14; refine HROW.out.mono ?_; rintro e w9 ⟨rfl, hb9⟩; have HL9 := Lib.hid (HL8.out.below hb9); have HW9 := Lib.hid (below_on HW8.out hb9); clear hb9)
      | (go_at_call 22; refine (syncedL_any HL9.out).mono ?_; rintro e wa ⟨rfl, hba⟩; rw [HM4.out]; have HWa := Lib.hid (below_on HW9.out hba); clear hba)
      | (go_at_call 9; refine (awake_any (HT.out.below HWa.out)).mono ?_; rintro e wb ⟨rfl, hbb⟩; have HWb := Lib.hid (below_on HWa.out hbb); clear hbb))
     go_ret
     exact ⟨rfl, HWb.out⟩
end Ds
end Go.Proofs.YtdachohcjpjblaaGreatDoor
