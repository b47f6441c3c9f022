/- WalCompacts: the law's walk; conditions: the table of sixteen, arguments that read as steps. -/
import Derived.Test.YtdachohcjpjblaaGreatDoorFDs
set_option maxHeartbeats 8000000
set_option maxRecDepth 100000
namespace Go.Proofs.YtdachohcjpjblaaGreatDoor
open Go.ChangeShapes Go.WideShapes Go.ChangeAt Go.RowKit
open Di (Keeps In below_on below_new)
open Wi (Hold)
namespace Ds
def Instd2 (w : World) (gl gd : Nat) (F : Nat → Prop) (s : Di.M.St) (e : Ending) (w' : World) : Prop := ∃ (v : Value) (ks : List Ky) (X : List Rv) (F' : Nat → Prop), e = .returned v ∧ rcs X = K.rd s.bs ∧ ks.Perm ((cur X).map (·.1)) ∧ w'.ownsRow w.heap.size 53 2 v ks.length (ks.flatMap It.kc) ∧ (∀ b, v.ownBlock = some b → ¬ F' b) ∧ Log w' gl gd F' s ∧ Keeps F w w' ∧ Di.Grew F F' w w'
theorem insts2_any {w : World} {gl gd : Nat} {F : Nat → Prop} {s : Di.M.St} (h : Log w gl gd F s) (hs : s.bs.length ≤ 100000) : Calls Tryz.prog 23 #[.pointer (some ⟨gl, 0, none⟩)] w (Instd2 w gl gd F s) := by
 obtain ⟨gc, Fd, Fc, X, rest, A, c, vr, ve, gm, L, hF⟩ := h
 have HL := Lib.hid L
 have HF := Lib.hid hF
 clear L hF
 go_enter Tryz.func23, Tryz.ntmps23
 go_wp2_with (fail)
 refine (look_any HL.out hs).mono ?_
 rintro e w1 ⟨rfl, Fc1, X1, A1, c1, vr1, ve1, hX, L1, k1, g1, -⟩
 have HX := Lib.hid hX
 have HS := Lib.hid k1.size
 have HG := Lib.hid (logs_read HF.out L1 k1 g1)
 have hlen : (cur X1).length ≤ 1000000 := by
  have h1 := Sr.cur_len X1
  have h2 := (K.rd_rg s.bs).count
  have h3 := K.rd_len s.bs
  have h4 := congrArg List.length hX
  rw [rcs_len] at h4
  omega
 have HI := Lib.hid (Sr.insts_any (hold_cell L1.ct.blk 4 rfl) L1.ct.mp hlen)
 clear hX k1 g1 L1 hlen
 go_wp2_with (fail)
 refine HI.out.mono ?_
 rintro e w2 ⟨v, ks, rfl, hp, hrow, hb⟩
 have HR := Lib.hid hrow
 have HB := Lib.hid hb
 have HP := Lib.hid hp
 clear hrow hb hp
 go_wp2
 go_ret
 obtain ⟨F', a, k, g⟩ := HG.out
 exact ⟨v, ks, X1, F', rfl, HX.out, HP.out, HR.out.mono HS.out, fun b e f => by have := (HR.out.lt b e).1; have := g.2 b f; omega, a.below HB.out, k.on HB.out, grew_on g HB.out⟩
def Stands2 (w0 w : World) (gl gd br : Nat) (n sf : Nat) (s : Di.M.St) (v : Value) (Y : List Rv) (kv : Value) (ks : List Ky) : Prop := ∃ (F : Nat → Prop), Log w gl gd F s ∧ (∀ x, F x → w0.heap.size ≤ x) ∧ ¬ F br ∧ Hold w br 41 [v,.int .i64 sf,.int .i64 n] ∧ Rws F w v Y ∧ w.ownsRow w0.heap.size 53 2 kv ks.length (ks.flatMap It.kc) ∧ (∀ b, kv.ownBlock = some b → ¬ F b) ∧ Below w0.heap.size w0 w
theorem compacts_law {w : World} {v : Value} {D : List Dv} (z : Int) (hT : Fr.Tab w) (hD : DoRows w v D) (hl : D.length ≤ maxLen) : Calls Tryz.prog 5 #[.int .i64 z, v] w fun e w' => e = .returned (.bool true) ∧ Below w.heap.size w w' := by
 have HT := Lib.hid hT
 have HD := Lib.hid hD
 obtain ⟨A, c, rfl⟩ := rowN_sliceOf hD.row
 have HF := Lib.hid (few09_any z hD (by unfold maxLen at hl; omega))
 clear hT hD hl
 cases hfw : fewB z D with
 | false =>
   rw [hfw] at HF
   clear hfw
   go_enter Tryz.func5, Tryz.ntmps5
   go_wp2_with (fail)
   refine HF.out.mono ?_
   rintro e w1 ⟨rfl, hb⟩
   have HB1 := Lib.hid hb
   clear hb
   go_wp2_with (fail)
   refine (awake_any (HT.out.below HB1.out)).mono ?_
   rintro e w2 ⟨rfl, hb⟩
   have HB2 := Lib.hid (below_on HB1.out hb)
   clear hb
   go_wp2
   go_ret
   exact ⟨rfl, HB2.out⟩
 | true =>
   rw [hfw] at HF
   have hff : (∀ d ∈ D, d.X.length ≤ 4 ∧ modX d.X = true) ∧ D.length ≤ 30 ∧ 0 ≤ z ∧ z ≤ 1048576 := by
    unfold fewB at hfw
    simp only [Bool.and_eq_true, decide_eq_true_eq, List.all_eq_true] at hfw
    exact ⟨fun d hd => by have := hfw.1 d hd; unfold Dv.fewB at this; simpa only [Bool.and_eq_true, decide_eq_true_eq] using this, hfw.2.1, hfw.2.2⟩
   have HFF := Lib.hid hff.1
   obtain ⟨n, rfl⟩ : ∃ n : Nat, z = n := ⟨z.toNat, by omega⟩
   have hn : n ≤ 1048576 := by omega
   have hdl : D.length ≤ 30 := hff.2.1
   clear hfw hff
   go_enter Tryz.func5, Tryz.ntmps5
   go_wp2_with (fail)
   refine HF.out.mono ?_
   rintro e w1 ⟨rfl, hb⟩
   have HB1 := Lib.hid hb
   clear hb HF
   go_wp2_with (fail)
   refine (Di.new_any n w1 hn).mono ?_
   rintro e w2 ⟨rfl, hd, hb⟩
   have HDK := Lib.hid hd
   have HB2 := Lib.hid (below_on HB1.out hb)
   have HF2 := Lib.hid (show ∀ x, (x = w1.heap.size) → w.heap.size ≤ x from fun x e => by have := HB1.out.size; omega)
   have HN := Lib.hid (show ¬ (0 = w1.heap.size) from by have := HT.out.1; have := HB1.out.size; omega)
   clear hd hb
   go_wp2_with (fail)
   refine (open_any HDK.out (HT.out.below HB2.out) HN.out (by simp [Di.M.nil])).mono ?_
   rintro e w3 ⟨gl, F3, rfl, hL, hk, hg⟩
   rw [show K.opn (Di.M.nil n) = Di.M.nil n by unfold K.opn Di.M.nil; rw [K.rd_nil, K.fb_nil]; rfl] at hL
   obtain ⟨hb3, hF3⟩ := since HB2.out HF2.out hk hg
   have hbn : Below w3.heap.size w3 (w3.alloc (.cells #[.slice none 0 0,.int .i64 0,.int .i64 n] 41)) := below_new (Below.refl _ _)
   have HST : Hid (Stands w (w3.alloc (.cells #[.slice none 0 0,.int .i64 0,.int .i64 n] 41)) gl w1.heap.size w3.heap.size n 0 0 (.slice none 0 0)) := Lib.hid ⟨F3, _, [], hL.below hbn, hF3, fun f => Nat.lt_irrefl _ (hL.lt _ f), Wi.Hold.new w3 [.slice none 0 0,.int .i64 0,.int .i64 n] 41, ⟨⟨⟨rfl, none, 0, rfl, Nat.le_refl _, fun h => absurd h (by simp)⟩, fun y hy => (List.not_mem_nil hy).elim⟩, fun h => absurd h (by simp), fun y hy => (List.not_mem_nil hy).elim⟩, Ag.Agr.nil n, rfl, by simp, below_on hb3 hbn⟩
   have HBR := Lib.hid (show w.heap.size ≤ w3.heap.size from hb3.size)
   clear hL hk hg hb3 hF3 hbn HDK HN HF2 HB2
   go_wp2
   generalize hgd : w1.heap.size = gd at *
   generalize hbr : w3.heap.size = br at *
   generalize hW4 : w3.alloc (.cells #[.slice none 0 0,.int .i64 0,.int .i64 n] 41) = w4 at *
   clear hgd hbr hW4
   go_loopw [5, 39] (fun x i wr => ∃ (k gl sf : Nat) (v : Value), x = .pointer (some ⟨gl, 0, none⟩) ∧ i = .int .i64 k ∧ k ≤ D.length ∧ Hid (Stands w wr gl gd br n k sf v)) (fun _ i _ => D.length - (intOf i).toNat)
   case atStart => exact ⟨0, gl, 0, _, rfl, rfl, Nat.zero_le _, HST⟩
   case round =>
    obtain ⟨k, gx, sf, v, rfl, rfl, hk, HS⟩ := hrel
    by_cases hlt : k < D.length
    ·obtain ⟨d, hd⟩ : ∃ d, D[k]? = some d := ⟨_, List.getElem?_eq_getElem hlt⟩
     have hdm : d ∈ D := List.mem_of_getElem? hd
     obtain ⟨F, s, Y, hL, hF, hbr, hh, hR, hag, hz, hy, hlow⟩ := HS.out
     obtain ⟨A1, c1, rfl⟩ := rowN_sliceOf hR.rows.row
     obtain ⟨b, o, rfl, hbl, q0, q1, q2, q3, q4⟩ := drow_at (HD.out.below hlow).row hd
     have hrow := HD.out.tx d hdm
     have hfd := HFF.out d hdm
     obtain ⟨vb, dn, ps, msk, X, rv⟩ := d
     dsimp only at q0 q1 q2 q3 q4 hrow hfd
     obtain ⟨A2, c2, rfl⟩ := rowN_sliceOf hrow.row
     have hbn : Below wr.heap.size wr (wr.alloc (.cells #[.int .i64 vb,.int .i64 dn,.int .i64 ps,.int .u8 (msk.toNat : Int),.slice A2 X.length c2] 43)) := below_new (Below.refl _ _)
     have HDS := Lib.hid (does_any vb dn ps msk (hL.below hbn) (hR.below hbn) hag ((hrow.rws hF).below (below_on hlow hbn)) (modX_iff hfd.2) hfd.1 (by omega))
     rw [hz] at HDS
     have HZ := Lib.hid hz
     have HBR2 := Lib.hid (hh.on hbn)
     have z0 := hold_cell (hh.on hbn) 0 rfl
     have z1 := hold_cell (hh.on hbn) 1 rfl
     have z2 := hold_cell (hh.on hbn) 2 rfl
     have HLOW := Lib.hid (below_on hlow hbn)
     have HFL := Lib.hid hF
     have HNB := Lib.hid hbr
     have HYL := Lib.hid hy
     have hk1 : (k : Int) < (D.length : Int) := by omega
     clear hd hdm hL hF hbr hh hR hag hz hy hlow hrow hfd hbl hbn
     go_wp2_with (fail)
     refine HDS.out.mono ?_
     rintro e w5 ⟨gl2, F2, s2, v2, Y2, sf2, b2, rfl, hL2, hk2, hg2, hr2, ha2, hz2, hy2⟩
     have hz9 := HZ.out
     rw [hz9] at hz2 ⊢
     obtain ⟨A3, c3, rfl⟩ := rowN_sliceOf hr2.rows.row
     obtain ⟨hlow5, hF5⟩ := since HLOW.out HFL.out hk2 hg2
     have hnb5 : ¬ F2 br := fun f => (hg2.1 br f).elim HNB.out (fun e => by have := hold_lt HBR2.out; omega)
     have HH5 := Lib.hid (hold_keeps HBR2.out hk2 HNB.out)
     have HL5 := Lib.hid hL2
     have HF5 := Lib.hid hF5
     have HN5 := Lib.hid hnb5
     have HR5 := Lib.hid hr2
     have HA5 := Lib.hid ha2
     have HZ5 := Lib.hid hz2
     have HY5 := Lib.hid hy2
     have HW5 := Lib.hid hlow5
     have HLT := Lib.hid hlt
     clear z0 z1 z2 hL2 hk2 hg2 hr2 ha2 hz2 hy2 hlow5 hF5 hnb5 hz9 HDS
     have z0 := hold_cell HH5.out 0 rfl
     have z1 := hold_cell HH5.out 1 rfl
     have z2 := hold_cell HH5.out 2 rfl
     have f0 := hold_soft HH5.out 0
     have f1 := hold_soft HH5.out 1
     have f2 := hold_soft HH5.out 2
     go_wp2
     go_roundw
     case rel =>
      obtain ⟨hbb, hh⟩ := Bx.box_fill HH5.out (.slice A3 Y2.length c3) (.int .i64 sf2) (.int .i64 n)
      have hb0 := HT.out.1
      have hb1 := HBR.out
      have hlow5 := HW5.out
      exact ⟨k + 1, gl2, sf2, _, rfl, by go_num, HLT.out, Lib.hid ⟨F2, s2, Y2, hbb.log HL5.out HN5.out (by omega), HF5.out, HN5.out, hh, hbb.rws HR5.out, HA5.out, HZ5.out, by have := HY5.out; have := HYL.out; omega, hlow5.trans (hbb.k.below (fun x f => by rw [f]; exact hb1) hlow5.size)⟩⟩
     case measure => simp [intOf]; have := HLT.out; omega
    ·obtain rfl : k = D.length := by omega
     obtain ⟨F, s, Y, hL, hF, hbr, hh, hR, hag, hz, hy, hlow⟩ := HS.out
     obtain ⟨A1, c1, rfl⟩ := rowN_sliceOf hR.rows.row
     have hsm := hag.small
     rw [rcs_len] at hsm
     have hsz : s.bs.length ≤ 100000 := by omega
     have HSZ := Lib.hid hsz
     have HAG := Lib.hid hag.rd.1
     have HQB := Lib.hid (show (K.rd s.bs).length ≤ 120 by rw [hag.rd.1.n, rcs_len]; omega)
     have HYB := Lib.hid (show Y.length ≤ 120 by omega)
     have HBY := Lib.hid (bytes_log hL)
     have HL0 := Lib.hid hL
     have HLW := Lib.hid hlow
     have HFL := Lib.hid hF
     have HNB := Lib.hid hbr
     have HHB := Lib.hid hh
     have HR0 := Lib.hid hR
     have hj1 : ¬ ((D.length : Int) < (D.length : Int)) := by omega
     clear hL hF hbr hh hR hag hz hy hlow hsm hsz
     go_wp2_with (fail)
     refine (disk_log HL0.out).mono ?_
     rintro e wx ⟨rfl, rfl⟩
     go_wp2_with (fail)
     refine HBY.out.mono ?_
     rintro e w5 ⟨rfl, -, hb5⟩
     have HL5 := Lib.hid (HL0.out.below hb5)
     have HW5 := Lib.hid (below_on HLW.out hb5)
     have HH5 := Lib.hid (HHB.out.on hb5)
     have HR5 := Lib.hid (HR0.out.below hb5)
     have HIN := Lib.hid (insts2_any HL5.out HSZ.out)
     clear hb5 HBY
     go_wp2_with (fail)
     refine HIN.out.mono ?_
     rintro e w6 ⟨kv, ks, X6, F6, rfl, hX6, hp6, hrow6, hnk6, hL6, hk6, hg6⟩
     obtain ⟨hlow6, hF6⟩ := since HW5.out HFL.out hk6 hg6
     have HNK6 := Lib.hid hnk6
     have HRW6 := Lib.hid hrow6
     have HX6 := Lib.hid hX6
     have HP6 := Lib.hid hp6
     have HL6 := Lib.hid hL6
     have HW6 := Lib.hid hlow6
     have HF6 := Lib.hid hF6
     have HH6 := Lib.hid (hold_keeps HH5.out hk6 HNB.out)
     have HR6 := Lib.hid (HR5.out.step hk6 hg6)
     have HN6 := Lib.hid (show ¬ F6 br from fun f => (hg6.1 br f).elim HNB.out (fun e => by have := hold_lt HH5.out; omega))
     have HCP := Lib.hid (Cp.compL_any HL6.out HSZ.out (by have := HQB.out; omega))
     have HS56 := Lib.hid HW5.out.size
     clear hX6 hp6 hrow6 hnk6 hL6 hk6 hg6 hlow6 hF6 HIN
     obtain ⟨A6, c6, rfl⟩ : ∃ A c, kv = .slice A ks.length c := by
      rcases HRW6.out.2 with ⟨rfl, hz0⟩ | ⟨g, cap, cr, rfl, -⟩
      ·exact ⟨_, _, by rw [hz0]⟩
      ·exact ⟨_, _, rfl⟩
     go_wp2_with (fail)
     refine HCP.out.mono ?_
     rintro e w7 ⟨X7, ks7, rfl, hX7, hp7, hg7, hle7, F7, hL7, hk7, hgr7⟩
     obtain ⟨hlow7, hF7⟩ := since HW6.out HF6.out hk7 hgr7
     have HRD := Lib.hid (show ∀ k, K.lastR (K.rd (K.fb (rcs (ks7.map (Cp.kf (cur X7)))))) k = K.lastR (rcs Y) k from fun k => by
      rw [K.rd_of_fb hg7, Rf.picked_last hp7, hX7]
      exact HAG.out.k k)
     have HRL := Lib.hid (show (K.rd (K.fb (rcs (ks7.map (Cp.kf (cur X7)))))).length = ks.length by
      rw [K.rd_of_fb hg7, rcs_len, List.length_map]
      have h1 := hp7.length_eq
      have h2 := HP6.out.length_eq
      have h3 := congrArg List.length (Ls.cur_keys X7 X6 (hX7.trans HX6.out.symm))
      omega)
     have hle : ((K.fb (rcs (ks7.map (Cp.kf (cur X7)))))).length ≤ s.bs.length := hle7
     generalize hP : K.fb (rcs (ks7.map (Cp.kf (cur X7)))) = P at *
     have HL7 := Lib.hid hL7
     have HW7 := Lib.hid hlow7
     have HF7 := Lib.hid hF7
     have HH7 := Lib.hid (hold_keeps HH6.out hk7 HN6.out)
     have HR7 := Lib.hid (HR6.out.step hk7 hgr7)
     have HN7 := Lib.hid (show ¬ F7 br from fun f => (hgr7.1 br f).elim HN6.out (fun e => by have := hold_lt HH6.out; omega))
     have HRW7 := Lib.hid (owns_keeps HRW6.out hk7 (fun b e f => HNK6.out b e f))
     have HNK7 := Lib.hid (show ∀ b, (Value.slice A6 ks.length c6).ownBlock = some b → ¬ F7 b from fun b e f => (hgr7.1 b f).elim (HNK6.out b e) (fun g => by have := (HRW6.out.lt b e).2; omega))
     have HPZ := Lib.hid (show P.length ≤ 100000 by have := HSZ.out; omega)
     have HBY := Lib.hid (bytes_log HL7.out)
     have hle2 : ¬ ((s.bs.length : Int) < (P.length : Int)) := by omega
     generalize hσ : (⟨s.z, P, P.length⟩ : Di.M.St) = σ at *
     have HSG := Lib.hid (show σ.bs = P by rw [← hσ])
     have HSK := Lib.hid (show decide (σ.k = σ.bs.length) = true by rw [← hσ]; exact decide_eq_true rfl)
     clear hX7 hp7 hg7 hle7 hL7 hk7 hgr7 hlow7 hF7 HCP hP hσ hle
     go_wp2_with (first
      | (go_at_call 20; refine (disk_log HL7.out).mono ?_; rintro e wx ⟨rfl, rfl⟩)
      | (go_at_call 16; refine HBY.out.mono ?_; rintro e w8 ⟨rfl, -, hb8⟩; rw [HSG.out]; have HL8 := Lib.hid (HL7.out.below hb8); have HW8 := Lib.hid (below_on HW7.out hb8); have HH8 := Lib.hid (HH7.out.on hb8); have HR8 := Lib.hid (HR7.out.below hb8); have HRW8 := Lib.hid (Wi.ownsRow_on HRW7.out hb8); have HAL := Lib.hid (all_any HL8.out (by rw [HSG.out]; exact HPZ.out)); clear hb8)
      | (go_at_call 15
         refine HAL.out.mono ?_
         rintro e w9 ⟨v9, Y9, F9, rfl, hY9, hr9, hL9, hk9, hg9⟩
         have hyl : Y9.length = ks.length := by
          have := congrArg List.length hY9
          rw [rcs_len, HSG.out, HRL.out] at this
          exact this
         obtain ⟨A9, c9, hv9⟩ := rowN_sliceOf hr9.rows.row
         rw [hyl] at hv9
         subst hv9
         obtain ⟨hlow9, hF9⟩ := since HW8.out HF7.out hk9 hg9
         have HST2 : Hid (Stands2 w w9 gx gd br n sf σ (.slice A1 Y.length c1) Y (.slice A6 ks.length c6) ks) := Lib.hid ⟨F9, hL9, hF9, fun f => (hg9.1 br f).elim HN7.out (fun e => by have := hold_lt HH8.out; omega), hold_keeps HH8.out hk9 HN7.out, HR8.out.step hk9 hg9, (owns_keeps HRW8.out hk9 (fun b e f => HNK7.out b e f)).mono HW5.out.size, fun b e f => (hg9.1 b f).elim (HNK7.out b e) (fun g => by have := (HRW8.out.lt b e).2; omega), hlow9⟩
         have HL9 := Lib.hid hL9
         clear hY9 hr9 hL9 hk9 hg9 hyl hlow9 hF9)
      | (go_at_call 22; refine (syncedL_any HL9.out).mono ?_; rintro e wa ⟨rfl, hba⟩; rw [HSK.out]; have HST3 : Hid (Stands2 w wa gx gd br n sf σ (.slice A1 Y.length c1) Y (.slice A6 ks.length c6) ks) := Lib.hid (by obtain ⟨F, a1, a2, a3, a4, a5, a6, a7, a8⟩ := HST2.out; exact ⟨F, a1.below hba, a2, a3, a4.on hba, a5.below hba, Wi.ownsRow_on a6 hba, a7, below_on a8 hba⟩); clear hba))
     have HKB := Lib.hid (show ks.length ≤ 1000 by have := HRL.out; have h1 := (K.rd_rg P).count; have h2 := K.rd_len P; have := HPZ.out; have h3 := HP6.out.length_eq; have h4 := Sr.cur_len X6; have h5 := congrArg List.length HX6.out; rw [rcs_len] at h5; rw [List.length_map] at h3; have := HQB.out; omega)
     rw [decide_eq_false (show ¬ (s.bs.length < P.length) by omega)]
     clear hj1 hle2
     go_loopw [84] (fun i wr => ∃ k : Nat, i = .int .i64 k ∧ k ≤ ks.length ∧ Hid (Stands2 w wr gx gd br n sf σ (.slice A1 Y.length c1) Y (.slice A6 ks.length c6) ks)) (fun i _ => ks.length - (intOf i).toNat)
     case atStart => exact ⟨0, rfl, Nat.zero_le _, HST3⟩
     case round =>
      obtain ⟨j, rfl, hj, HQ⟩ := hrel
      obtain ⟨F, hL, hF, hbr, hh, hR, hrw, hnk, hlow⟩ := HQ.out
      by_cases hlt : j < ks.length
      ·obtain ⟨⟨k1, k2⟩, hkj⟩ : ∃ k, ks[j]? = some k := ⟨_, List.getElem?_eq_getElem hlt⟩
       obtain ⟨g, cap, ev, hgb, hgl, -, d0, d1⟩ := Rf.row_kc hrw hkj
       simp only [Value.slice.injEq] at ev
       obtain ⟨rfl, -, rfl⟩ := ev
       dsimp only at d0 d1
       have hsome : (K.lastR (rcs Y) (k1, k2)).isSome := by
        have h1 := (Ag.cur_isSome X6 (k1, k2)).1 (HP6.out.mem_iff.1 (List.mem_of_getElem? hkj))
        rwa [HX6.out, HAG.out.k] at h1
       have hkm : (k1, k2) ∈ Nn.all (Y.map Rv.key) := (Rf.all_keys Y (k1, k2)).2 hsome
       obtain ⟨r, hr⟩ := Option.isSome_iff_exists.1 hsome
       have hrg : Wi.M.rightR r = true := HAG.out.r' r (Ag.last_mem hr)
       have hbn : Below wr.heap.size wr (wr.alloc (.cells #[.int .i64 k1,.int .i64 k2] 53)) := below_new (Below.refl _ _)
       have HGT := Lib.hid (getL_any (k1, k2) (hL.below hbn) (by rw [HSG.out]; exact HPZ.out))
       rw [show K.lastR (K.rd σ.bs) (k1, k2) = some r by rw [HSG.out, HRD.out, hr]] at HGT
       have HSM := Lib.hid (K.tiny hrg)
       have HLR := Lib.hid hr
       have HKM := Lib.hid hkm
       have HT13 := Lib.hid (show Hold (wr.alloc (.cells #[.int .i64 k1,.int .i64 k2] 53)) wr.heap.size 53 [.int .i64 k1,.int .i64 k2] from Wi.Hold.new wr [.int .i64 k1,.int .i64 k2] 53)
       have HHN := Lib.hid (hh.on hbn)
       have HRN := Lib.hid (hR.below hbn)
       have HKN := Lib.hid (Wi.ownsRow_on hrw hbn)
       have HWN := Lib.hid (below_on hlow hbn)
       have HFN := Lib.hid hF
       have HBN := Lib.hid hbr
       have HNK := Lib.hid hnk
       have HNW := Lib.hid (show ¬ F wr.heap.size from fun f => Nat.lt_irrefl _ (hL.lt _ f))
       have HJ := Lib.hid hlt
       have hj1 : (j : Int) < (ks.length : Int) := by omega
       have hkb9 := HKB.out
       clear hL hF hbr hh hR hrw hnk hlow hkj hgb hgl hsome hkm hr hrg hbn hlt
       go_wp2_with (fail)
       refine HGT.out.mono ?_
       rintro e w5 ⟨⟨r', va', vb'⟩, rfl, hy, ⟨B1, -, o1⟩, ⟨B2, -, o2⟩, F5, hL5, hk5, hg5⟩
       simp only [Option.getD_some] at hy
       have hy2 := hy.symm
       subst hy2
       clear hy d0 d1
       dsimp only at o1 o2
       obtain ⟨A5, c5, rfl⟩ := Wi.ownsRow_slice o1
       obtain ⟨A7, c7, rfl⟩ := Wi.ownsRow_slice o2
       have hv5 : (⟨r,.slice A5 r.c.rs.length c5,.slice A7 r.c.ws.length c7⟩ : Rv).val = .agg (Rv.cells ⟨r,.slice A5 r.c.rs.length c5,.slice A7 r.c.ws.length c7⟩).toArray := rfl
       rw [hv5]
       simp only [Option.isSome_some]
       obtain ⟨hlow5, hF5⟩ := since HWN.out HFN.out hk5 hg5
       have hb6 : Below w5.heap.size w5 (w5.alloc (.cells (Rv.cells ⟨r,.slice A5 r.c.rs.length c5,.slice A7 r.c.ws.length c7⟩).toArray 67)) := below_new (Below.refl _ _)
       have HL6 := Lib.hid (hL5.below hb6)
       have HW6 := Lib.hid (below_on hlow5 hb6)
       have HF6 := Lib.hid hF5
       have HN6 := Lib.hid (show ¬ F5 br from fun f => (hg5.1 br f).elim HBN.out (fun e => by have := hold_lt HHN.out; omega))
       have HH6 := Lib.hid ((hold_keeps HHN.out hk5 HBN.out).on hb6)
       have HR6 := Lib.hid ((HRN.out.step hk5 hg5).below hb6)
       have HK6 := Lib.hid (Wi.ownsRow_on (owns_keeps HKN.out hk5 (fun b e f => HNK.out b e f)) hb6)
       have HNK6 := Lib.hid (show ∀ b', (Value.slice (some ⟨g, 0, none⟩) ks.length c6).ownBlock = some b' → ¬ F5 b' from fun b' e f => (hg5.1 b' f).elim (HNK.out b' e) (fun q => by have := (HKN.out.lt b' e).2; omega))
       have HT6 := Lib.hid ((hold_keeps HT13.out hk5 HNW.out).on hb6)
       have HP6' := Lib.hid (show Hold (w5.alloc (.cells (Rv.cells ⟨r,.slice A5 r.c.rs.length c5,.slice A7 r.c.ws.length c7⟩).toArray 67)) w5.heap.size 67 (Rv.cells ⟨r,.slice A5 r.c.rs.length c5,.slice A7 r.c.ws.length c7⟩) from Wi.Hold.new w5 (Rv.cells ⟨r,.slice A5 r.c.rs.length c5,.slice A7 r.c.ws.length c7⟩) 67)
       have HTP := Lib.hid (show Txt (w5.alloc (.cells (Rv.cells ⟨r,.slice A5 r.c.rs.length c5,.slice A7 r.c.ws.length c7⟩).toArray 67)) ⟨r,.slice A5 r.c.rs.length c5,.slice A7 r.c.ws.length c7⟩ from ⟨(Wi.RowN.of_owns o1).below hb6, (Wi.RowN.of_owns o2).below hb6⟩)
       have HGET := Lib.hid (Rf.get_there (sf : Int) (n : Int) k1 k2 HR6.out.rows (by have := HYB.out; omega) HKM.out)
       clear hv5 o1 o2 hL5 hk5 hg5 hlow5 hF5 hb6 HGT
       have z0 := hold_cell HH6.out 0 rfl
       have z1 := hold_cell HH6.out 1 rfl
       have z2 := hold_cell HH6.out 2 rfl
       have t0 := hold_cell HT6.out 0 rfl
       have t1 := hold_cell HT6.out 1 rfl
       go_wp2_with (first
        | (with_reducible refine Wi.wpList_store_fresh rfl 67 _ _ rfl w5.heap.size rfl 67 _ (Rv.cells ⟨r,.slice A5 r.c.rs.length c5,.slice A7 r.c.ws.length c7⟩) rfl rfl rfl (by kernel_rfl) rfl ?_)
        | fail)
       refine HGET.out.mono ?_
       rintro e w7 ⟨⟨r2, va2, vb2⟩, rfl, hxy⟩
       obtain ⟨hyY, hyl, hb7⟩ := hxy.out
       have hrr : r2 = r := by
        have := hyl.symm.trans HLR.out
        exact Option.some.inj this
       subst hrr
       have hty := (HR6.out.rows.tx _ hyY).below hb7
       obtain ⟨A8, c8, ea⟩ := rowN_sliceOf hty.rs
       obtain ⟨A9', c9', eb⟩ := rowN_sliceOf hty.ws
       dsimp only at ea eb
       subst ea eb
       have hv7 : (⟨r2,.slice A8 r2.c.rs.length c8,.slice A9' r2.c.ws.length c9'⟩ : Rv).val = .agg (Rv.cells ⟨r2,.slice A8 r2.c.rs.length c8,.slice A9' r2.c.ws.length c9'⟩).toArray := rfl
       rw [hv7]
       have hb8 : Below w7.heap.size w7 (w7.alloc (.cells (Rv.cells ⟨r2,.slice A8 r2.c.rs.length c8,.slice A9' r2.c.ws.length c9'⟩).toArray 67)) := below_new (Below.refl _ _)
       have hb9 := below_on hb7 hb8
       have HL8 := Lib.hid (HL6.out.below hb9)
       have HW8 := Lib.hid (below_on HW6.out hb9)
       have HH8 := Lib.hid (HH6.out.on hb9)
       have HR8 := Lib.hid (HR6.out.below hb9)
       have HK8 := Lib.hid (Wi.ownsRow_on HK6.out hb9)
       have HP8 := Lib.hid (HP6'.out.on hb9)
       have HQ8 := Lib.hid (show Hold (w7.alloc (.cells (Rv.cells ⟨r2,.slice A8 r2.c.rs.length c8,.slice A9' r2.c.ws.length c9'⟩).toArray 67)) w7.heap.size 67 (Rv.cells ⟨r2,.slice A8 r2.c.rs.length c8,.slice A9' r2.c.ws.length c9'⟩) from Wi.Hold.new w7 (Rv.cells ⟨r2,.slice A8 r2.c.rs.length c8,.slice A9' r2.c.ws.length c9'⟩) 67)
       have htp := HTP.out.below hb9
       have htq := hty.below hb8
       have HSAME := Lib.hid (Wi.dsame_rec r2 r2 htp.rs htp.ws htq.rs htq.ws (by have := HSM.out.rl; omega) (by have := HSM.out.wl; omega))
       rw [sameRec_refl] at HSAME
       have HPR := Lib.hid (show (w7.alloc (.cells (Rv.cells ⟨r2,.slice A8 r2.c.rs.length c8,.slice A9' r2.c.ws.length c9'⟩).toArray 67)).rangeAt w5.heap.size 0 (Rv.cells ⟨r2,.slice A5 r2.c.rs.length c5,.slice A7 r2.c.ws.length c7⟩) from fun q u hq => hold_cell HP8.out (0 + q) (by rw [Nat.zero_add]; exact hq))
       have HQR := Lib.hid (show (w7.alloc (.cells (Rv.cells ⟨r2,.slice A8 r2.c.rs.length c8,.slice A9' r2.c.ws.length c9'⟩).toArray 67)).rangeAt w7.heap.size 0 (Rv.cells ⟨r2,.slice A8 r2.c.rs.length c8,.slice A9' r2.c.ws.length c9'⟩) from fun q u hq => hold_cell HQ8.out (0 + q) (by rw [Nat.zero_add]; exact hq))
       clear hxy hyY hyl hb7 hty hv7 hb8 hb9 htp htq z0 z1 z2 t0 t1 HGET
       go_wp2_with (first
        | (with_reducible refine Wi.wpList_store_fresh rfl 67 _ _ rfl w7.heap.size rfl 67 _ (Rv.cells ⟨r2,.slice A8 r2.c.rs.length c8,.slice A9' r2.c.ws.length c9'⟩) rfl rfl rfl (by kernel_rfl) rfl ?_)
        | (refine Wi.wpList_load_mid_g ?_ 67 (.tmp 14) rfl w5.heap.size 0 rfl _ _ HPR.out Tryz.underlying67 rfl (by kernel_rfl) ?_; rfl)
        | (refine Wi.wpList_load_mid_g ?_ 67 (.tmp 16) rfl w7.heap.size 0 rfl _ _ HQR.out Tryz.underlying67 rfl (by kernel_rfl) ?_; rfl)
        | fail)
       refine HSAME.out.mono ?_
       rintro e w9 ⟨rfl, hba⟩
       have HREL : Hid (Stands2 w w9 gx gd br n sf σ (.slice A1 Y.length c1) Y (.slice (some ⟨g, 0, none⟩) ks.length c6) ks) := Lib.hid ⟨F5, HL8.out.below hba, HF6.out, HN6.out, HH8.out.on hba, HR8.out.below hba, Wi.ownsRow_on HK8.out hba, HNK6.out, below_on HW8.out hba⟩
       clear hba HSAME
       go_wp2
       go_roundw
       case rel =>
        exact ⟨j + 1, by go_num, HJ.out, HREL⟩
       case measure => simp [intOf]; have := HJ.out; omega
      ·obtain rfl : j = ks.length := by omega
       have hj1 : ¬ ((ks.length : Int) < (ks.length : Int)) := by omega
       have HWL := Lib.hid hlow
       clear hL hF hbr hh hR hrw hnk hlow
       go_wp2_with (fail)
       refine (awake_any (HT.out.below HWL.out)).mono ?_
       rintro e wb ⟨rfl, hb⟩
       have HWb := Lib.hid (below_on HWL.out hb)
       clear hb
       go_wp2
       go_ret
       exact ⟨rfl, HWb.out⟩
end Ds
end Go.Proofs.YtdachohcjpjblaaGreatDoor
