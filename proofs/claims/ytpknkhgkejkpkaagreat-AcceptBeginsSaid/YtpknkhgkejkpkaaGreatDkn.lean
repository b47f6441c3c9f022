/- The document's Against; no conditions but those that they name. -/
import Derived.Test.YtpknkhgkejkpkaaGreatSlo
import Derived.Test.YtpknkhgkejkpkaaGreatCln
import Derived.Test.YtpknkhgkejkpkaaGreatCfl
import Derived.Test.YtpknkhgkejkpkaaGreatWiF

namespace Go.Proofs.YtpknkhgkejkpkaaGreat
open Go.ChangeShapes Go.WideShapes Go.ChangeAt Go.RowKit

attribute [local go_sem ↓] run_same_inst
set_option maxHeartbeats 4000000 in
set_option maxRecDepth 100000 in
theorem dagainst_any {w : World} {v : Value} {X : List Rv} (h : Rows w v X) (hl : X.length ≤ 1000) (hm : ∀ x ∈ X, M.Mod x.r.c) (i1 i2 : Int) (c : M.Cmd) {ua ub : Value} (g : Rds w ua c.rs) (g' : Wrs w ub c.ws) (G : M.Mod c) :
    Calls Tryz.prog 63 #[v, .agg #[.int .i64 i1, .int .i64 i2], .agg #[.int .i64 c.k, .int .i64 c.tc, .int .i64 c.tn, .int .i64 c.tt, .int .i64 c.tk, .int .i64 c.sh, ua, ub, .bool c.cm]] w (MadeX (confs X (i1, i2) c) w) := by
  obtain ⟨i0, hi, hz0, hz1, hz2⟩ := info_parts info44
  obtain ⟨A, cc, rfl⟩ := rowN_sliceOf h.row
  obtain ⟨A5, c5, ec⟩ := rowN_sliceOf g
  obtain ⟨A6, c6, ed⟩ := rowN_sliceOf g'
  subst ec ed
  have hb0 : Below w.heap.size w ((w.alloc (.cells #[.int .i64 i1, .int .i64 i2] 32)).alloc (.cells #[.int .i64 c.k, .int .i64 c.tc, .int .i64 c.tn, .int .i64 c.tt, .int .i64 c.tk, .int .i64 c.sh, (.slice A5 c.rs.length c5), (.slice A6 c.ws.length c6), .bool c.cm] 30)) := below_new (below_new (Below.refl _ _))
  have hp : ((w.alloc (.cells #[.int .i64 i1, .int .i64 i2] 32)).alloc (.cells #[.int .i64 c.k, .int .i64 c.tc, .int .i64 c.tn, .int .i64 c.tt, .int .i64 c.tk, .int .i64 c.sh, (.slice A5 c.rs.length c5), (.slice A6 c.ws.length c6), .bool c.cm] 30)).rangeAt w.heap.size 0 [.int .i64 i1, .int .i64 i2] := range_on (by simp) (hold_range (Hold.new w [.int .i64 i1, .int .i64 i2] 32) 0 _ (fun j v hj => by rw [Nat.zero_add]; exact hj)) (below_new (Below.refl _ _))
  have hq : ((w.alloc (.cells #[.int .i64 i1, .int .i64 i2] 32)).alloc (.cells #[.int .i64 c.k, .int .i64 c.tc, .int .i64 c.tn, .int .i64 c.tt, .int .i64 c.tk, .int .i64 c.sh, (.slice A5 c.rs.length c5), (.slice A6 c.ws.length c6), .bool c.cm] 30)).rangeAt (w.heap.size + 1) 0 [.int .i64 c.k, .int .i64 c.tc, .int .i64 c.tn, .int .i64 c.tt, .int .i64 c.tk, .int .i64 c.sh, (.slice A5 c.rs.length c5), (.slice A6 c.ws.length c6), .bool c.cm] := by
    have := hold_range (Hold.new (w.alloc (.cells #[.int .i64 i1, .int .i64 i2] 32)) [.int .i64 c.k, .int .i64 c.tc, .int .i64 c.tn, .int .i64 c.tt, .int .i64 c.tk, .int .i64 c.sh, (.slice A5 c.rs.length c5), (.slice A6 c.ws.length c6), .bool c.cm] 30) 0 [.int .i64 c.k, .int .i64 c.tc, .int .i64 c.tn, .int .i64 c.tt, .int .i64 c.tk, .int .i64 c.sh, (.slice A5 c.rs.length c5), (.slice A6 c.ws.length c6), .bool c.cm] (fun j v hj => by rw [Nat.zero_add]; exact hj)
    simpa using this
  have hs0 : ((w.alloc (.cells #[.int .i64 i1, .int .i64 i2] 32)).alloc (.cells #[.int .i64 c.k, .int .i64 c.tc, .int .i64 c.tn, .int .i64 c.tt, .int .i64 c.tk, .int .i64 c.sh, (.slice A5 c.rs.length c5), (.slice A6 c.ws.length c6), .bool c.cm] 30)).heap.size = w.heap.size + 1 + 1 := by simp
  have HG := Lib.hid (g.below hb0)
  have HG' := Lib.hid (g'.below hb0)
  have HP := Lib.hid hp
  have HQ := Lib.hid hq
  have HB := Lib.hid hb0
  have HH := Lib.hid (h.below hb0)
  have HM := Lib.hid hm
  have HKL := Lib.hid (show ∀ k, (kept X (confB (i1, i2) c) k).length ≤ k from fun k => kept_len k)
  clear h g g' hp hq hb0 hm
  go_enter Tryz.func63, Tryz.ntmps63
  go_wp2
  generalize ((w.alloc (.cells #[.int .i64 i1, .int .i64 i2] 32)).alloc (.cells #[.int .i64 c.k, .int .i64 c.tc, .int .i64 c.tn, .int .i64 c.tt, .int .i64 c.tk, .int .i64 c.sh, (.slice A5 c.rs.length c5), (.slice A6 c.ws.length c6), .bool c.cm] 30)) = w0 at *
  have HS0 := Lib.hid hs0
  clear hs0
  go_loopw [7, 8] (fun u i wr => ∃ k : Nat, i = .int .i64 k ∧ k ≤ X.length ∧ Hid (Below w0.heap.size w0 wr) ∧ Hid (wr.ownsRow w0.heap.size 41 25 u (kept X (confB (i1, i2) c) k).length ((kept X (confB (i1, i2) c) k).flatMap Rv.cells))) (fun _ i _ => X.length - (intOf i).toNat)
  case atStart => exact ⟨0, rfl, Nat.zero_le _, Lib.hid (Below.refl _ _), Lib.hid (World.ownsRow_nil _ _ _ _)⟩
  case round =>
    obtain ⟨k, rfl, hk, HW, HO⟩ := hrel
    by_cases hlt : k < X.length
    · obtain ⟨x, hx⟩ : ∃ x, X[k]? = some x := ⟨_, List.getElem?_eq_getElem hlt⟩
      have hxm : x ∈ X := List.mem_of_getElem? hx
      have HY := Lib.hid (show (lastB (keysOf X) k && confB (i1, i2) c x) = true → kept X (confB (i1, i2) c) (k + 1) = kept X (confB (i1, i2) c) k ++ [x] from kept_yes hx)
      have HN := Lib.hid (show (lastB (keysOf X) k && confB (i1, i2) c x) = false → kept X (confB (i1, i2) c) (k + 1) = kept X (confB (i1, i2) c) k from kept_no hx)
      have hkl := HKL.out k
      have HXK := Lib.hid hx
      have hk1 : (k : Int) < (X.length : Int) := by omega
      obtain ⟨b, o, rfl, hbl, hrr⟩ := rowN_range (HH.out.below HW.out).row hx
      have HX := Lib.hid ((HH.out.tx x hxm).below HW.out)
      have HMX := Lib.hid (HM.out x hxm)
      obtain ⟨r, va, vb⟩ := x
      obtain ⟨A3, c3, ea⟩ := rowN_sliceOf HX.out.rs
      obtain ⟨A4, c4, eb⟩ := rowN_sliceOf HX.out.ws
      dsimp only at ea eb
      subst ea eb
      have HL : Hid (∀ x : After wr, Calls Tryz.prog 89 #[.slice (some ⟨b, o, none⟩) X.length cc, .int .i64 k] x.out fun e w' => e = .returned (.bool (lastB (keysOf X) k)) ∧ Below x.out.heap.size x.out w') := Lib.hid fun x => last_any ((HH.out.below HW.out).below x.below) hl hlt
      have HIF : Hid (∀ x : After wr, Calls Tryz.prog 24 #[.agg #[.int .i64 r.c.k, .int .i64 r.c.tc, .int .i64 r.c.tn, .int .i64 r.c.tt, .int .i64 r.c.tk, .int .i64 r.c.sh, (.slice A3 r.c.rs.length c3), (.slice A4 r.c.ws.length c4), .bool r.c.cm], .agg #[.int .i64 c.k, .int .i64 c.tc, .int .i64 c.tn, .int .i64 c.tt, .int .i64 c.tk, .int .i64 c.sh, (.slice A5 c.rs.length c5), (.slice A6 c.ws.length c6), .bool c.cm]] x.out fun e w' => e = .returned (.bool (M.interB r.c c)) ∧ Below x.out.heap.size x.out w') := Lib.hid fun x => dinter_any r.c c (HX.out.below x.below).rs (HX.out.below x.below).ws ((HG.out.below HW.out).below x.below) ((HG'.out.below HW.out).below x.below) HMX.out G
      have HRR := Lib.hid (show wr.rangeAt b (o + k * 25) [.int .i64 r.ir, .int .i64 r.is, .int .i64 r.st, .int .i64 r.pn, .int .i64 r.pr, .int .i64 r.bn, .int .i64 r.br, .int .i64 r.c.k, .int .i64 r.c.tc, .int .i64 r.c.tn, .int .i64 r.c.tt, .int .i64 r.c.tk, .int .i64 r.c.sh, (.slice A3 r.c.rs.length c3), (.slice A4 r.c.ws.length c4), .bool r.c.cm, .int .i64 r.sq, .int .i64 r.d0, .int .i64 r.d1, .int .i64 r.d2, .int .i64 r.d3, .int .i64 r.d4, .int .i64 r.d5, .int .i64 r.d6, .bool r.kp] from hrr)
      have HI := Lib.hid (show wr.rangeAt b (o + k * 25) [.int .i64 r.ir, .int .i64 r.is] from fun j v hj => HRR.out j v (by
        match j, hj with
        | 0, hj => exact hj
        | 1, hj => exact hj))
      have HC := Lib.hid (show wr.rangeAt b (o + k * 25 + 7) [.int .i64 r.c.k, .int .i64 r.c.tc, .int .i64 r.c.tn, .int .i64 r.c.tt, .int .i64 r.c.tk, .int .i64 r.c.sh, (.slice A3 r.c.rs.length c3), (.slice A4 r.c.ws.length c4), .bool r.c.cm] from fun j v hj => by
        rw [Nat.add_assoc]
        refine HRR.out (7 + j) v ?_
        match j, hj with
        | 0, hj => exact hj
        | 1, hj => exact hj
        | 2, hj => exact hj
        | 3, hj => exact hj
        | 4, hj => exact hj
        | 5, hj => exact hj
        | 6, hj => exact hj
        | 7, hj => exact hj
        | 8, hj => exact hj)
      have HST := Lib.hid (show wr.cell? ⟨b, o + k * 25 + 2, none⟩ = some (.int .i64 r.st) from HRR.out 2 _ rfl)
      have HP1 := Lib.hid (range_on (by have := HS0.out; omega) HP.out HW.out)
      have HQ1 := Lib.hid (range_on (by have := HS0.out; omega) HQ.out HW.out)
      have hpl : w.heap.size < wr.heap.size := by have := HS0.out; have := HW.out.size; omega
      have hql : w.heap.size + 1 < wr.heap.size := by have := HS0.out; have := HW.out.size; omega
      clear hx hxm hrr HX
      rcases hl1 : lastB (keysOf X) k with _ | _
      · rw [hl1] at HL
        have HNX := Lib.hid (HN.out (by rw [hl1]; rfl))
        go_wp2
        refine wp_region_after (by kernel_rfl) (by kernel_rfl) ?_
        have hx := @After.cell wr
        have hst := HST.out
        repeat (first
          | (go_big_quiet_want; (with_reducible refine quiet_load_mid 32 _ rfl b (o + k * 25) rfl [.int .i64 r.ir, .int .i64 r.is] _ hbl HI.out Tryz.underlying32 rfl (by kernel_rfl) ?_); go_simp; go_big_quiet_on)
          | (go_big_quiet_want; (with_reducible refine quiet_load_mid 32 _ rfl w.heap.size 0 rfl [.int .i64 i1, .int .i64 i2] _ hpl HP1.out Tryz.underlying32 rfl (by kernel_rfl) ?_); go_simp; go_big_quiet_on)
          | (go_big_quiet_want; (with_reducible refine quiet_load_mid 30 _ rfl b (o + k * 25 + 7) rfl [.int .i64 r.c.k, .int .i64 r.c.tc, .int .i64 r.c.tn, .int .i64 r.c.tt, .int .i64 r.c.tk, .int .i64 r.c.sh, (.slice A3 r.c.rs.length c3), (.slice A4 r.c.ws.length c4), .bool r.c.cm] _ hbl HC.out Tryz.underlying30 rfl (by kernel_rfl) ?_); go_simp; go_big_quiet_on)
          | (go_big_quiet_want; (with_reducible refine quiet_load_mid 30 _ rfl (w.heap.size + 1) 0 rfl [.int .i64 c.k, .int .i64 c.tc, .int .i64 c.tn, .int .i64 c.tt, .int .i64 c.tk, .int .i64 c.sh, (.slice A5 c.rs.length c5), (.slice A6 c.ws.length c6), .bool c.cm] _ hql HQ1.out Tryz.underlying30 rfl (by kernel_rfl) ?_); go_simp; go_big_quiet_on)
          | (go_big_quiet_step (first | (go_at_call 89; exact Calls.after_of (HL.out _)) | (go_at_call 24; exact Calls.after_of (HIF.out _)))))
        refine wpQuiet_nil ?_
        rintro _ ⟨x, rfl⟩
        have HW2 := Lib.hid (below_on HW.out x.below)
        have HO2 := Lib.hid (ownsRow_on HO.out x.below)
        go_wp2
        go_roundw
        case rel => exact ⟨k + 1, by go_num, hlt, HW2, by rw [HNX.out]; exact HO2⟩
        case measure => simp [intOf]; omega
      · rw [hl1] at HL
        rcases e0 : M.eq2 r.ir r.is i1 i2 with _ | _
        · rcases hd : decide (0 < r.st) with _ | _
          · skip
            have HNX := Lib.hid (HN.out (by rw [hl1]; unfold confB; dsimp only; rw [e0, hd]; rfl))
            go_wp2
            refine wp_region_after (by kernel_rfl) (by kernel_rfl) ?_
            have hx := @After.cell wr
            have hst := HST.out
            repeat (first
              | (go_big_quiet_want; (with_reducible refine quiet_load_mid 32 _ rfl b (o + k * 25) rfl [.int .i64 r.ir, .int .i64 r.is] _ hbl HI.out Tryz.underlying32 rfl (by kernel_rfl) ?_); go_simp; go_big_quiet_on)
              | (go_big_quiet_want; (with_reducible refine quiet_load_mid 32 _ rfl w.heap.size 0 rfl [.int .i64 i1, .int .i64 i2] _ hpl HP1.out Tryz.underlying32 rfl (by kernel_rfl) ?_); go_simp; go_big_quiet_on)
              | (go_big_quiet_want; (with_reducible refine quiet_load_mid 30 _ rfl b (o + k * 25 + 7) rfl [.int .i64 r.c.k, .int .i64 r.c.tc, .int .i64 r.c.tn, .int .i64 r.c.tt, .int .i64 r.c.tk, .int .i64 r.c.sh, (.slice A3 r.c.rs.length c3), (.slice A4 r.c.ws.length c4), .bool r.c.cm] _ hbl HC.out Tryz.underlying30 rfl (by kernel_rfl) ?_); go_simp; go_big_quiet_on)
              | (go_big_quiet_want; (with_reducible refine quiet_load_mid 30 _ rfl (w.heap.size + 1) 0 rfl [.int .i64 c.k, .int .i64 c.tc, .int .i64 c.tn, .int .i64 c.tt, .int .i64 c.tk, .int .i64 c.sh, (.slice A5 c.rs.length c5), (.slice A6 c.ws.length c6), .bool c.cm] _ hql HQ1.out Tryz.underlying30 rfl (by kernel_rfl) ?_); go_simp; go_big_quiet_on)
              | (go_big_quiet_step (first | (go_at_call 89; exact Calls.after_of (HL.out _)) | (go_at_call 24; exact Calls.after_of (HIF.out _)))))
            refine wpQuiet_nil ?_
            rintro _ ⟨x, rfl⟩
            have HW2 := Lib.hid (below_on HW.out x.below)
            have HO2 := Lib.hid (ownsRow_on HO.out x.below)
            go_wp2
            go_roundw
            case rel => exact ⟨k + 1, by go_num, hlt, HW2, by rw [HNX.out]; exact HO2⟩
            case measure => simp [intOf]; omega
          · rcases hif : M.interB r.c c with _ | _
            · rw [hif] at HIF
              have HNX := Lib.hid (HN.out (by rw [hl1]; unfold confB; dsimp only; rw [e0, hd, hif]; rfl))
              go_wp2
              refine wp_region_after (by kernel_rfl) (by kernel_rfl) ?_
              have hx := @After.cell wr
              have hst := HST.out
              repeat (first
                | (go_big_quiet_want; (with_reducible refine quiet_load_mid 32 _ rfl b (o + k * 25) rfl [.int .i64 r.ir, .int .i64 r.is] _ hbl HI.out Tryz.underlying32 rfl (by kernel_rfl) ?_); go_simp; go_big_quiet_on)
                | (go_big_quiet_want; (with_reducible refine quiet_load_mid 32 _ rfl w.heap.size 0 rfl [.int .i64 i1, .int .i64 i2] _ hpl HP1.out Tryz.underlying32 rfl (by kernel_rfl) ?_); go_simp; go_big_quiet_on)
                | (go_big_quiet_want; (with_reducible refine quiet_load_mid 30 _ rfl b (o + k * 25 + 7) rfl [.int .i64 r.c.k, .int .i64 r.c.tc, .int .i64 r.c.tn, .int .i64 r.c.tt, .int .i64 r.c.tk, .int .i64 r.c.sh, (.slice A3 r.c.rs.length c3), (.slice A4 r.c.ws.length c4), .bool r.c.cm] _ hbl HC.out Tryz.underlying30 rfl (by kernel_rfl) ?_); go_simp; go_big_quiet_on)
                | (go_big_quiet_want; (with_reducible refine quiet_load_mid 30 _ rfl (w.heap.size + 1) 0 rfl [.int .i64 c.k, .int .i64 c.tc, .int .i64 c.tn, .int .i64 c.tt, .int .i64 c.tk, .int .i64 c.sh, (.slice A5 c.rs.length c5), (.slice A6 c.ws.length c6), .bool c.cm] _ hql HQ1.out Tryz.underlying30 rfl (by kernel_rfl) ?_); go_simp; go_big_quiet_on)
                | (go_big_quiet_step (first | (go_at_call 89; exact Calls.after_of (HL.out _)) | (go_at_call 24; exact Calls.after_of (HIF.out _)))))
              refine wpQuiet_nil ?_
              rintro _ ⟨x, rfl⟩
              have HW2 := Lib.hid (below_on HW.out x.below)
              have HO2 := Lib.hid (ownsRow_on HO.out x.below)
              go_wp2
              go_roundw
              case rel => exact ⟨k + 1, by go_num, hlt, HW2, by rw [HNX.out]; exact HO2⟩
              case measure => simp [intOf]; omega
            · rw [hif] at HIF
              have HYX := Lib.hid (HY.out (by rw [hl1]; unfold confB; dsimp only; rw [e0, hd, hif]; rfl))
              go_wp2
              refine wp_region_after (by kernel_rfl) (by kernel_rfl) ?_
              have hx := @After.cell wr
              have hst := HST.out
              repeat (first
                | (go_big_quiet_want; (with_reducible refine quiet_load_mid 32 _ rfl b (o + k * 25) rfl [.int .i64 r.ir, .int .i64 r.is] _ hbl HI.out Tryz.underlying32 rfl (by kernel_rfl) ?_); go_simp; go_big_quiet_on)
                | (go_big_quiet_want; (with_reducible refine quiet_load_mid 32 _ rfl w.heap.size 0 rfl [.int .i64 i1, .int .i64 i2] _ hpl HP1.out Tryz.underlying32 rfl (by kernel_rfl) ?_); go_simp; go_big_quiet_on)
                | (go_big_quiet_want; (with_reducible refine quiet_load_mid 30 _ rfl b (o + k * 25 + 7) rfl [.int .i64 r.c.k, .int .i64 r.c.tc, .int .i64 r.c.tn, .int .i64 r.c.tt, .int .i64 r.c.tk, .int .i64 r.c.sh, (.slice A3 r.c.rs.length c3), (.slice A4 r.c.ws.length c4), .bool r.c.cm] _ hbl HC.out Tryz.underlying30 rfl (by kernel_rfl) ?_); go_simp; go_big_quiet_on)
                | (go_big_quiet_want; (with_reducible refine quiet_load_mid 30 _ rfl (w.heap.size + 1) 0 rfl [.int .i64 c.k, .int .i64 c.tc, .int .i64 c.tn, .int .i64 c.tt, .int .i64 c.tk, .int .i64 c.sh, (.slice A5 c.rs.length c5), (.slice A6 c.ws.length c6), .bool c.cm] _ hql HQ1.out Tryz.underlying30 rfl (by kernel_rfl) ?_); go_simp; go_big_quiet_on)
                | (go_big_quiet_step (first | (go_at_call 89; exact Calls.after_of (HL.out _)) | (go_at_call 24; exact Calls.after_of (HIF.out _)))))
              refine wpQuiet_nil ?_
              rintro _ ⟨x, rfl⟩
              have HW2 := Lib.hid (below_on HW.out x.below)
              have HO2 := Lib.hid (ownsRow_on HO.out x.below)
              have HRR2 := Lib.hid (range_on hbl HRR.out x.below)
              generalize x.out = w2 at *
              have HS2 := Lib.hid (show w0.heap.size ≤ w2.heap.size from HW2.out.size)
              clear x hx hst
              go_wp2_with (first
                | (with_reducible refine wpList_load_mid rfl 41 _ rfl b (o + k * 25) rfl [.int .i64 r.ir, .int .i64 r.is, .int .i64 r.st, .int .i64 r.pn, .int .i64 r.pr, .int .i64 r.bn, .int .i64 r.br, .int .i64 r.c.k, .int .i64 r.c.tc, .int .i64 r.c.tn, .int .i64 r.c.tt, .int .i64 r.c.tk, .int .i64 r.c.sh, (.slice A3 r.c.rs.length c3), (.slice A4 r.c.ws.length c4), .bool r.c.cm, .int .i64 r.sq, .int .i64 r.d0, .int .i64 r.d1, .int .i64 r.d2, .int .i64 r.d3, .int .i64 r.d4, .int .i64 r.d5, .int .i64 r.d6, .bool r.kp] _ HRR2.out Tryz.underlying41 rfl (by kernel_rfl) ?_)
                | (with_reducible refine wpList_build44 rfl (.tmp 48) rfl ⟨r, .slice A3 r.c.rs.length c3, .slice A4 r.c.ws.length c4⟩ rfl ?_)
                | (at_builtin; refine wpList_append_own _ rfl _ _ 22 rfl w0.heap.size 41 i0 Rv.zero.val 25 232 Tryz.underlying22 hi hz0 hz1 hz2 rfl (by decide) _ _ _ rfl (HO2.out.alloc _) ⟨w2.heap.size, 0, none⟩ 1 1 (Rv.cells ⟨r, .slice A3 r.c.rs.length c3, .slice A4 r.c.ws.length c4⟩) rfl rfl (rec_new _ ⟨r, .slice A3 r.c.rs.length c3, .slice A4 r.c.ws.length c4⟩) (rec_one rfl rfl) (by unfold maxLen; omega) (by omega) (by simp; have := HS2.out; omega) ?_; intro v' w6 hown' hgrow hnil)
                | fail)
              have hal : Below w2.heap.size w2 (w2.alloc (.cells (Rv.cells ⟨r, .slice A3 r.c.rs.length c3, .slice A4 r.c.ws.length c4⟩).toArray 41)) := below_new (Below.refl _ _)
              have HO6 := Lib.hid (show w6.ownsRow w0.heap.size 41 25 v' (kept X (confB (i1, i2) c) (k + 1)).length ((kept X (confB (i1, i2) c) (k + 1)).flatMap Rv.cells) by rw [HYX.out, flat_snoc, List.length_append]; exact hown')
              have HW6 := Lib.hid ((below_on HW2.out hal).grown hgrow (below_on HW2.out hal).size (fun i hi => ((ownsRow_on HO2.out hal).lt i hi).1))
              clear hown' hgrow hnil hal
              go_wp2
              go_roundw
              case rel => exact ⟨k + 1, by go_num, hlt, HW6, HO6⟩
              case measure => simp [intOf]; omega
        · skip
          have HNX := Lib.hid (HN.out (by rw [hl1]; unfold confB; dsimp only; rw [e0]; rfl))
          go_wp2
          refine wp_region_after (by kernel_rfl) (by kernel_rfl) ?_
          have hx := @After.cell wr
          have hst := HST.out
          repeat (first
            | (go_big_quiet_want; (with_reducible refine quiet_load_mid 32 _ rfl b (o + k * 25) rfl [.int .i64 r.ir, .int .i64 r.is] _ hbl HI.out Tryz.underlying32 rfl (by kernel_rfl) ?_); go_simp; go_big_quiet_on)
            | (go_big_quiet_want; (with_reducible refine quiet_load_mid 32 _ rfl w.heap.size 0 rfl [.int .i64 i1, .int .i64 i2] _ hpl HP1.out Tryz.underlying32 rfl (by kernel_rfl) ?_); go_simp; go_big_quiet_on)
            | (go_big_quiet_want; (with_reducible refine quiet_load_mid 30 _ rfl b (o + k * 25 + 7) rfl [.int .i64 r.c.k, .int .i64 r.c.tc, .int .i64 r.c.tn, .int .i64 r.c.tt, .int .i64 r.c.tk, .int .i64 r.c.sh, (.slice A3 r.c.rs.length c3), (.slice A4 r.c.ws.length c4), .bool r.c.cm] _ hbl HC.out Tryz.underlying30 rfl (by kernel_rfl) ?_); go_simp; go_big_quiet_on)
            | (go_big_quiet_want; (with_reducible refine quiet_load_mid 30 _ rfl (w.heap.size + 1) 0 rfl [.int .i64 c.k, .int .i64 c.tc, .int .i64 c.tn, .int .i64 c.tt, .int .i64 c.tk, .int .i64 c.sh, (.slice A5 c.rs.length c5), (.slice A6 c.ws.length c6), .bool c.cm] _ hql HQ1.out Tryz.underlying30 rfl (by kernel_rfl) ?_); go_simp; go_big_quiet_on)
            | (go_big_quiet_step (first | (go_at_call 89; exact Calls.after_of (HL.out _)) | (go_at_call 24; exact Calls.after_of (HIF.out _)))))
          refine wpQuiet_nil ?_
          rintro _ ⟨x, rfl⟩
          have HW2 := Lib.hid (below_on HW.out x.below)
          have HO2 := Lib.hid (ownsRow_on HO.out x.below)
          go_wp2
          go_roundw
          case rel => exact ⟨k + 1, by go_num, hlt, HW2, by rw [HNX.out]; exact HO2⟩
          case measure => simp [intOf]; omega
    · obtain rfl : k = X.length := by omega
      have HBE := Lib.hid (below_on HB.out HW.out)
      have HOE := Lib.hid (ownsRow_baseN HO.out (show w.heap.size ≤ w0.heap.size from HB.out.size))
      go_wp2
      go_ret
      exact ⟨_, rfl, HOE.out, HBE.out⟩
end Go.Proofs.YtpknkhgkejkpkaaGreat
