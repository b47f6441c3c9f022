/- The walk of AcceptKeeps; no conditions. -/
import Derived.Test.YtpknkhgkejkpkaaGreatAwk
import Derived.Test.YtpknkhgkejkpkaaGreatSmn
import Derived.Test.YtpknkhgkejkpkaaGreatDkw
import Derived.Test.YtpknkhgkejkpkaaGreatPd
namespace Go.Proofs.YtpknkhgkejkpkaaGreat
open Go.ChangeShapes Go.WideShapes Go.ChangeAt Go.RowKit

attribute [local go_sem ↓] run_same_inst
set_option maxHeartbeats 16000000 in
set_option maxRecDepth 100000 in
theorem keeps_law (p : Int) (m : M.Msg) (w : World) {v va vb : Value} {X : List Rv} (h : Rows w v X) (_hq : Sqs X) (hm : Txt w ⟨m.r, va, vb⟩) :
    Calls Tryz.prog 4 #[v, .int .i64 p, .agg #[.int .i64 m.k, .int .i64 m.fr, .int .i64 m.to, .int .i64 m.bn, .int .i64 m.br, .int .i64 m.r.ir, .int .i64 m.r.is, .int .i64 m.r.st, .int .i64 m.r.pn, .int .i64 m.r.pr, .int .i64 m.r.bn, .int .i64 m.r.br, .int .i64 m.r.c.k, .int .i64 m.r.c.tc, .int .i64 m.r.c.tn, .int .i64 m.r.c.tt, .int .i64 m.r.c.tk, .int .i64 m.r.c.sh, va, vb, .bool m.r.c.cm, .int .i64 m.r.sq, .int .i64 m.r.d0, .int .i64 m.r.d1, .int .i64 m.r.d2, .int .i64 m.r.d3, .int .i64 m.r.d4, .int .i64 m.r.d5, .int .i64 m.r.d6, .bool m.r.kp]] w fun e w' => e = .returned (.bool true) ∧ Below w.heap.size w w' := by
  obtain ⟨A, cc, rfl⟩ := rowN_sliceOf h.row
  have H0 := Lib.hid (show Hold (w.alloc (.cells #[.int .i64 m.k, .int .i64 m.fr, .int .i64 m.to, .int .i64 m.bn, .int .i64 m.br, .int .i64 m.r.ir, .int .i64 m.r.is, .int .i64 m.r.st, .int .i64 m.r.pn, .int .i64 m.r.pr, .int .i64 m.r.bn, .int .i64 m.r.br, .int .i64 m.r.c.k, .int .i64 m.r.c.tc, .int .i64 m.r.c.tn, .int .i64 m.r.c.tt, .int .i64 m.r.c.tk, .int .i64 m.r.c.sh, va, vb, .bool m.r.c.cm, .int .i64 m.r.sq, .int .i64 m.r.d0, .int .i64 m.r.d1, .int .i64 m.r.d2, .int .i64 m.r.d3, .int .i64 m.r.d4, .int .i64 m.r.d5, .int .i64 m.r.d6, .bool m.r.kp] 49)) w.heap.size 49 [.int .i64 m.k, .int .i64 m.fr, .int .i64 m.to, .int .i64 m.bn, .int .i64 m.br, .int .i64 m.r.ir, .int .i64 m.r.is, .int .i64 m.r.st, .int .i64 m.r.pn, .int .i64 m.r.pr, .int .i64 m.r.bn, .int .i64 m.r.br, .int .i64 m.r.c.k, .int .i64 m.r.c.tc, .int .i64 m.r.c.tn, .int .i64 m.r.c.tt, .int .i64 m.r.c.tk, .int .i64 m.r.c.sh, va, vb, .bool m.r.c.cm, .int .i64 m.r.sq, .int .i64 m.r.d0, .int .i64 m.r.d1, .int .i64 m.r.d2, .int .i64 m.r.d3, .int .i64 m.r.d4, .int .i64 m.r.d5, .int .i64 m.r.d6, .bool m.r.kp] from Hold.new w [.int .i64 m.k, .int .i64 m.fr, .int .i64 m.to, .int .i64 m.bn, .int .i64 m.br, .int .i64 m.r.ir, .int .i64 m.r.is, .int .i64 m.r.st, .int .i64 m.r.pn, .int .i64 m.r.pr, .int .i64 m.r.bn, .int .i64 m.r.br, .int .i64 m.r.c.k, .int .i64 m.r.c.tc, .int .i64 m.r.c.tn, .int .i64 m.r.c.tt, .int .i64 m.r.c.tk, .int .i64 m.r.c.sh, va, vb, .bool m.r.c.cm, .int .i64 m.r.sq, .int .i64 m.r.d0, .int .i64 m.r.d1, .int .i64 m.r.d2, .int .i64 m.r.d3, .int .i64 m.r.d4, .int .i64 m.r.d5, .int .i64 m.r.d6, .bool m.r.kp] 49)
  have HB := Lib.hid (show Below w.heap.size w (w.alloc (.cells #[.int .i64 m.k, .int .i64 m.fr, .int .i64 m.to, .int .i64 m.bn, .int .i64 m.br, .int .i64 m.r.ir, .int .i64 m.r.is, .int .i64 m.r.st, .int .i64 m.r.pn, .int .i64 m.r.pr, .int .i64 m.r.bn, .int .i64 m.r.br, .int .i64 m.r.c.k, .int .i64 m.r.c.tc, .int .i64 m.r.c.tn, .int .i64 m.r.c.tt, .int .i64 m.r.c.tk, .int .i64 m.r.c.sh, va, vb, .bool m.r.c.cm, .int .i64 m.r.sq, .int .i64 m.r.d0, .int .i64 m.r.d1, .int .i64 m.r.d2, .int .i64 m.r.d3, .int .i64 m.r.d4, .int .i64 m.r.d5, .int .i64 m.r.d6, .bool m.r.kp] 49)) from below_new (Below.refl _ _))
  have HX := Lib.hid (h.below HB.out)
  have HM := Lib.hid (hm.below HB.out)
  have HF := few12_any HX.out m HM.out
  clear h _hq hm
  rcases hf : (fewX X && M.modB m.r.c) with _ | _
  · rw [hf] at HF
    have HFW := Lib.hid HF
    clear HF hf
    go_enter Tryz.func4, Tryz.ntmps4
    go_wp2_with (first
    | (with_reducible refine wpList_load_mid rfl 49 _ rfl w.heap.size 0 rfl [.int .i64 m.k, .int .i64 m.fr, .int .i64 m.to, .int .i64 m.bn, .int .i64 m.br, .int .i64 m.r.ir, .int .i64 m.r.is, .int .i64 m.r.st, .int .i64 m.r.pn, .int .i64 m.r.pr, .int .i64 m.r.bn, .int .i64 m.r.br, .int .i64 m.r.c.k, .int .i64 m.r.c.tc, .int .i64 m.r.c.tn, .int .i64 m.r.c.tt, .int .i64 m.r.c.tk, .int .i64 m.r.c.sh, va, vb, .bool m.r.c.cm, .int .i64 m.r.sq, .int .i64 m.r.d0, .int .i64 m.r.d1, .int .i64 m.r.d2, .int .i64 m.r.d3, .int .i64 m.r.d4, .int .i64 m.r.d5, .int .i64 m.r.d6, .bool m.r.kp] _ H0.out.cel.whole Tryz.underlying49 rfl (by kernel_rfl) ?_)
    | (go_at_call 16
       refine HFW.out.mono ?_
       rintro e w1 ⟨rfl, hb⟩
       have HB1 := Lib.hid (below_on HB.out hb)
       have HX1 := Lib.hid (HX.out.below hb)
       have HM1 := Lib.hid (HM.out.below hb)
       have M1 := Lib.hid (H0.out.on hb)
       clear hb)
    | (go_at_call 10
       refine (awake_any _).mono ?_
       rintro e wz ⟨rfl, hb⟩
       have HBZ := Lib.hid (below_on HB1.out hb)
       clear hb)
    | fail)
    go_ret
    exact ⟨rfl, HBZ.out⟩
  rw [hf] at HF
  have HFW := Lib.hid HF
  obtain ⟨hf1, hf2⟩ := (Bool.and_eq_true _ _).mp hf
  have hX := fewX_mod hf1
  have hl : X.length ≤ 1000 := Nat.le_trans (fewX_len hf1) (by decide)
  have F := M.modB_iff.1 hf2
  clear HF hf hf1 hf2
  rcases hr : rightsX X with _ | _
  · have HRX := Lib.hid hr
    clear hr
    go_enter Tryz.func4, Tryz.ntmps4
    go_wp2_with (first
    | (with_reducible refine wpList_load_mid rfl 49 _ rfl w.heap.size 0 rfl [.int .i64 m.k, .int .i64 m.fr, .int .i64 m.to, .int .i64 m.bn, .int .i64 m.br, .int .i64 m.r.ir, .int .i64 m.r.is, .int .i64 m.r.st, .int .i64 m.r.pn, .int .i64 m.r.pr, .int .i64 m.r.bn, .int .i64 m.r.br, .int .i64 m.r.c.k, .int .i64 m.r.c.tc, .int .i64 m.r.c.tn, .int .i64 m.r.c.tt, .int .i64 m.r.c.tk, .int .i64 m.r.c.sh, va, vb, .bool m.r.c.cm, .int .i64 m.r.sq, .int .i64 m.r.d0, .int .i64 m.r.d1, .int .i64 m.r.d2, .int .i64 m.r.d3, .int .i64 m.r.d4, .int .i64 m.r.d5, .int .i64 m.r.d6, .bool m.r.kp] _ H0.out.cel.whole Tryz.underlying49 rfl (by kernel_rfl) ?_)
    | (go_at_call 16
       refine HFW.out.mono ?_
       rintro e w1 ⟨rfl, hb⟩
       have HB1 := Lib.hid (below_on HB.out hb)
       have HX1 := Lib.hid (HX.out.below hb)
       have HM1 := Lib.hid (HM.out.below hb)
       have M1 := Lib.hid (H0.out.on hb)
       clear hb)
    | (go_at_call 17
       refine (rightsX_any HX1.out hX hl).mono ?_
       rintro e w2 ⟨rfl, hb⟩
       rw [HRX.out]
       have HB2 := Lib.hid (below_on HB1.out hb)
       have HX2 := Lib.hid (HX1.out.below hb)
       have HM2 := Lib.hid (HM1.out.below hb)
       have M2 := Lib.hid (M1.out.on hb)
       have M2w := M2.out.cel.whole
       clear hb)
    | (go_at_call 10
       refine (awake_any _).mono ?_
       rintro e wz ⟨rfl, hb⟩
       have HBZ := Lib.hid (below_on HB2.out hb)
       clear hb)
    | fail)
    go_ret
    exact ⟨rfl, HBZ.out⟩
  have HRX := Lib.hid hr
  have R := rights_of hr
  clear hr
  obtain ⟨s, hs⟩ : ∃ s, s = M.handle X p m := ⟨_, rfl⟩
  obtain ⟨st, er⟩ := s
  have hs1 : (M.handle X p m).1 = st := by rw [← hs]
  have hs2 : (M.handle X p m).2 = er := by rw [← hs]
  have HS := Lib.hid hs
  clear hs
  by_cases he : er = 0
  rotate_left
  · have hst : st = M.stp0 := by rw [← hs1]; exact M.handle_err (by rw [hs2]; exact he)
    obtain ⟨q1, q2⟩ := neI he
    clear hs1 hs2 he R
    subst hst
    go_enter Tryz.func4, Tryz.ntmps4
    go_wp2_with (first
    | (with_reducible refine wpList_load_mid rfl 49 _ rfl w.heap.size 0 rfl [.int .i64 m.k, .int .i64 m.fr, .int .i64 m.to, .int .i64 m.bn, .int .i64 m.br, .int .i64 m.r.ir, .int .i64 m.r.is, .int .i64 m.r.st, .int .i64 m.r.pn, .int .i64 m.r.pr, .int .i64 m.r.bn, .int .i64 m.r.br, .int .i64 m.r.c.k, .int .i64 m.r.c.tc, .int .i64 m.r.c.tn, .int .i64 m.r.c.tt, .int .i64 m.r.c.tk, .int .i64 m.r.c.sh, va, vb, .bool m.r.c.cm, .int .i64 m.r.sq, .int .i64 m.r.d0, .int .i64 m.r.d1, .int .i64 m.r.d2, .int .i64 m.r.d3, .int .i64 m.r.d4, .int .i64 m.r.d5, .int .i64 m.r.d6, .bool m.r.kp] _ H0.out.cel.whole Tryz.underlying49 rfl (by kernel_rfl) ?_)
    | (go_at_call 16
       refine HFW.out.mono ?_
       rintro e w1 ⟨rfl, hb⟩
       have HB1 := Lib.hid (below_on HB.out hb)
       have HX1 := Lib.hid (HX.out.below hb)
       have HM1 := Lib.hid (HM.out.below hb)
       have M1 := Lib.hid (H0.out.on hb)
       clear hb)
    | (go_at_call 17
       refine (rightsX_any HX1.out hX hl).mono ?_
       rintro e w2 ⟨rfl, hb⟩
       rw [HRX.out]
       have HB2 := Lib.hid (below_on HB1.out hb)
       have HX2 := Lib.hid (HX1.out.below hb)
       have HM2 := Lib.hid (HM1.out.below hb)
       have M2 := Lib.hid (M1.out.on hb)
       have M2w := M2.out.cel.whole
       clear hb)
    | (with_reducible refine wpList_load_mid rfl 49 _ rfl w.heap.size 0 rfl [.int .i64 m.k, .int .i64 m.fr, .int .i64 m.to, .int .i64 m.bn, .int .i64 m.br, .int .i64 m.r.ir, .int .i64 m.r.is, .int .i64 m.r.st, .int .i64 m.r.pn, .int .i64 m.r.pr, .int .i64 m.r.bn, .int .i64 m.r.br, .int .i64 m.r.c.k, .int .i64 m.r.c.tc, .int .i64 m.r.c.tn, .int .i64 m.r.c.tt, .int .i64 m.r.c.tk, .int .i64 m.r.c.sh, va, vb, .bool m.r.c.cm, .int .i64 m.r.sq, .int .i64 m.r.d0, .int .i64 m.r.d1, .int .i64 m.r.d2, .int .i64 m.r.d3, .int .i64 m.r.d4, .int .i64 m.r.d5, .int .i64 m.r.d6, .bool m.r.kp] _ M2w Tryz.underlying49 rfl (by kernel_rfl) ?_)
    | (go_at_call 18
       have HA := handle_any HX2.out hl hX p m HM2.out F
       rw [← HS.out] at HA
       refine HA.mono ?_
       clear HA
       rintro e w3 ⟨xa, xb, ya, yb, rfl, t1, t2, hb⟩
       have HB3 := Lib.hid (below_on HB2.out hb)
       have HX3 := Lib.hid (HX2.out.below hb)
       have M3 := Lib.hid (M2.out.on hb)
       have T1 := Lib.hid t1
       have T2 := Lib.hid t2
       have o5 : (stc M.stp0 xa xb ya yb).all (·.oneCell') = true := stc_one (rds_one t1.rs) (wrs_one t1.ws) (rds_one t2.rs) (wrs_one t2.ws)
       clear hb t1 t2)
    | (with_reducible refine store_freshA rfl 52 _ _ rfl w3.heap.size rfl 52 _ (stc M.stp0 xa xb ya yb) rfl rfl rfl (stc_size _ _ _ _ _) o5 ?_
       intro w4 S4 b4
       have HB4 := Lib.hid (below_on HB3.out b4)
       have HX4 := Lib.hid (HX3.out.below b4)
       have M4 := Lib.hid (M3.out.on b4)
       have T14 := Lib.hid (T1.out.below b4)
       have T24 := Lib.hid (T2.out.below b4)
       have S4w := S4.cel.whole
       have HS4 := Lib.hid S4
       have mi4 := hold_range M4.out 5 [.int .i64 m.r.ir, .int .i64 m.r.is] (fun j v hj => by
         match j, hj with
         | 0, hj => exact hj
         | 1, hj => exact hj)
       clear b4 S4)
    | (with_reducible refine wpList_load_mid rfl 52 _ rfl w3.heap.size 0 rfl (stc M.stp0 xa xb ya yb) _ S4w Tryz.underlying52 rfl (by kernel_rfl) ?_)
    | (with_reducible refine wpList_buildTo rfl 56 _ rfl _ rfl #[.int .i64 0, .int .i64 0, .int .i64 0, .int .i64 0, .int .i64 0, .int .i64 0, .int .i64 0, .int .i64 0, .int .i64 0, .int .i64 0, .int .i64 0, .int .i64 0, .int .i64 0, .slice none 0 0, .slice none 0 0, .bool false, .int .i64 0, .int .i64 0, .int .i64 0, .int .i64 0, .int .i64 0, .int .i64 0, .int .i64 0, .int .i64 0, .bool false, .bool false, .int .i64 0, .int .i64 0, .int .i64 0, .int .i64 0, .int .i64 0, .int .i64 0, .int .i64 0, .int .i64 0, .int .i64 0, .int .i64 0, .int .i64 0, .int .i64 0, .int .i64 0, .int .i64 0, .int .i64 0, .int .i64 0, .int .i64 0, .int .i64 0, .slice none 0 0, .slice none 0 0, .bool false, .int .i64 0, .int .i64 0, .int .i64 0, .int .i64 0, .int .i64 0, .int .i64 0, .int .i64 0, .int .i64 0, .bool false, .bool false] (by kernel_rfl) ?_)
    | (go_at_call 19
       refine (same_none T14.out T24.out).mono ?_
       rintro e w5 ⟨rfl, hb⟩
       have HB5 := Lib.hid (below_on HB4.out hb)
       clear hb)
    | (go_at_call 10
       refine (awake_any _).mono ?_
       rintro e wz ⟨rfl, hb⟩
       have HBZ := Lib.hid (below_on HB5.out hb)
       clear hb)
    | fail)
    go_ret
    exact ⟨rfl, HBZ.out⟩
  obtain ⟨q1, q2⟩ := eqI he
  have K := M.handle_kept (self := p) (m := m) R (by rw [hs2]; exact he)
  rw [hs1] at K
  have htu := (M.req_of (M.handle_req (X := X) (self := p) (m := m) (by rw [hs2]; exact he))).to
  have hcm := M.handle_cmd M.Mod M.zero_mod (self := p) hX F
  rw [hs1] at hcm
  obtain ⟨k, hk⟩ : ∃ k, k = M.knowL (rcs X) m.r.ir m.r.is := ⟨_, rfl⟩
  rw [← hk] at K
  have HK := Lib.hid hk
  have HC := Lib.hid hcm
  clear hs1 hs2 he hk hcm R
  rcases hn : st.new with _ | _
  · rcases hh : st.has with _ | _
    · clear K htu
      go_enter Tryz.func4, Tryz.ntmps4
      go_wp2_with (first
      | (with_reducible refine wpList_load_mid rfl 49 _ rfl w.heap.size 0 rfl [.int .i64 m.k, .int .i64 m.fr, .int .i64 m.to, .int .i64 m.bn, .int .i64 m.br, .int .i64 m.r.ir, .int .i64 m.r.is, .int .i64 m.r.st, .int .i64 m.r.pn, .int .i64 m.r.pr, .int .i64 m.r.bn, .int .i64 m.r.br, .int .i64 m.r.c.k, .int .i64 m.r.c.tc, .int .i64 m.r.c.tn, .int .i64 m.r.c.tt, .int .i64 m.r.c.tk, .int .i64 m.r.c.sh, va, vb, .bool m.r.c.cm, .int .i64 m.r.sq, .int .i64 m.r.d0, .int .i64 m.r.d1, .int .i64 m.r.d2, .int .i64 m.r.d3, .int .i64 m.r.d4, .int .i64 m.r.d5, .int .i64 m.r.d6, .bool m.r.kp] _ H0.out.cel.whole Tryz.underlying49 rfl (by kernel_rfl) ?_)
      | (go_at_call 16
         refine HFW.out.mono ?_
         rintro e w1 ⟨rfl, hb⟩
         have HB1 := Lib.hid (below_on HB.out hb)
         have HX1 := Lib.hid (HX.out.below hb)
         have HM1 := Lib.hid (HM.out.below hb)
         have M1 := Lib.hid (H0.out.on hb)
         clear hb)
      | (go_at_call 17
         refine (rightsX_any HX1.out hX hl).mono ?_
         rintro e w2 ⟨rfl, hb⟩
         rw [HRX.out]
         have HB2 := Lib.hid (below_on HB1.out hb)
         have HX2 := Lib.hid (HX1.out.below hb)
         have HM2 := Lib.hid (HM1.out.below hb)
         have M2 := Lib.hid (M1.out.on hb)
         have M2w := M2.out.cel.whole
         clear hb)
      | (with_reducible refine wpList_load_mid rfl 49 _ rfl w.heap.size 0 rfl [.int .i64 m.k, .int .i64 m.fr, .int .i64 m.to, .int .i64 m.bn, .int .i64 m.br, .int .i64 m.r.ir, .int .i64 m.r.is, .int .i64 m.r.st, .int .i64 m.r.pn, .int .i64 m.r.pr, .int .i64 m.r.bn, .int .i64 m.r.br, .int .i64 m.r.c.k, .int .i64 m.r.c.tc, .int .i64 m.r.c.tn, .int .i64 m.r.c.tt, .int .i64 m.r.c.tk, .int .i64 m.r.c.sh, va, vb, .bool m.r.c.cm, .int .i64 m.r.sq, .int .i64 m.r.d0, .int .i64 m.r.d1, .int .i64 m.r.d2, .int .i64 m.r.d3, .int .i64 m.r.d4, .int .i64 m.r.d5, .int .i64 m.r.d6, .bool m.r.kp] _ M2w Tryz.underlying49 rfl (by kernel_rfl) ?_)
      | (go_at_call 18
         have HA := handle_any HX2.out hl hX p m HM2.out F
         rw [← HS.out] at HA
         refine HA.mono ?_
         clear HA
         rintro e w3 ⟨xa, xb, ya, yb, rfl, t1, t2, hb⟩
         have HB3 := Lib.hid (below_on HB2.out hb)
         have HX3 := Lib.hid (HX2.out.below hb)
         have M3 := Lib.hid (M2.out.on hb)
         have T1 := Lib.hid t1
         have T2 := Lib.hid t2
         have o5 : (stc st xa xb ya yb).all (·.oneCell') = true := stc_one (rds_one t1.rs) (wrs_one t1.ws) (rds_one t2.rs) (wrs_one t2.ws)
         clear hb t1 t2)
      | (with_reducible refine store_freshA rfl 52 _ _ rfl w3.heap.size rfl 52 _ (stc st xa xb ya yb) rfl rfl rfl (stc_size _ _ _ _ _) o5 ?_
         intro w4 S4 b4
         have HB4 := Lib.hid (below_on HB3.out b4)
         have HX4 := Lib.hid (HX3.out.below b4)
         have M4 := Lib.hid (M3.out.on b4)
         have T14 := Lib.hid (T1.out.below b4)
         have T24 := Lib.hid (T2.out.below b4)
         have S4w := S4.cel.whole
         have HS4 := Lib.hid S4
         have mi4 := hold_range M4.out 5 [.int .i64 m.r.ir, .int .i64 m.r.is] (fun j v hj => by
           match j, hj with
           | 0, hj => exact hj
           | 1, hj => exact hj)
         clear b4 S4)
      | (with_reducible refine wpList_load_mid rfl 32 _ rfl w.heap.size 5 rfl [.int .i64 m.r.ir, .int .i64 m.r.is] _ mi4 Tryz.underlying32 rfl (by kernel_rfl) ?_)
      | (go_at_call 15
         have HA := dknow_any HX4.out hl m.r.ir m.r.is
         rw [← HK.out] at HA
         refine HA.mono ?_
         clear HA
         rintro e w5 ⟨ka, kb, rfl, tk, hb⟩
         have HB5 := Lib.hid (below_on HB4.out hb)
         have M5 := Lib.hid (M4.out.on hb)
         have S5 := Lib.hid (HS4.out.on hb)
         have T15 := Lib.hid (T14.out.below hb)
         have T25 := Lib.hid (T24.out.below hb)
         have ok : (Rv.cells ⟨k, ka, kb⟩).all (·.oneCell') = true := rv_one (rds_one tk.rs) (wrs_one tk.ws)
         clear hb tk)
      | (with_reducible refine store_freshA rfl 41 _ _ rfl w5.heap.size rfl 41 _ (Rv.cells ⟨k, ka, kb⟩) rfl rfl rfl (rv_size _) ok ?_
         intro w6 K6 b6
         have HB6 := Lib.hid (below_on HB5.out b6)
         have M6 := Lib.hid (M5.out.on b6)
         have S6 := Lib.hid (S5.out.on b6)
         have T16 := Lib.hid (T15.out.below b6)
         have T26 := Lib.hid (T25.out.below b6)
         have HK6 := Lib.hid K6
         have s6_25 : w6.cell? ⟨w3.heap.size, 25, none⟩ = some (.bool st.new) := hold_cell S6.out 25 rfl
         have s6_0 : w6.cell? ⟨w3.heap.size, 0, none⟩ = some (.int .i64 st.r.ir) := hold_cell S6.out 0 rfl
         have s6_1 : w6.cell? ⟨w3.heap.size, 1, none⟩ = some (.int .i64 st.r.is) := hold_cell S6.out 1 rfl
         have s6_3 : w6.cell? ⟨w3.heap.size, 3, none⟩ = some (.int .i64 st.r.pn) := hold_cell S6.out 3 rfl
         have s6_4 : w6.cell? ⟨w3.heap.size, 4, none⟩ = some (.int .i64 st.r.pr) := hold_cell S6.out 4 rfl
         have s6_56 : w6.cell? ⟨w3.heap.size, 56, none⟩ = some (.bool st.has) := hold_cell S6.out 56 rfl
         have k6_0 : w6.cell? ⟨w5.heap.size, 0, none⟩ = some (.int .i64 k.ir) := hold_cell HK6.out 0 rfl
         have k6_1 : w6.cell? ⟨w5.heap.size, 1, none⟩ = some (.int .i64 k.is) := hold_cell HK6.out 1 rfl
         have k6_2 : w6.cell? ⟨w5.heap.size, 2, none⟩ = some (.int .i64 k.st) := hold_cell HK6.out 2 rfl
         have k6_3 : w6.cell? ⟨w5.heap.size, 3, none⟩ = some (.int .i64 k.pn) := hold_cell HK6.out 3 rfl
         have k6_4 : w6.cell? ⟨w5.heap.size, 4, none⟩ = some (.int .i64 k.pr) := hold_cell HK6.out 4 rfl
         clear b6 K6)
      | (go_at_call 10
         refine (awake_any _).mono ?_
         rintro e wz ⟨rfl, hb⟩
         have HBZ := Lib.hid (below_on HB6.out hb)
         clear hb)
      | fail)
      go_ret
      exact ⟨rfl, HBZ.out⟩
    · obtain ⟨k1, k2, k3, k4, k5⟩ := K.has hh
      have HRM := Lib.hid k1
      have e1 : (st.m.fr == p) = true := by rw [k2, htu]; exact beq_self_eq_true p
      have e2 : (st.m.to == m.fr) = true := by rw [k3]; exact beq_self_eq_true _
      have e3 : M.eq2 st.m.r.ir st.m.r.is k.ir k.is = true := by rw [k4, k5]; exact M.eq2_self _ _
      clear K htu k1 k2 k3 k4 k5
      go_enter Tryz.func4, Tryz.ntmps4
      go_wp2_with (first
      | (with_reducible refine wpList_load_mid rfl 49 _ rfl w.heap.size 0 rfl [.int .i64 m.k, .int .i64 m.fr, .int .i64 m.to, .int .i64 m.bn, .int .i64 m.br, .int .i64 m.r.ir, .int .i64 m.r.is, .int .i64 m.r.st, .int .i64 m.r.pn, .int .i64 m.r.pr, .int .i64 m.r.bn, .int .i64 m.r.br, .int .i64 m.r.c.k, .int .i64 m.r.c.tc, .int .i64 m.r.c.tn, .int .i64 m.r.c.tt, .int .i64 m.r.c.tk, .int .i64 m.r.c.sh, va, vb, .bool m.r.c.cm, .int .i64 m.r.sq, .int .i64 m.r.d0, .int .i64 m.r.d1, .int .i64 m.r.d2, .int .i64 m.r.d3, .int .i64 m.r.d4, .int .i64 m.r.d5, .int .i64 m.r.d6, .bool m.r.kp] _ H0.out.cel.whole Tryz.underlying49 rfl (by kernel_rfl) ?_)
      | (go_at_call 16
         refine HFW.out.mono ?_
         rintro e w1 ⟨rfl, hb⟩
         have HB1 := Lib.hid (below_on HB.out hb)
         have HX1 := Lib.hid (HX.out.below hb)
         have HM1 := Lib.hid (HM.out.below hb)
         have M1 := Lib.hid (H0.out.on hb)
         clear hb)
      | (go_at_call 17
         refine (rightsX_any HX1.out hX hl).mono ?_
         rintro e w2 ⟨rfl, hb⟩
         rw [HRX.out]
         have HB2 := Lib.hid (below_on HB1.out hb)
         have HX2 := Lib.hid (HX1.out.below hb)
         have HM2 := Lib.hid (HM1.out.below hb)
         have M2 := Lib.hid (M1.out.on hb)
         have M2w := M2.out.cel.whole
         clear hb)
      | (with_reducible refine wpList_load_mid rfl 49 _ rfl w.heap.size 0 rfl [.int .i64 m.k, .int .i64 m.fr, .int .i64 m.to, .int .i64 m.bn, .int .i64 m.br, .int .i64 m.r.ir, .int .i64 m.r.is, .int .i64 m.r.st, .int .i64 m.r.pn, .int .i64 m.r.pr, .int .i64 m.r.bn, .int .i64 m.r.br, .int .i64 m.r.c.k, .int .i64 m.r.c.tc, .int .i64 m.r.c.tn, .int .i64 m.r.c.tt, .int .i64 m.r.c.tk, .int .i64 m.r.c.sh, va, vb, .bool m.r.c.cm, .int .i64 m.r.sq, .int .i64 m.r.d0, .int .i64 m.r.d1, .int .i64 m.r.d2, .int .i64 m.r.d3, .int .i64 m.r.d4, .int .i64 m.r.d5, .int .i64 m.r.d6, .bool m.r.kp] _ M2w Tryz.underlying49 rfl (by kernel_rfl) ?_)
      | (go_at_call 18
         have HA := handle_any HX2.out hl hX p m HM2.out F
         rw [← HS.out] at HA
         refine HA.mono ?_
         clear HA
         rintro e w3 ⟨xa, xb, ya, yb, rfl, t1, t2, hb⟩
         have HB3 := Lib.hid (below_on HB2.out hb)
         have HX3 := Lib.hid (HX2.out.below hb)
         have M3 := Lib.hid (M2.out.on hb)
         have T1 := Lib.hid t1
         have T2 := Lib.hid t2
         have o5 : (stc st xa xb ya yb).all (·.oneCell') = true := stc_one (rds_one t1.rs) (wrs_one t1.ws) (rds_one t2.rs) (wrs_one t2.ws)
         clear hb t1 t2)
      | (with_reducible refine store_freshA rfl 52 _ _ rfl w3.heap.size rfl 52 _ (stc st xa xb ya yb) rfl rfl rfl (stc_size _ _ _ _ _) o5 ?_
         intro w4 S4 b4
         have HB4 := Lib.hid (below_on HB3.out b4)
         have HX4 := Lib.hid (HX3.out.below b4)
         have M4 := Lib.hid (M3.out.on b4)
         have T14 := Lib.hid (T1.out.below b4)
         have T24 := Lib.hid (T2.out.below b4)
         have S4w := S4.cel.whole
         have HS4 := Lib.hid S4
         have mi4 := hold_range M4.out 5 [.int .i64 m.r.ir, .int .i64 m.r.is] (fun j v hj => by
           match j, hj with
           | 0, hj => exact hj
           | 1, hj => exact hj)
         clear b4 S4)
      | (with_reducible refine wpList_load_mid rfl 32 _ rfl w.heap.size 5 rfl [.int .i64 m.r.ir, .int .i64 m.r.is] _ mi4 Tryz.underlying32 rfl (by kernel_rfl) ?_)
      | (go_at_call 15
         have HA := dknow_any HX4.out hl m.r.ir m.r.is
         rw [← HK.out] at HA
         refine HA.mono ?_
         clear HA
         rintro e w5 ⟨ka, kb, rfl, tk, hb⟩
         have HB5 := Lib.hid (below_on HB4.out hb)
         have M5 := Lib.hid (M4.out.on hb)
         have S5 := Lib.hid (HS4.out.on hb)
         have T15 := Lib.hid (T14.out.below hb)
         have T25 := Lib.hid (T24.out.below hb)
         have ok : (Rv.cells ⟨k, ka, kb⟩).all (·.oneCell') = true := rv_one (rds_one tk.rs) (wrs_one tk.ws)
         clear hb tk)
      | (with_reducible refine store_freshA rfl 41 _ _ rfl w5.heap.size rfl 41 _ (Rv.cells ⟨k, ka, kb⟩) rfl rfl rfl (rv_size _) ok ?_
         intro w6 K6 b6
         have HB6 := Lib.hid (below_on HB5.out b6)
         have M6 := Lib.hid (M5.out.on b6)
         have S6 := Lib.hid (S5.out.on b6)
         have T16 := Lib.hid (T15.out.below b6)
         have T26 := Lib.hid (T25.out.below b6)
         have HK6 := Lib.hid K6
         have s6_25 : w6.cell? ⟨w3.heap.size, 25, none⟩ = some (.bool st.new) := hold_cell S6.out 25 rfl
         have s6_0 : w6.cell? ⟨w3.heap.size, 0, none⟩ = some (.int .i64 st.r.ir) := hold_cell S6.out 0 rfl
         have s6_1 : w6.cell? ⟨w3.heap.size, 1, none⟩ = some (.int .i64 st.r.is) := hold_cell S6.out 1 rfl
         have s6_3 : w6.cell? ⟨w3.heap.size, 3, none⟩ = some (.int .i64 st.r.pn) := hold_cell S6.out 3 rfl
         have s6_4 : w6.cell? ⟨w3.heap.size, 4, none⟩ = some (.int .i64 st.r.pr) := hold_cell S6.out 4 rfl
         have s6_56 : w6.cell? ⟨w3.heap.size, 56, none⟩ = some (.bool st.has) := hold_cell S6.out 56 rfl
         have k6_0 : w6.cell? ⟨w5.heap.size, 0, none⟩ = some (.int .i64 k.ir) := hold_cell HK6.out 0 rfl
         have k6_1 : w6.cell? ⟨w5.heap.size, 1, none⟩ = some (.int .i64 k.is) := hold_cell HK6.out 1 rfl
         have k6_2 : w6.cell? ⟨w5.heap.size, 2, none⟩ = some (.int .i64 k.st) := hold_cell HK6.out 2 rfl
         have k6_3 : w6.cell? ⟨w5.heap.size, 3, none⟩ = some (.int .i64 k.pn) := hold_cell HK6.out 3 rfl
         have k6_4 : w6.cell? ⟨w5.heap.size, 4, none⟩ = some (.int .i64 k.pr) := hold_cell HK6.out 4 rfl
         have sm6 := hold_range S6.out 26 [.int .i64 st.m.k, .int .i64 st.m.fr, .int .i64 st.m.to, .int .i64 st.m.bn, .int .i64 st.m.br, .int .i64 st.m.r.ir, .int .i64 st.m.r.is, .int .i64 st.m.r.st, .int .i64 st.m.r.pn, .int .i64 st.m.r.pr, .int .i64 st.m.r.bn, .int .i64 st.m.r.br, .int .i64 st.m.r.c.k, .int .i64 st.m.r.c.tc, .int .i64 st.m.r.c.tn, .int .i64 st.m.r.c.tt, .int .i64 st.m.r.c.tk, .int .i64 st.m.r.c.sh, ya, yb, .bool st.m.r.c.cm, .int .i64 st.m.r.sq, .int .i64 st.m.r.d0, .int .i64 st.m.r.d1, .int .i64 st.m.r.d2, .int .i64 st.m.r.d3, .int .i64 st.m.r.d4, .int .i64 st.m.r.d5, .int .i64 st.m.r.d6, .bool st.m.r.kp] (fun j v hj => by revert hj; match j with
          | 0 | 1 | 2 | 3 | 4 | 5 | 6 | 7 | 8 | 9 | 10 | 11 | 12 | 13 | 14 | 15 | 16 | 17 | 18 | 19 | 20 | 21 | 22 | 23 | 24 | 25 | 26 | 27 | 28 | 29 => exact fun hj => hj
          | _ + 30 => intro hj; cases hj)
         clear b6 K6)
      | (with_reducible refine wpList_load_mid_g ?_ 49 _ rfl w3.heap.size 26 rfl [.int .i64 st.m.k, .int .i64 st.m.fr, .int .i64 st.m.to, .int .i64 st.m.bn, .int .i64 st.m.br, .int .i64 st.m.r.ir, .int .i64 st.m.r.is, .int .i64 st.m.r.st, .int .i64 st.m.r.pn, .int .i64 st.m.r.pr, .int .i64 st.m.r.bn, .int .i64 st.m.r.br, .int .i64 st.m.r.c.k, .int .i64 st.m.r.c.tc, .int .i64 st.m.r.c.tn, .int .i64 st.m.r.c.tt, .int .i64 st.m.r.c.tk, .int .i64 st.m.r.c.sh, ya, yb, .bool st.m.r.c.cm, .int .i64 st.m.r.sq, .int .i64 st.m.r.d0, .int .i64 st.m.r.d1, .int .i64 st.m.r.d2, .int .i64 st.m.r.d3, .int .i64 st.m.r.d4, .int .i64 st.m.r.d5, .int .i64 st.m.r.d6, .bool st.m.r.kp] _ sm6 Tryz.underlying49 rfl (by kernel_rfl) ?_; kernel_rfl)
      | (go_at_call 22
         refine (dright_msg st.m T26.out.rs T26.out.ws HC.out.2).mono ?_
         rintro e w9 ⟨rfl, hb⟩
         rw [M.rightM_eq, HRM.out]
         have HB9 := Lib.hid (below_on HB6.out hb)
         have M9 := Lib.hid (M6.out.on hb)
         have S9 := Lib.hid (S6.out.on hb)
         have T19 := Lib.hid (T16.out.below hb)
         have T29 := Lib.hid (T26.out.below hb)
         have HK9 := Lib.hid (HK6.out.on hb)
         have s9_56 : w9.cell? ⟨w3.heap.size, 56, none⟩ = some (.bool st.has) := hold_cell S9.out 56 rfl
         have s9_27 : w9.cell? ⟨w3.heap.size, 27, none⟩ = some (.int .i64 st.m.fr) := hold_cell S9.out 27 rfl
         have s9_28 : w9.cell? ⟨w3.heap.size, 28, none⟩ = some (.int .i64 st.m.to) := hold_cell S9.out 28 rfl
         have s9_31 : w9.cell? ⟨w3.heap.size, 31, none⟩ = some (.int .i64 st.m.r.ir) := hold_cell S9.out 31 rfl
         have s9_32 : w9.cell? ⟨w3.heap.size, 32, none⟩ = some (.int .i64 st.m.r.is) := hold_cell S9.out 32 rfl
         have k9_0 : w9.cell? ⟨w5.heap.size, 0, none⟩ = some (.int .i64 k.ir) := hold_cell HK9.out 0 rfl
         have k9_1 : w9.cell? ⟨w5.heap.size, 1, none⟩ = some (.int .i64 k.is) := hold_cell HK9.out 1 rfl
         have m9_1 : w9.cell? ⟨w.heap.size, 1, none⟩ = some (.int .i64 m.fr) := hold_cell M9.out 1 rfl
         clear hb)
      | (go_at_call 10
         refine (awake_any _).mono ?_
         rintro e wz ⟨rfl, hb⟩
         have HBZ := Lib.hid (below_on HB9.out hb)
         clear hb)
      | fail)
      go_ret
      exact ⟨rfl, HBZ.out⟩
  · obtain ⟨j1, j2, j3, j4, j5⟩ := K.new hn
    have HRR := Lib.hid j5
    have f1 : M.eq2 st.r.ir st.r.is k.ir k.is = true := by rw [j1, j2]; exact M.eq2_self _ _
    obtain ⟨f2, f3⟩ := neI j3
    have f4 : decide (M.ord st.r.pn st.r.pr k.pn k.pr < 0) = false := decide_eq_false j4
    clear j1 j2 j3 j4 j5
    rcases hh : st.has with _ | _
    · clear K htu
      go_enter Tryz.func4, Tryz.ntmps4
      go_wp2_with (first
      | (with_reducible refine wpList_load_mid rfl 49 _ rfl w.heap.size 0 rfl [.int .i64 m.k, .int .i64 m.fr, .int .i64 m.to, .int .i64 m.bn, .int .i64 m.br, .int .i64 m.r.ir, .int .i64 m.r.is, .int .i64 m.r.st, .int .i64 m.r.pn, .int .i64 m.r.pr, .int .i64 m.r.bn, .int .i64 m.r.br, .int .i64 m.r.c.k, .int .i64 m.r.c.tc, .int .i64 m.r.c.tn, .int .i64 m.r.c.tt, .int .i64 m.r.c.tk, .int .i64 m.r.c.sh, va, vb, .bool m.r.c.cm, .int .i64 m.r.sq, .int .i64 m.r.d0, .int .i64 m.r.d1, .int .i64 m.r.d2, .int .i64 m.r.d3, .int .i64 m.r.d4, .int .i64 m.r.d5, .int .i64 m.r.d6, .bool m.r.kp] _ H0.out.cel.whole Tryz.underlying49 rfl (by kernel_rfl) ?_)
      | (go_at_call 16
         refine HFW.out.mono ?_
         rintro e w1 ⟨rfl, hb⟩
         have HB1 := Lib.hid (below_on HB.out hb)
         have HX1 := Lib.hid (HX.out.below hb)
         have HM1 := Lib.hid (HM.out.below hb)
         have M1 := Lib.hid (H0.out.on hb)
         clear hb)
      | (go_at_call 17
         refine (rightsX_any HX1.out hX hl).mono ?_
         rintro e w2 ⟨rfl, hb⟩
         rw [HRX.out]
         have HB2 := Lib.hid (below_on HB1.out hb)
         have HX2 := Lib.hid (HX1.out.below hb)
         have HM2 := Lib.hid (HM1.out.below hb)
         have M2 := Lib.hid (M1.out.on hb)
         have M2w := M2.out.cel.whole
         clear hb)
      | (with_reducible refine wpList_load_mid rfl 49 _ rfl w.heap.size 0 rfl [.int .i64 m.k, .int .i64 m.fr, .int .i64 m.to, .int .i64 m.bn, .int .i64 m.br, .int .i64 m.r.ir, .int .i64 m.r.is, .int .i64 m.r.st, .int .i64 m.r.pn, .int .i64 m.r.pr, .int .i64 m.r.bn, .int .i64 m.r.br, .int .i64 m.r.c.k, .int .i64 m.r.c.tc, .int .i64 m.r.c.tn, .int .i64 m.r.c.tt, .int .i64 m.r.c.tk, .int .i64 m.r.c.sh, va, vb, .bool m.r.c.cm, .int .i64 m.r.sq, .int .i64 m.r.d0, .int .i64 m.r.d1, .int .i64 m.r.d2, .int .i64 m.r.d3, .int .i64 m.r.d4, .int .i64 m.r.d5, .int .i64 m.r.d6, .bool m.r.kp] _ M2w Tryz.underlying49 rfl (by kernel_rfl) ?_)
      | (go_at_call 18
         have HA := handle_any HX2.out hl hX p m HM2.out F
         rw [← HS.out] at HA
         refine HA.mono ?_
         clear HA
         rintro e w3 ⟨xa, xb, ya, yb, rfl, t1, t2, hb⟩
         have HB3 := Lib.hid (below_on HB2.out hb)
         have HX3 := Lib.hid (HX2.out.below hb)
         have M3 := Lib.hid (M2.out.on hb)
         have T1 := Lib.hid t1
         have T2 := Lib.hid t2
         have o5 : (stc st xa xb ya yb).all (·.oneCell') = true := stc_one (rds_one t1.rs) (wrs_one t1.ws) (rds_one t2.rs) (wrs_one t2.ws)
         clear hb t1 t2)
      | (with_reducible refine store_freshA rfl 52 _ _ rfl w3.heap.size rfl 52 _ (stc st xa xb ya yb) rfl rfl rfl (stc_size _ _ _ _ _) o5 ?_
         intro w4 S4 b4
         have HB4 := Lib.hid (below_on HB3.out b4)
         have HX4 := Lib.hid (HX3.out.below b4)
         have M4 := Lib.hid (M3.out.on b4)
         have T14 := Lib.hid (T1.out.below b4)
         have T24 := Lib.hid (T2.out.below b4)
         have S4w := S4.cel.whole
         have HS4 := Lib.hid S4
         have mi4 := hold_range M4.out 5 [.int .i64 m.r.ir, .int .i64 m.r.is] (fun j v hj => by
           match j, hj with
           | 0, hj => exact hj
           | 1, hj => exact hj)
         clear b4 S4)
      | (with_reducible refine wpList_load_mid rfl 32 _ rfl w.heap.size 5 rfl [.int .i64 m.r.ir, .int .i64 m.r.is] _ mi4 Tryz.underlying32 rfl (by kernel_rfl) ?_)
      | (go_at_call 15
         have HA := dknow_any HX4.out hl m.r.ir m.r.is
         rw [← HK.out] at HA
         refine HA.mono ?_
         clear HA
         rintro e w5 ⟨ka, kb, rfl, tk, hb⟩
         have HB5 := Lib.hid (below_on HB4.out hb)
         have M5 := Lib.hid (M4.out.on hb)
         have S5 := Lib.hid (HS4.out.on hb)
         have T15 := Lib.hid (T14.out.below hb)
         have T25 := Lib.hid (T24.out.below hb)
         have ok : (Rv.cells ⟨k, ka, kb⟩).all (·.oneCell') = true := rv_one (rds_one tk.rs) (wrs_one tk.ws)
         clear hb tk)
      | (with_reducible refine store_freshA rfl 41 _ _ rfl w5.heap.size rfl 41 _ (Rv.cells ⟨k, ka, kb⟩) rfl rfl rfl (rv_size _) ok ?_
         intro w6 K6 b6
         have HB6 := Lib.hid (below_on HB5.out b6)
         have M6 := Lib.hid (M5.out.on b6)
         have S6 := Lib.hid (S5.out.on b6)
         have T16 := Lib.hid (T15.out.below b6)
         have T26 := Lib.hid (T25.out.below b6)
         have HK6 := Lib.hid K6
         have s6_25 : w6.cell? ⟨w3.heap.size, 25, none⟩ = some (.bool st.new) := hold_cell S6.out 25 rfl
         have s6_0 : w6.cell? ⟨w3.heap.size, 0, none⟩ = some (.int .i64 st.r.ir) := hold_cell S6.out 0 rfl
         have s6_1 : w6.cell? ⟨w3.heap.size, 1, none⟩ = some (.int .i64 st.r.is) := hold_cell S6.out 1 rfl
         have s6_3 : w6.cell? ⟨w3.heap.size, 3, none⟩ = some (.int .i64 st.r.pn) := hold_cell S6.out 3 rfl
         have s6_4 : w6.cell? ⟨w3.heap.size, 4, none⟩ = some (.int .i64 st.r.pr) := hold_cell S6.out 4 rfl
         have s6_56 : w6.cell? ⟨w3.heap.size, 56, none⟩ = some (.bool st.has) := hold_cell S6.out 56 rfl
         have k6_0 : w6.cell? ⟨w5.heap.size, 0, none⟩ = some (.int .i64 k.ir) := hold_cell HK6.out 0 rfl
         have k6_1 : w6.cell? ⟨w5.heap.size, 1, none⟩ = some (.int .i64 k.is) := hold_cell HK6.out 1 rfl
         have k6_2 : w6.cell? ⟨w5.heap.size, 2, none⟩ = some (.int .i64 k.st) := hold_cell HK6.out 2 rfl
         have k6_3 : w6.cell? ⟨w5.heap.size, 3, none⟩ = some (.int .i64 k.pn) := hold_cell HK6.out 3 rfl
         have k6_4 : w6.cell? ⟨w5.heap.size, 4, none⟩ = some (.int .i64 k.pr) := hold_cell HK6.out 4 rfl
         clear b6 K6)
      | (go_at_call 20
         refine (dlower_any st.r.pn st.r.pr k.pn k.pr w6).mono ?_
         rintro e w7 ⟨rfl, hb⟩
         have HB7 := Lib.hid (below_on HB6.out hb)
         have M7 := Lib.hid (M6.out.on hb)
         have S7 := Lib.hid (S6.out.on hb)
         have T17 := Lib.hid (T16.out.below hb)
         have T27 := Lib.hid (T26.out.below hb)
         have HK7 := Lib.hid (HK6.out.on hb)
         have sr7 := hold_range S7.out 0 [.int .i64 st.r.ir, .int .i64 st.r.is, .int .i64 st.r.st, .int .i64 st.r.pn, .int .i64 st.r.pr, .int .i64 st.r.bn, .int .i64 st.r.br, .int .i64 st.r.c.k, .int .i64 st.r.c.tc, .int .i64 st.r.c.tn, .int .i64 st.r.c.tt, .int .i64 st.r.c.tk, .int .i64 st.r.c.sh, xa, xb, .bool st.r.c.cm, .int .i64 st.r.sq, .int .i64 st.r.d0, .int .i64 st.r.d1, .int .i64 st.r.d2, .int .i64 st.r.d3, .int .i64 st.r.d4, .int .i64 st.r.d5, .int .i64 st.r.d6, .bool st.r.kp] (fun j v hj => by rw [Nat.zero_add]; revert hj; match j with
          | 0 | 1 | 2 | 3 | 4 | 5 | 6 | 7 | 8 | 9 | 10 | 11 | 12 | 13 | 14 | 15 | 16 | 17 | 18 | 19 | 20 | 21 | 22 | 23 | 24 => exact fun hj => hj
          | _ + 25 => intro hj; cases hj)
         clear hb)
      | (with_reducible refine wpList_load_mid_g ?_ 41 _ rfl w3.heap.size 0 rfl [.int .i64 st.r.ir, .int .i64 st.r.is, .int .i64 st.r.st, .int .i64 st.r.pn, .int .i64 st.r.pr, .int .i64 st.r.bn, .int .i64 st.r.br, .int .i64 st.r.c.k, .int .i64 st.r.c.tc, .int .i64 st.r.c.tn, .int .i64 st.r.c.tt, .int .i64 st.r.c.tk, .int .i64 st.r.c.sh, xa, xb, .bool st.r.c.cm, .int .i64 st.r.sq, .int .i64 st.r.d0, .int .i64 st.r.d1, .int .i64 st.r.d2, .int .i64 st.r.d3, .int .i64 st.r.d4, .int .i64 st.r.d5, .int .i64 st.r.d6, .bool st.r.kp] _ sr7 Tryz.underlying41 rfl (by kernel_rfl) ?_; kernel_rfl)
      | (go_at_call 21
         refine (dright_rec st.r T17.out.rs T17.out.ws HC.out.1).mono ?_
         rintro e w8 ⟨rfl, hb⟩
         rw [M.right_eq, HRR.out]
         have HB8 := Lib.hid (below_on HB7.out hb)
         have M8 := Lib.hid (M7.out.on hb)
         have S8 := Lib.hid (S7.out.on hb)
         have T18 := Lib.hid (T17.out.below hb)
         have T28 := Lib.hid (T27.out.below hb)
         have HK8 := Lib.hid (HK7.out.on hb)
         have s8_56 : w8.cell? ⟨w3.heap.size, 56, none⟩ = some (.bool st.has) := hold_cell S8.out 56 rfl
         clear hb)
      | (go_at_call 10
         refine (awake_any _).mono ?_
         rintro e wz ⟨rfl, hb⟩
         have HBZ := Lib.hid (below_on HB8.out hb)
         clear hb)
      | fail)
      go_ret
      exact ⟨rfl, HBZ.out⟩
    · obtain ⟨k1, k2, k3, k4, k5⟩ := K.has hh
      have HRM := Lib.hid k1
      have e1 : (st.m.fr == p) = true := by rw [k2, htu]; exact beq_self_eq_true p
      have e2 : (st.m.to == m.fr) = true := by rw [k3]; exact beq_self_eq_true _
      have e3 : M.eq2 st.m.r.ir st.m.r.is k.ir k.is = true := by rw [k4, k5]; exact M.eq2_self _ _
      clear K htu k1 k2 k3 k4 k5
      go_enter Tryz.func4, Tryz.ntmps4
      go_wp2_with (first
      | (with_reducible refine wpList_load_mid rfl 49 _ rfl w.heap.size 0 rfl [.int .i64 m.k, .int .i64 m.fr, .int .i64 m.to, .int .i64 m.bn, .int .i64 m.br, .int .i64 m.r.ir, .int .i64 m.r.is, .int .i64 m.r.st, .int .i64 m.r.pn, .int .i64 m.r.pr, .int .i64 m.r.bn, .int .i64 m.r.br, .int .i64 m.r.c.k, .int .i64 m.r.c.tc, .int .i64 m.r.c.tn, .int .i64 m.r.c.tt, .int .i64 m.r.c.tk, .int .i64 m.r.c.sh, va, vb, .bool m.r.c.cm, .int .i64 m.r.sq, .int .i64 m.r.d0, .int .i64 m.r.d1, .int .i64 m.r.d2, .int .i64 m.r.d3, .int .i64 m.r.d4, .int .i64 m.r.d5, .int .i64 m.r.d6, .bool m.r.kp] _ H0.out.cel.whole Tryz.underlying49 rfl (by kernel_rfl) ?_)
      | (go_at_call 16
         refine HFW.out.mono ?_
         rintro e w1 ⟨rfl, hb⟩
         have HB1 := Lib.hid (below_on HB.out hb)
         have HX1 := Lib.hid (HX.out.below hb)
         have HM1 := Lib.hid (HM.out.below hb)
         have M1 := Lib.hid (H0.out.on hb)
         clear hb)
      | (go_at_call 17
         refine (rightsX_any HX1.out hX hl).mono ?_
         rintro e w2 ⟨rfl, hb⟩
         rw [HRX.out]
         have HB2 := Lib.hid (below_on HB1.out hb)
         have HX2 := Lib.hid (HX1.out.below hb)
         have HM2 := Lib.hid (HM1.out.below hb)
         have M2 := Lib.hid (M1.out.on hb)
         have M2w := M2.out.cel.whole
         clear hb)
      | (with_reducible refine wpList_load_mid rfl 49 _ rfl w.heap.size 0 rfl [.int .i64 m.k, .int .i64 m.fr, .int .i64 m.to, .int .i64 m.bn, .int .i64 m.br, .int .i64 m.r.ir, .int .i64 m.r.is, .int .i64 m.r.st, .int .i64 m.r.pn, .int .i64 m.r.pr, .int .i64 m.r.bn, .int .i64 m.r.br, .int .i64 m.r.c.k, .int .i64 m.r.c.tc, .int .i64 m.r.c.tn, .int .i64 m.r.c.tt, .int .i64 m.r.c.tk, .int .i64 m.r.c.sh, va, vb, .bool m.r.c.cm, .int .i64 m.r.sq, .int .i64 m.r.d0, .int .i64 m.r.d1, .int .i64 m.r.d2, .int .i64 m.r.d3, .int .i64 m.r.d4, .int .i64 m.r.d5, .int .i64 m.r.d6, .bool m.r.kp] _ M2w Tryz.underlying49 rfl (by kernel_rfl) ?_)
      | (go_at_call 18
         have HA := handle_any HX2.out hl hX p m HM2.out F
         rw [← HS.out] at HA
         refine HA.mono ?_
         clear HA
         rintro e w3 ⟨xa, xb, ya, yb, rfl, t1, t2, hb⟩
         have HB3 := Lib.hid (below_on HB2.out hb)
         have HX3 := Lib.hid (HX2.out.below hb)
         have M3 := Lib.hid (M2.out.on hb)
         have T1 := Lib.hid t1
         have T2 := Lib.hid t2
         have o5 : (stc st xa xb ya yb).all (·.oneCell') = true := stc_one (rds_one t1.rs) (wrs_one t1.ws) (rds_one t2.rs) (wrs_one t2.ws)
         clear hb t1 t2)
      | (with_reducible refine store_freshA rfl 52 _ _ rfl w3.heap.size rfl 52 _ (stc st xa xb ya yb) rfl rfl rfl (stc_size _ _ _ _ _) o5 ?_
         intro w4 S4 b4
         have HB4 := Lib.hid (below_on HB3.out b4)
         have HX4 := Lib.hid (HX3.out.below b4)
         have M4 := Lib.hid (M3.out.on b4)
         have T14 := Lib.hid (T1.out.below b4)
         have T24 := Lib.hid (T2.out.below b4)
         have S4w := S4.cel.whole
         have HS4 := Lib.hid S4
         have mi4 := hold_range M4.out 5 [.int .i64 m.r.ir, .int .i64 m.r.is] (fun j v hj => by
           match j, hj with
           | 0, hj => exact hj
           | 1, hj => exact hj)
         clear b4 S4)
      | (with_reducible refine wpList_load_mid rfl 32 _ rfl w.heap.size 5 rfl [.int .i64 m.r.ir, .int .i64 m.r.is] _ mi4 Tryz.underlying32 rfl (by kernel_rfl) ?_)
      | (go_at_call 15
         have HA := dknow_any HX4.out hl m.r.ir m.r.is
         rw [← HK.out] at HA
         refine HA.mono ?_
         clear HA
         rintro e w5 ⟨ka, kb, rfl, tk, hb⟩
         have HB5 := Lib.hid (below_on HB4.out hb)
         have M5 := Lib.hid (M4.out.on hb)
         have S5 := Lib.hid (HS4.out.on hb)
         have T15 := Lib.hid (T14.out.below hb)
         have T25 := Lib.hid (T24.out.below hb)
         have ok : (Rv.cells ⟨k, ka, kb⟩).all (·.oneCell') = true := rv_one (rds_one tk.rs) (wrs_one tk.ws)
         clear hb tk)
      | (with_reducible refine store_freshA rfl 41 _ _ rfl w5.heap.size rfl 41 _ (Rv.cells ⟨k, ka, kb⟩) rfl rfl rfl (rv_size _) ok ?_
         intro w6 K6 b6
         have HB6 := Lib.hid (below_on HB5.out b6)
         have M6 := Lib.hid (M5.out.on b6)
         have S6 := Lib.hid (S5.out.on b6)
         have T16 := Lib.hid (T15.out.below b6)
         have T26 := Lib.hid (T25.out.below b6)
         have HK6 := Lib.hid K6
         have s6_25 : w6.cell? ⟨w3.heap.size, 25, none⟩ = some (.bool st.new) := hold_cell S6.out 25 rfl
         have s6_0 : w6.cell? ⟨w3.heap.size, 0, none⟩ = some (.int .i64 st.r.ir) := hold_cell S6.out 0 rfl
         have s6_1 : w6.cell? ⟨w3.heap.size, 1, none⟩ = some (.int .i64 st.r.is) := hold_cell S6.out 1 rfl
         have s6_3 : w6.cell? ⟨w3.heap.size, 3, none⟩ = some (.int .i64 st.r.pn) := hold_cell S6.out 3 rfl
         have s6_4 : w6.cell? ⟨w3.heap.size, 4, none⟩ = some (.int .i64 st.r.pr) := hold_cell S6.out 4 rfl
         have s6_56 : w6.cell? ⟨w3.heap.size, 56, none⟩ = some (.bool st.has) := hold_cell S6.out 56 rfl
         have k6_0 : w6.cell? ⟨w5.heap.size, 0, none⟩ = some (.int .i64 k.ir) := hold_cell HK6.out 0 rfl
         have k6_1 : w6.cell? ⟨w5.heap.size, 1, none⟩ = some (.int .i64 k.is) := hold_cell HK6.out 1 rfl
         have k6_2 : w6.cell? ⟨w5.heap.size, 2, none⟩ = some (.int .i64 k.st) := hold_cell HK6.out 2 rfl
         have k6_3 : w6.cell? ⟨w5.heap.size, 3, none⟩ = some (.int .i64 k.pn) := hold_cell HK6.out 3 rfl
         have k6_4 : w6.cell? ⟨w5.heap.size, 4, none⟩ = some (.int .i64 k.pr) := hold_cell HK6.out 4 rfl
         clear b6 K6)
      | (go_at_call 20
         refine (dlower_any st.r.pn st.r.pr k.pn k.pr w6).mono ?_
         rintro e w7 ⟨rfl, hb⟩
         have HB7 := Lib.hid (below_on HB6.out hb)
         have M7 := Lib.hid (M6.out.on hb)
         have S7 := Lib.hid (S6.out.on hb)
         have T17 := Lib.hid (T16.out.below hb)
         have T27 := Lib.hid (T26.out.below hb)
         have HK7 := Lib.hid (HK6.out.on hb)
         have sr7 := hold_range S7.out 0 [.int .i64 st.r.ir, .int .i64 st.r.is, .int .i64 st.r.st, .int .i64 st.r.pn, .int .i64 st.r.pr, .int .i64 st.r.bn, .int .i64 st.r.br, .int .i64 st.r.c.k, .int .i64 st.r.c.tc, .int .i64 st.r.c.tn, .int .i64 st.r.c.tt, .int .i64 st.r.c.tk, .int .i64 st.r.c.sh, xa, xb, .bool st.r.c.cm, .int .i64 st.r.sq, .int .i64 st.r.d0, .int .i64 st.r.d1, .int .i64 st.r.d2, .int .i64 st.r.d3, .int .i64 st.r.d4, .int .i64 st.r.d5, .int .i64 st.r.d6, .bool st.r.kp] (fun j v hj => by rw [Nat.zero_add]; revert hj; match j with
          | 0 | 1 | 2 | 3 | 4 | 5 | 6 | 7 | 8 | 9 | 10 | 11 | 12 | 13 | 14 | 15 | 16 | 17 | 18 | 19 | 20 | 21 | 22 | 23 | 24 => exact fun hj => hj
          | _ + 25 => intro hj; cases hj)
         clear hb)
      | (with_reducible refine wpList_load_mid_g ?_ 41 _ rfl w3.heap.size 0 rfl [.int .i64 st.r.ir, .int .i64 st.r.is, .int .i64 st.r.st, .int .i64 st.r.pn, .int .i64 st.r.pr, .int .i64 st.r.bn, .int .i64 st.r.br, .int .i64 st.r.c.k, .int .i64 st.r.c.tc, .int .i64 st.r.c.tn, .int .i64 st.r.c.tt, .int .i64 st.r.c.tk, .int .i64 st.r.c.sh, xa, xb, .bool st.r.c.cm, .int .i64 st.r.sq, .int .i64 st.r.d0, .int .i64 st.r.d1, .int .i64 st.r.d2, .int .i64 st.r.d3, .int .i64 st.r.d4, .int .i64 st.r.d5, .int .i64 st.r.d6, .bool st.r.kp] _ sr7 Tryz.underlying41 rfl (by kernel_rfl) ?_; kernel_rfl)
      | (go_at_call 21
         refine (dright_rec st.r T17.out.rs T17.out.ws HC.out.1).mono ?_
         rintro e w8 ⟨rfl, hb⟩
         rw [M.right_eq, HRR.out]
         have HB8 := Lib.hid (below_on HB7.out hb)
         have M8 := Lib.hid (M7.out.on hb)
         have S8 := Lib.hid (S7.out.on hb)
         have T18 := Lib.hid (T17.out.below hb)
         have T28 := Lib.hid (T27.out.below hb)
         have HK8 := Lib.hid (HK7.out.on hb)
         have s8_56 : w8.cell? ⟨w3.heap.size, 56, none⟩ = some (.bool st.has) := hold_cell S8.out 56 rfl
         have sm8 := hold_range S8.out 26 [.int .i64 st.m.k, .int .i64 st.m.fr, .int .i64 st.m.to, .int .i64 st.m.bn, .int .i64 st.m.br, .int .i64 st.m.r.ir, .int .i64 st.m.r.is, .int .i64 st.m.r.st, .int .i64 st.m.r.pn, .int .i64 st.m.r.pr, .int .i64 st.m.r.bn, .int .i64 st.m.r.br, .int .i64 st.m.r.c.k, .int .i64 st.m.r.c.tc, .int .i64 st.m.r.c.tn, .int .i64 st.m.r.c.tt, .int .i64 st.m.r.c.tk, .int .i64 st.m.r.c.sh, ya, yb, .bool st.m.r.c.cm, .int .i64 st.m.r.sq, .int .i64 st.m.r.d0, .int .i64 st.m.r.d1, .int .i64 st.m.r.d2, .int .i64 st.m.r.d3, .int .i64 st.m.r.d4, .int .i64 st.m.r.d5, .int .i64 st.m.r.d6, .bool st.m.r.kp] (fun j v hj => by revert hj; match j with
          | 0 | 1 | 2 | 3 | 4 | 5 | 6 | 7 | 8 | 9 | 10 | 11 | 12 | 13 | 14 | 15 | 16 | 17 | 18 | 19 | 20 | 21 | 22 | 23 | 24 | 25 | 26 | 27 | 28 | 29 => exact fun hj => hj
          | _ + 30 => intro hj; cases hj)
         clear hb)
      | (with_reducible refine wpList_load_mid_g ?_ 49 _ rfl w3.heap.size 26 rfl [.int .i64 st.m.k, .int .i64 st.m.fr, .int .i64 st.m.to, .int .i64 st.m.bn, .int .i64 st.m.br, .int .i64 st.m.r.ir, .int .i64 st.m.r.is, .int .i64 st.m.r.st, .int .i64 st.m.r.pn, .int .i64 st.m.r.pr, .int .i64 st.m.r.bn, .int .i64 st.m.r.br, .int .i64 st.m.r.c.k, .int .i64 st.m.r.c.tc, .int .i64 st.m.r.c.tn, .int .i64 st.m.r.c.tt, .int .i64 st.m.r.c.tk, .int .i64 st.m.r.c.sh, ya, yb, .bool st.m.r.c.cm, .int .i64 st.m.r.sq, .int .i64 st.m.r.d0, .int .i64 st.m.r.d1, .int .i64 st.m.r.d2, .int .i64 st.m.r.d3, .int .i64 st.m.r.d4, .int .i64 st.m.r.d5, .int .i64 st.m.r.d6, .bool st.m.r.kp] _ sm8 Tryz.underlying49 rfl (by kernel_rfl) ?_; kernel_rfl)
      | (go_at_call 22
         refine (dright_msg st.m T28.out.rs T28.out.ws HC.out.2).mono ?_
         rintro e w9 ⟨rfl, hb⟩
         rw [M.rightM_eq, HRM.out]
         have HB9 := Lib.hid (below_on HB8.out hb)
         have M9 := Lib.hid (M8.out.on hb)
         have S9 := Lib.hid (S8.out.on hb)
         have T19 := Lib.hid (T18.out.below hb)
         have T29 := Lib.hid (T28.out.below hb)
         have HK9 := Lib.hid (HK8.out.on hb)
         have s9_56 : w9.cell? ⟨w3.heap.size, 56, none⟩ = some (.bool st.has) := hold_cell S9.out 56 rfl
         have s9_27 : w9.cell? ⟨w3.heap.size, 27, none⟩ = some (.int .i64 st.m.fr) := hold_cell S9.out 27 rfl
         have s9_28 : w9.cell? ⟨w3.heap.size, 28, none⟩ = some (.int .i64 st.m.to) := hold_cell S9.out 28 rfl
         have s9_31 : w9.cell? ⟨w3.heap.size, 31, none⟩ = some (.int .i64 st.m.r.ir) := hold_cell S9.out 31 rfl
         have s9_32 : w9.cell? ⟨w3.heap.size, 32, none⟩ = some (.int .i64 st.m.r.is) := hold_cell S9.out 32 rfl
         have k9_0 : w9.cell? ⟨w5.heap.size, 0, none⟩ = some (.int .i64 k.ir) := hold_cell HK9.out 0 rfl
         have k9_1 : w9.cell? ⟨w5.heap.size, 1, none⟩ = some (.int .i64 k.is) := hold_cell HK9.out 1 rfl
         have m9_1 : w9.cell? ⟨w.heap.size, 1, none⟩ = some (.int .i64 m.fr) := hold_cell M9.out 1 rfl
         clear hb)
      | (go_at_call 10
         refine (awake_any _).mono ?_
         rintro e wz ⟨rfl, hb⟩
         have HBZ := Lib.hid (below_on HB9.out hb)
         clear hb)
      | fail)
      go_ret
      exact ⟨rfl, HBZ.out⟩
end Go.Proofs.YtpknkhgkejkpkaaGreat
