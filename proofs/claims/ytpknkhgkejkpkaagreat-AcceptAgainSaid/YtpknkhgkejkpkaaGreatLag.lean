/- The walk of AcceptAgain; no conditions. -/
import Derived.Test.YtpknkhgkejkpkaaGreatAwk
import Derived.Test.YtpknkhgkejkpkaaGreatSml
import Derived.Test.YtpknkhgkejkpkaaGreatMor
import Derived.Test.YtpknkhgkejkpkaaGreatPd
namespace Go.Proofs.YtpknkhgkejkpkaaGreat
open Go.ChangeShapes Go.WideShapes Go.ChangeAt Go.RowKit

set_option maxHeartbeats 16000000 in
set_option maxRecDepth 100000 in
theorem again_law (p : Int) (m : M.Msg) (w : World) {v va vb : Value} {X : List Rv} (h : Rows w v X) (_hq : Sqs X) (hm : Txt w ⟨m.r, va, vb⟩) :
    Calls Tryz.prog 5 #[v, .int .i64 p, .agg #[.int .i64 m.k, .int .i64 m.fr, .int .i64 m.to, .int .i64 m.bn, .int .i64 m.br, .int .i64 m.r.ir, .int .i64 m.r.is, .int .i64 m.r.st, .int .i64 m.r.pn, .int .i64 m.r.pr, .int .i64 m.r.bn, .int .i64 m.r.br, .int .i64 m.r.c.k, .int .i64 m.r.c.tc, .int .i64 m.r.c.tn, .int .i64 m.r.c.tt, .int .i64 m.r.c.tk, .int .i64 m.r.c.sh, va, vb, .bool m.r.c.cm, .int .i64 m.r.sq, .int .i64 m.r.d0, .int .i64 m.r.d1, .int .i64 m.r.d2, .int .i64 m.r.d3, .int .i64 m.r.d4, .int .i64 m.r.d5, .int .i64 m.r.d6, .bool m.r.kp]] w fun e w' => e = .returned (.bool true) ∧ Below w.heap.size w w' := by
  obtain ⟨A, cc, rfl⟩ := rowN_sliceOf h.row
  have H0 := Lib.hid (show Hold (w.alloc (.cells #[.int .i64 m.k, .int .i64 m.fr, .int .i64 m.to, .int .i64 m.bn, .int .i64 m.br, .int .i64 m.r.ir, .int .i64 m.r.is, .int .i64 m.r.st, .int .i64 m.r.pn, .int .i64 m.r.pr, .int .i64 m.r.bn, .int .i64 m.r.br, .int .i64 m.r.c.k, .int .i64 m.r.c.tc, .int .i64 m.r.c.tn, .int .i64 m.r.c.tt, .int .i64 m.r.c.tk, .int .i64 m.r.c.sh, va, vb, .bool m.r.c.cm, .int .i64 m.r.sq, .int .i64 m.r.d0, .int .i64 m.r.d1, .int .i64 m.r.d2, .int .i64 m.r.d3, .int .i64 m.r.d4, .int .i64 m.r.d5, .int .i64 m.r.d6, .bool m.r.kp] 49)) w.heap.size 49 [.int .i64 m.k, .int .i64 m.fr, .int .i64 m.to, .int .i64 m.bn, .int .i64 m.br, .int .i64 m.r.ir, .int .i64 m.r.is, .int .i64 m.r.st, .int .i64 m.r.pn, .int .i64 m.r.pr, .int .i64 m.r.bn, .int .i64 m.r.br, .int .i64 m.r.c.k, .int .i64 m.r.c.tc, .int .i64 m.r.c.tn, .int .i64 m.r.c.tt, .int .i64 m.r.c.tk, .int .i64 m.r.c.sh, va, vb, .bool m.r.c.cm, .int .i64 m.r.sq, .int .i64 m.r.d0, .int .i64 m.r.d1, .int .i64 m.r.d2, .int .i64 m.r.d3, .int .i64 m.r.d4, .int .i64 m.r.d5, .int .i64 m.r.d6, .bool m.r.kp] from Hold.new w [.int .i64 m.k, .int .i64 m.fr, .int .i64 m.to, .int .i64 m.bn, .int .i64 m.br, .int .i64 m.r.ir, .int .i64 m.r.is, .int .i64 m.r.st, .int .i64 m.r.pn, .int .i64 m.r.pr, .int .i64 m.r.bn, .int .i64 m.r.br, .int .i64 m.r.c.k, .int .i64 m.r.c.tc, .int .i64 m.r.c.tn, .int .i64 m.r.c.tt, .int .i64 m.r.c.tk, .int .i64 m.r.c.sh, va, vb, .bool m.r.c.cm, .int .i64 m.r.sq, .int .i64 m.r.d0, .int .i64 m.r.d1, .int .i64 m.r.d2, .int .i64 m.r.d3, .int .i64 m.r.d4, .int .i64 m.r.d5, .int .i64 m.r.d6, .bool m.r.kp] 49)
  have HB := Lib.hid (show Below w.heap.size w (w.alloc (.cells #[.int .i64 m.k, .int .i64 m.fr, .int .i64 m.to, .int .i64 m.bn, .int .i64 m.br, .int .i64 m.r.ir, .int .i64 m.r.is, .int .i64 m.r.st, .int .i64 m.r.pn, .int .i64 m.r.pr, .int .i64 m.r.bn, .int .i64 m.r.br, .int .i64 m.r.c.k, .int .i64 m.r.c.tc, .int .i64 m.r.c.tn, .int .i64 m.r.c.tt, .int .i64 m.r.c.tk, .int .i64 m.r.c.sh, va, vb, .bool m.r.c.cm, .int .i64 m.r.sq, .int .i64 m.r.d0, .int .i64 m.r.d1, .int .i64 m.r.d2, .int .i64 m.r.d3, .int .i64 m.r.d4, .int .i64 m.r.d5, .int .i64 m.r.d6, .bool m.r.kp] 49)) from below_new (Below.refl _ _))
  have HX := Lib.hid (h.below HB.out)
  have HM := Lib.hid (hm.below HB.out)
  have HF := few12_any HX.out m HM.out
  clear h _hq hm
  rcases hf : (fewX X && M.modB m.r.c) with _ | _
  · rw [hf] at HF
    have HFW := Lib.hid HF
    clear HF hf
    go_enter Tryz.func5, Tryz.ntmps5
    go_wp2_with (first
    | (with_reducible refine wpList_load_mid rfl 49 _ rfl w.heap.size 0 rfl [.int .i64 m.k, .int .i64 m.fr, .int .i64 m.to, .int .i64 m.bn, .int .i64 m.br, .int .i64 m.r.ir, .int .i64 m.r.is, .int .i64 m.r.st, .int .i64 m.r.pn, .int .i64 m.r.pr, .int .i64 m.r.bn, .int .i64 m.r.br, .int .i64 m.r.c.k, .int .i64 m.r.c.tc, .int .i64 m.r.c.tn, .int .i64 m.r.c.tt, .int .i64 m.r.c.tk, .int .i64 m.r.c.sh, va, vb, .bool m.r.c.cm, .int .i64 m.r.sq, .int .i64 m.r.d0, .int .i64 m.r.d1, .int .i64 m.r.d2, .int .i64 m.r.d3, .int .i64 m.r.d4, .int .i64 m.r.d5, .int .i64 m.r.d6, .bool m.r.kp] _ H0.out.cel.whole Tryz.underlying49 rfl (by kernel_rfl) ?_)
    | (go_at_call 16
       refine HFW.out.mono ?_
       rintro e w1 ⟨rfl, hb⟩
       have HB1 := Lib.hid (below_on HB.out hb)
       have HX1 := Lib.hid (HX.out.below hb)
       have HM1 := Lib.hid (HM.out.below hb)
       have M1 := Lib.hid (H0.out.on hb)
       clear hb)
    | (go_at_call 10
       refine (awake_any _).mono ?_
       rintro e wz ⟨rfl, hb⟩
       have HBZ := Lib.hid (below_on HB1.out hb)
       clear hb)
    | fail)
    go_ret
    exact ⟨rfl, HBZ.out⟩
  rw [hf] at HF
  have HFW := Lib.hid HF
  obtain ⟨hf1, hf2⟩ := (Bool.and_eq_true _ _).mp hf
  have hX := fewX_mod hf1
  have hl20 := Lib.hid (fewX_len hf1)
  have hl : X.length ≤ 1000 := Nat.le_trans (fewX_len hf1) (by decide)
  have F := M.modB_iff.1 hf2
  clear HF hf hf1 hf2
  by_cases h19 : 19 < X.length
  · have d19 : decide ((19 : Int) < (X.length : Int)) = true := decide_eq_true (by omega)
    clear h19
    go_enter Tryz.func5, Tryz.ntmps5
    go_wp2_with (first
    | (with_reducible refine wpList_load_mid rfl 49 _ rfl w.heap.size 0 rfl [.int .i64 m.k, .int .i64 m.fr, .int .i64 m.to, .int .i64 m.bn, .int .i64 m.br, .int .i64 m.r.ir, .int .i64 m.r.is, .int .i64 m.r.st, .int .i64 m.r.pn, .int .i64 m.r.pr, .int .i64 m.r.bn, .int .i64 m.r.br, .int .i64 m.r.c.k, .int .i64 m.r.c.tc, .int .i64 m.r.c.tn, .int .i64 m.r.c.tt, .int .i64 m.r.c.tk, .int .i64 m.r.c.sh, va, vb, .bool m.r.c.cm, .int .i64 m.r.sq, .int .i64 m.r.d0, .int .i64 m.r.d1, .int .i64 m.r.d2, .int .i64 m.r.d3, .int .i64 m.r.d4, .int .i64 m.r.d5, .int .i64 m.r.d6, .bool m.r.kp] _ H0.out.cel.whole Tryz.underlying49 rfl (by kernel_rfl) ?_)
    | (go_at_call 16
       refine HFW.out.mono ?_
       rintro e w1 ⟨rfl, hb⟩
       have HB1 := Lib.hid (below_on HB.out hb)
       have HX1 := Lib.hid (HX.out.below hb)
       have HM1 := Lib.hid (HM.out.below hb)
       have M1 := Lib.hid (H0.out.on hb)
       clear hb)
    | (go_at_call 10
       refine (awake_any _).mono ?_
       rintro e wz ⟨rfl, hb⟩
       have HBZ := Lib.hid (below_on HB1.out hb)
       clear hb)
    | fail)
    go_ret
    exact ⟨rfl, HBZ.out⟩
  have d19 : decide ((19 : Int) < (X.length : Int)) = false := decide_eq_false (by omega)
  clear h19
  rcases hr : rightsX X with _ | _
  · have HRX := Lib.hid hr
    clear hr
    go_enter Tryz.func5, Tryz.ntmps5
    go_wp2_with (first
    | (with_reducible refine wpList_load_mid rfl 49 _ rfl w.heap.size 0 rfl [.int .i64 m.k, .int .i64 m.fr, .int .i64 m.to, .int .i64 m.bn, .int .i64 m.br, .int .i64 m.r.ir, .int .i64 m.r.is, .int .i64 m.r.st, .int .i64 m.r.pn, .int .i64 m.r.pr, .int .i64 m.r.bn, .int .i64 m.r.br, .int .i64 m.r.c.k, .int .i64 m.r.c.tc, .int .i64 m.r.c.tn, .int .i64 m.r.c.tt, .int .i64 m.r.c.tk, .int .i64 m.r.c.sh, va, vb, .bool m.r.c.cm, .int .i64 m.r.sq, .int .i64 m.r.d0, .int .i64 m.r.d1, .int .i64 m.r.d2, .int .i64 m.r.d3, .int .i64 m.r.d4, .int .i64 m.r.d5, .int .i64 m.r.d6, .bool m.r.kp] _ H0.out.cel.whole Tryz.underlying49 rfl (by kernel_rfl) ?_)
    | (go_at_call 16
       refine HFW.out.mono ?_
       rintro e w1 ⟨rfl, hb⟩
       have HB1 := Lib.hid (below_on HB.out hb)
       have HX1 := Lib.hid (HX.out.below hb)
       have HM1 := Lib.hid (HM.out.below hb)
       have M1 := Lib.hid (H0.out.on hb)
       clear hb)
    | (go_at_call 17
       refine (rightsX_any HX1.out hX hl).mono ?_
       rintro e w2 ⟨rfl, hb⟩
       rw [HRX.out]
       have HB2 := Lib.hid (below_on HB1.out hb)
       have HX2 := Lib.hid (HX1.out.below hb)
       have HM2 := Lib.hid (HM1.out.below hb)
       have M2 := Lib.hid (M1.out.on hb)
       have M2w := M2.out.cel.whole
       clear hb)
    | (go_at_call 10
       refine (awake_any _).mono ?_
       rintro e wz ⟨rfl, hb⟩
       have HBZ := Lib.hid (below_on HB2.out hb)
       clear hb)
    | fail)
    go_ret
    exact ⟨rfl, HBZ.out⟩
  have HRX := Lib.hid hr
  clear hr
  obtain ⟨s, hs⟩ : ∃ s, s = M.handle X p m := ⟨_, rfl⟩
  obtain ⟨st, er⟩ := s
  have hs1 : (M.handle X p m).1 = st := by rw [← hs]
  have hs2 : (M.handle X p m).2 = er := by rw [← hs]
  have HS := Lib.hid hs
  clear hs
  by_cases he : er = 0
  rotate_left
  · obtain ⟨q1, q2⟩ := neI he
    clear hs1 hs2 he
    go_enter Tryz.func5, Tryz.ntmps5
    go_wp2_with (first
    | (with_reducible refine wpList_load_mid rfl 49 _ rfl w.heap.size 0 rfl [.int .i64 m.k, .int .i64 m.fr, .int .i64 m.to, .int .i64 m.bn, .int .i64 m.br, .int .i64 m.r.ir, .int .i64 m.r.is, .int .i64 m.r.st, .int .i64 m.r.pn, .int .i64 m.r.pr, .int .i64 m.r.bn, .int .i64 m.r.br, .int .i64 m.r.c.k, .int .i64 m.r.c.tc, .int .i64 m.r.c.tn, .int .i64 m.r.c.tt, .int .i64 m.r.c.tk, .int .i64 m.r.c.sh, va, vb, .bool m.r.c.cm, .int .i64 m.r.sq, .int .i64 m.r.d0, .int .i64 m.r.d1, .int .i64 m.r.d2, .int .i64 m.r.d3, .int .i64 m.r.d4, .int .i64 m.r.d5, .int .i64 m.r.d6, .bool m.r.kp] _ H0.out.cel.whole Tryz.underlying49 rfl (by kernel_rfl) ?_)
    | (go_at_call 16
       refine HFW.out.mono ?_
       rintro e w1 ⟨rfl, hb⟩
       have HB1 := Lib.hid (below_on HB.out hb)
       have HX1 := Lib.hid (HX.out.below hb)
       have HM1 := Lib.hid (HM.out.below hb)
       have M1 := Lib.hid (H0.out.on hb)
       clear hb)
    | (go_at_call 17
       refine (rightsX_any HX1.out hX hl).mono ?_
       rintro e w2 ⟨rfl, hb⟩
       rw [HRX.out]
       have HB2 := Lib.hid (below_on HB1.out hb)
       have HX2 := Lib.hid (HX1.out.below hb)
       have HM2 := Lib.hid (HM1.out.below hb)
       have M2 := Lib.hid (M1.out.on hb)
       have M2w := M2.out.cel.whole
       clear hb)
    | (with_reducible refine wpList_load_mid rfl 49 _ rfl w.heap.size 0 rfl [.int .i64 m.k, .int .i64 m.fr, .int .i64 m.to, .int .i64 m.bn, .int .i64 m.br, .int .i64 m.r.ir, .int .i64 m.r.is, .int .i64 m.r.st, .int .i64 m.r.pn, .int .i64 m.r.pr, .int .i64 m.r.bn, .int .i64 m.r.br, .int .i64 m.r.c.k, .int .i64 m.r.c.tc, .int .i64 m.r.c.tn, .int .i64 m.r.c.tt, .int .i64 m.r.c.tk, .int .i64 m.r.c.sh, va, vb, .bool m.r.c.cm, .int .i64 m.r.sq, .int .i64 m.r.d0, .int .i64 m.r.d1, .int .i64 m.r.d2, .int .i64 m.r.d3, .int .i64 m.r.d4, .int .i64 m.r.d5, .int .i64 m.r.d6, .bool m.r.kp] _ M2w Tryz.underlying49 rfl (by kernel_rfl) ?_)
    | (go_at_call 18
       have HA := handle_any HX2.out hl hX p m HM2.out F
       rw [← HS.out] at HA
       refine HA.mono ?_
       clear HA HS
       rintro e w3 ⟨xa, xb, ya, yb, rfl, t1, t2, hb⟩
       have HB3 := Lib.hid (below_on HB2.out hb)
       have HB23 := Lib.hid hb
       have HX3 := Lib.hid (HX2.out.below hb)
       have M3 := Lib.hid (M2.out.on hb)
       have T1 := Lib.hid t1
       have T2 := Lib.hid t2
       have o5 : (stc st xa xb ya yb).all (·.oneCell') = true := stc_one (rds_one t1.rs) (wrs_one t1.ws) (rds_one t2.rs) (wrs_one t2.ws)
       clear hb t1 t2)
    | (with_reducible refine store_freshA rfl 52 _ _ rfl w3.heap.size rfl 52 _ (stc st xa xb ya yb) rfl rfl rfl (stc_size _ _ _ _ _) o5 ?_
       intro w4 S4 b4
       have HB4 := Lib.hid (below_on HB3.out b4)
       have HB34 := Lib.hid b4
       have HX4 := Lib.hid (HX3.out.below b4)
       have M4 := Lib.hid (M3.out.on b4)
       have T14 := Lib.hid (T1.out.below b4)
       have T24 := Lib.hid (T2.out.below b4)
       have S4w := S4.cel.whole
       have HS4 := Lib.hid S4
       clear b4 S4)
    | (go_at_call 10
       refine (awake_any _).mono ?_
       rintro e wz ⟨rfl, hb⟩
       have HBZ := Lib.hid (below_on HB4.out hb)
       clear hb)
    | fail)
    go_ret
    exact ⟨rfl, HBZ.out⟩
  obtain ⟨q1, q2⟩ := eqI he
  have hcm := M.handle_cmd M.Mod M.zero_mod (self := p) hX F
  rw [hs1] at hcm
  have HC := Lib.hid hcm
  clear hcm
  rcases hn : st.new with _ | _
  · -- nothing was kept
    have hx := fun (Y : List Rv) (hy : rcs Y = rcs X) => M.handle_stays (self := p) (m := m) hy (by rw [hs1]; exact hn)
    rw [hs1, hs2, he] at hx
    obtain ⟨hx1, hx2, hx3, hx4⟩ := hx X rfl
    obtain ⟨zr, hzr⟩ : ∃ zr, zr = (M.handle X p m).1.r := ⟨_, rfl⟩
    have HT := Lib.hid (show M.handle X p m = (⟨zr, false, st.m, st.has⟩, 0) by
      rcases hh : M.handle X p m with ⟨⟨a, b, c, d⟩, e⟩
      rw [hh] at hx1 hx2 hx3 hx4 hzr
      dsimp only at hx1 hx2 hx3 hx4 hzr
      rw [hx1, hx2, hx3, hx4, hzr])
    have hXY := hX
    have hly := hl
    clear hx hx1 hx2 hx3 hx4 hzr hs1 hs2 he
    go_enter Tryz.func5, Tryz.ntmps5
    go_wp2_with (first
    | (with_reducible refine wpList_load_mid rfl 49 _ rfl w.heap.size 0 rfl [.int .i64 m.k, .int .i64 m.fr, .int .i64 m.to, .int .i64 m.bn, .int .i64 m.br, .int .i64 m.r.ir, .int .i64 m.r.is, .int .i64 m.r.st, .int .i64 m.r.pn, .int .i64 m.r.pr, .int .i64 m.r.bn, .int .i64 m.r.br, .int .i64 m.r.c.k, .int .i64 m.r.c.tc, .int .i64 m.r.c.tn, .int .i64 m.r.c.tt, .int .i64 m.r.c.tk, .int .i64 m.r.c.sh, va, vb, .bool m.r.c.cm, .int .i64 m.r.sq, .int .i64 m.r.d0, .int .i64 m.r.d1, .int .i64 m.r.d2, .int .i64 m.r.d3, .int .i64 m.r.d4, .int .i64 m.r.d5, .int .i64 m.r.d6, .bool m.r.kp] _ H0.out.cel.whole Tryz.underlying49 rfl (by kernel_rfl) ?_)
    | (go_at_call 16
       refine HFW.out.mono ?_
       rintro e w1 ⟨rfl, hb⟩
       have HB1 := Lib.hid (below_on HB.out hb)
       have HX1 := Lib.hid (HX.out.below hb)
       have HM1 := Lib.hid (HM.out.below hb)
       have M1 := Lib.hid (H0.out.on hb)
       clear hb)
    | (go_at_call 17
       refine (rightsX_any HX1.out hX hl).mono ?_
       rintro e w2 ⟨rfl, hb⟩
       rw [HRX.out]
       have HB2 := Lib.hid (below_on HB1.out hb)
       have HX2 := Lib.hid (HX1.out.below hb)
       have HM2 := Lib.hid (HM1.out.below hb)
       have M2 := Lib.hid (M1.out.on hb)
       have M2w := M2.out.cel.whole
       clear hb)
    | (with_reducible refine wpList_load_mid rfl 49 _ rfl w.heap.size 0 rfl [.int .i64 m.k, .int .i64 m.fr, .int .i64 m.to, .int .i64 m.bn, .int .i64 m.br, .int .i64 m.r.ir, .int .i64 m.r.is, .int .i64 m.r.st, .int .i64 m.r.pn, .int .i64 m.r.pr, .int .i64 m.r.bn, .int .i64 m.r.br, .int .i64 m.r.c.k, .int .i64 m.r.c.tc, .int .i64 m.r.c.tn, .int .i64 m.r.c.tt, .int .i64 m.r.c.tk, .int .i64 m.r.c.sh, va, vb, .bool m.r.c.cm, .int .i64 m.r.sq, .int .i64 m.r.d0, .int .i64 m.r.d1, .int .i64 m.r.d2, .int .i64 m.r.d3, .int .i64 m.r.d4, .int .i64 m.r.d5, .int .i64 m.r.d6, .bool m.r.kp] _ M2w Tryz.underlying49 rfl (by kernel_rfl) ?_)
    | (go_at_call 18
       have HA := handle_any HX2.out hl hX p m HM2.out F
       rw [← HS.out] at HA
       refine HA.mono ?_
       clear HA HS
       rintro e w3 ⟨xa, xb, ya, yb, rfl, t1, t2, hb⟩
       have HB3 := Lib.hid (below_on HB2.out hb)
       have HB23 := Lib.hid hb
       have HX3 := Lib.hid (HX2.out.below hb)
       have M3 := Lib.hid (M2.out.on hb)
       have T1 := Lib.hid t1
       have T2 := Lib.hid t2
       have o5 : (stc st xa xb ya yb).all (·.oneCell') = true := stc_one (rds_one t1.rs) (wrs_one t1.ws) (rds_one t2.rs) (wrs_one t2.ws)
       clear hb t1 t2)
    | (with_reducible refine store_freshA rfl 52 _ _ rfl w3.heap.size rfl 52 _ (stc st xa xb ya yb) rfl rfl rfl (stc_size _ _ _ _ _) o5 ?_
       intro w4 S4 b4
       have HB4 := Lib.hid (below_on HB3.out b4)
       have HB34 := Lib.hid b4
       have HX4 := Lib.hid (HX3.out.below b4)
       have M4 := Lib.hid (M3.out.on b4)
       have T14 := Lib.hid (T1.out.below b4)
       have T24 := Lib.hid (T2.out.below b4)
       have S4w := S4.cel.whole
       have HS4 := Lib.hid S4
       obtain ⟨v6, w6, hr6, ho6, hb6⟩ := copy_recs HX4.out hl
       obtain ⟨A6, c6, ev6⟩ := ownsRow_slice ho6
       subst ev6
       have HO6 := Lib.hid ho6
       have HB6 := Lib.hid (below_on HB4.out hb6)
       have HX6 := Lib.hid (HX4.out.below hb6)
       have M6 := Lib.hid (M4.out.on hb6)
       have S6 := Lib.hid (HS4.out.on hb6)
       have T16 := Lib.hid (T14.out.below hb6)
       have T26 := Lib.hid (T24.out.below hb6)
       have s25 : w6.cell? ⟨w3.heap.size, 25, none⟩ = some (.bool st.new) := hold_cell S6.out 25 rfl
       have hs46 := Lib.hid hb6.size
       have HB46 := Lib.hid hb6
       clear ho6 hb6
       have HY6 := Lib.hid (show Rows w6 (.slice A6 X.length c6) X from ⟨RowN.of_owns HO6.out, HX6.out.tx⟩)
       have M6w := M6.out.cel.whole
       have HMF := Lib.hid (((HM2.out.below HB23.out).below HB34.out).below (by exact HB46.out))
       clear b4 S4)
    | (at_builtin
       refine Lib.wpList_append_run _ rfl _ _ _ _ rfl _ _ rfl rfl _ _ hr6 ?_
       clear hr6)
    | (with_reducible refine wpList_load_mid rfl 49 _ rfl w.heap.size 0 rfl [.int .i64 m.k, .int .i64 m.fr, .int .i64 m.to, .int .i64 m.bn, .int .i64 m.br, .int .i64 m.r.ir, .int .i64 m.r.is, .int .i64 m.r.st, .int .i64 m.r.pn, .int .i64 m.r.pr, .int .i64 m.r.bn, .int .i64 m.r.br, .int .i64 m.r.c.k, .int .i64 m.r.c.tc, .int .i64 m.r.c.tn, .int .i64 m.r.c.tt, .int .i64 m.r.c.tk, .int .i64 m.r.c.sh, va, vb, .bool m.r.c.cm, .int .i64 m.r.sq, .int .i64 m.r.d0, .int .i64 m.r.d1, .int .i64 m.r.d2, .int .i64 m.r.d3, .int .i64 m.r.d4, .int .i64 m.r.d5, .int .i64 m.r.d6, .bool m.r.kp] _ M6w Tryz.underlying49 rfl (by kernel_rfl) ?_)
    | (go_at_call 18
       have HA := handle_any HY6.out hly hXY p m HMF.out F
       rw [HT.out] at HA
       refine HA.mono ?_
       clear HA
       rintro e w9 ⟨ya1, ya2, yb1, yb2, rfl, t1, t2, hb⟩
       have HB9 := Lib.hid (below_on HB6.out hb)
       have S9 := Lib.hid (S6.out.on hb)
       have T29 := Lib.hid (T26.out.below hb)
       have U2 := Lib.hid t2
       have o9 : (stc ⟨zr, false, st.m, st.has⟩ ya1 ya2 yb1 yb2).all (·.oneCell') = true := stc_one (rds_one t1.rs) (wrs_one t1.ws) (rds_one t2.rs) (wrs_one t2.ws)
       clear hb t1 t2)
    | (with_reducible refine store_freshA rfl 52 _ _ rfl w9.heap.size rfl 52 _ (stc ⟨zr, false, st.m, st.has⟩ ya1 ya2 yb1 yb2) rfl rfl rfl (stc_size _ _ _ _ _) o9 ?_
       intro w10 R10 b10
       have HB10 := Lib.hid (below_on HB9.out b10)
       have S10 := S9.out.on b10
       have T210 := T29.out.below b10
       have U210 := U2.out.below b10
       have r25 : w10.cell? ⟨w9.heap.size, 25, none⟩ = some (.bool false) := hold_cell R10 25 rfl
       have r56 : w10.cell? ⟨w9.heap.size, 56, none⟩ = some (.bool st.has) := hold_cell R10 56 rfl
       have s56 : w10.cell? ⟨w3.heap.size, 56, none⟩ = some (.bool st.has) := hold_cell S10 56 rfl
       have rm := stc_msg R10
       have sm := stc_msg S10
       have HD := dsame_msg (w := w10) st.m st.m U210.rs U210.ws T210.rs T210.ws HC.out.2.l HC.out.2.l'
       rw [M.sameMsg_self] at HD
       have HDM := Lib.hid HD
       clear b10 HD)
    | (with_reducible refine wpList_load_mid_g ?_ 49 _ rfl w9.heap.size 26 rfl [.int .i64 st.m.k, .int .i64 st.m.fr, .int .i64 st.m.to, .int .i64 st.m.bn, .int .i64 st.m.br, .int .i64 st.m.r.ir, .int .i64 st.m.r.is, .int .i64 st.m.r.st, .int .i64 st.m.r.pn, .int .i64 st.m.r.pr, .int .i64 st.m.r.bn, .int .i64 st.m.r.br, .int .i64 st.m.r.c.k, .int .i64 st.m.r.c.tc, .int .i64 st.m.r.c.tn, .int .i64 st.m.r.c.tt, .int .i64 st.m.r.c.tk, .int .i64 st.m.r.c.sh, yb1, yb2, .bool st.m.r.c.cm, .int .i64 st.m.r.sq, .int .i64 st.m.r.d0, .int .i64 st.m.r.d1, .int .i64 st.m.r.d2, .int .i64 st.m.r.d3, .int .i64 st.m.r.d4, .int .i64 st.m.r.d5, .int .i64 st.m.r.d6, .bool st.m.r.kp] _ rm Tryz.underlying49 rfl (by kernel_rfl) ?_; kernel_rfl)
    | (with_reducible refine wpList_load_mid_g ?_ 49 _ rfl w3.heap.size 26 rfl [.int .i64 st.m.k, .int .i64 st.m.fr, .int .i64 st.m.to, .int .i64 st.m.bn, .int .i64 st.m.br, .int .i64 st.m.r.ir, .int .i64 st.m.r.is, .int .i64 st.m.r.st, .int .i64 st.m.r.pn, .int .i64 st.m.r.pr, .int .i64 st.m.r.bn, .int .i64 st.m.r.br, .int .i64 st.m.r.c.k, .int .i64 st.m.r.c.tc, .int .i64 st.m.r.c.tn, .int .i64 st.m.r.c.tt, .int .i64 st.m.r.c.tk, .int .i64 st.m.r.c.sh, ya, yb, .bool st.m.r.c.cm, .int .i64 st.m.r.sq, .int .i64 st.m.r.d0, .int .i64 st.m.r.d1, .int .i64 st.m.r.d2, .int .i64 st.m.r.d3, .int .i64 st.m.r.d4, .int .i64 st.m.r.d5, .int .i64 st.m.r.d6, .bool st.m.r.kp] _ sm Tryz.underlying49 rfl (by kernel_rfl) ?_; kernel_rfl)
    | (go_at_call 23
       refine HDM.out.mono ?_
       rintro e w11 ⟨rfl, hb⟩
       have HB11 := Lib.hid (below_on HB10.out hb)
       clear hb)
    | (go_at_call 10
       refine (awake_any _).mono ?_
       rintro e wz ⟨rfl, hb⟩
       have HBZ := Lib.hid (below_on HB11.out hb)
       clear hb)
    | fail)
    go_ret
    exact ⟨rfl, HBZ.out⟩
  · -- one more is known
    have HT := Lib.hid (show ∀ va vb, M.handle (X ++ [⟨st.r, va, vb⟩]) p m = (⟨M.zrec, false, st.m, st.has⟩, 0) from fun va vb => by
      have := M.handle_again (X := X) (Y := X ++ [⟨st.r, va, vb⟩]) (self := p) (m := m) (by rw [hs2]; exact he) (by rw [hs1]; exact hn) (by rw [hs1]; simp [rcs])
      rw [hs1] at this
      exact this)
    obtain ⟨zr, hzr⟩ : ∃ zr, zr = M.zrec := ⟨_, rfl⟩
    rw [← hzr] at HT
    clear hs1 hs2 he hzr
    go_enter Tryz.func5, Tryz.ntmps5
    go_wp2_with (first
    | (with_reducible refine wpList_load_mid rfl 49 _ rfl w.heap.size 0 rfl [.int .i64 m.k, .int .i64 m.fr, .int .i64 m.to, .int .i64 m.bn, .int .i64 m.br, .int .i64 m.r.ir, .int .i64 m.r.is, .int .i64 m.r.st, .int .i64 m.r.pn, .int .i64 m.r.pr, .int .i64 m.r.bn, .int .i64 m.r.br, .int .i64 m.r.c.k, .int .i64 m.r.c.tc, .int .i64 m.r.c.tn, .int .i64 m.r.c.tt, .int .i64 m.r.c.tk, .int .i64 m.r.c.sh, va, vb, .bool m.r.c.cm, .int .i64 m.r.sq, .int .i64 m.r.d0, .int .i64 m.r.d1, .int .i64 m.r.d2, .int .i64 m.r.d3, .int .i64 m.r.d4, .int .i64 m.r.d5, .int .i64 m.r.d6, .bool m.r.kp] _ H0.out.cel.whole Tryz.underlying49 rfl (by kernel_rfl) ?_)
    | (go_at_call 16
       refine HFW.out.mono ?_
       rintro e w1 ⟨rfl, hb⟩
       have HB1 := Lib.hid (below_on HB.out hb)
       have HX1 := Lib.hid (HX.out.below hb)
       have HM1 := Lib.hid (HM.out.below hb)
       have M1 := Lib.hid (H0.out.on hb)
       clear hb)
    | (go_at_call 17
       refine (rightsX_any HX1.out hX hl).mono ?_
       rintro e w2 ⟨rfl, hb⟩
       rw [HRX.out]
       have HB2 := Lib.hid (below_on HB1.out hb)
       have HX2 := Lib.hid (HX1.out.below hb)
       have HM2 := Lib.hid (HM1.out.below hb)
       have M2 := Lib.hid (M1.out.on hb)
       have M2w := M2.out.cel.whole
       clear hb)
    | (with_reducible refine wpList_load_mid rfl 49 _ rfl w.heap.size 0 rfl [.int .i64 m.k, .int .i64 m.fr, .int .i64 m.to, .int .i64 m.bn, .int .i64 m.br, .int .i64 m.r.ir, .int .i64 m.r.is, .int .i64 m.r.st, .int .i64 m.r.pn, .int .i64 m.r.pr, .int .i64 m.r.bn, .int .i64 m.r.br, .int .i64 m.r.c.k, .int .i64 m.r.c.tc, .int .i64 m.r.c.tn, .int .i64 m.r.c.tt, .int .i64 m.r.c.tk, .int .i64 m.r.c.sh, va, vb, .bool m.r.c.cm, .int .i64 m.r.sq, .int .i64 m.r.d0, .int .i64 m.r.d1, .int .i64 m.r.d2, .int .i64 m.r.d3, .int .i64 m.r.d4, .int .i64 m.r.d5, .int .i64 m.r.d6, .bool m.r.kp] _ M2w Tryz.underlying49 rfl (by kernel_rfl) ?_)
    | (go_at_call 18
       have HA := handle_any HX2.out hl hX p m HM2.out F
       rw [← HS.out] at HA
       refine HA.mono ?_
       clear HA HS
       rintro e w3 ⟨xa, xb, ya, yb, rfl, t1, t2, hb⟩
       have HB3 := Lib.hid (below_on HB2.out hb)
       have HB23 := Lib.hid hb
       have HX3 := Lib.hid (HX2.out.below hb)
       have M3 := Lib.hid (M2.out.on hb)
       have T1 := Lib.hid t1
       have T2 := Lib.hid t2
       have o5 : (stc st xa xb ya yb).all (·.oneCell') = true := stc_one (rds_one t1.rs) (wrs_one t1.ws) (rds_one t2.rs) (wrs_one t2.ws)
       clear hb t1 t2)
    | (with_reducible refine store_freshA rfl 52 _ _ rfl w3.heap.size rfl 52 _ (stc st xa xb ya yb) rfl rfl rfl (stc_size _ _ _ _ _) o5 ?_
       intro w4 S4 b4
       have HB4 := Lib.hid (below_on HB3.out b4)
       have HB34 := Lib.hid b4
       have HX4 := Lib.hid (HX3.out.below b4)
       have M4 := Lib.hid (M3.out.on b4)
       have T14 := Lib.hid (T1.out.below b4)
       have T24 := Lib.hid (T2.out.below b4)
       have S4w := S4.cel.whole
       have HS4 := Lib.hid S4
       obtain ⟨v6, w6, hr6, ho6, hb6⟩ := copy_recs HX4.out hl
       obtain ⟨A6, c6, ev6⟩ := ownsRow_slice ho6
       subst ev6
       have HO6 := Lib.hid ho6
       have HB6 := Lib.hid (below_on HB4.out hb6)
       have HX6 := Lib.hid (HX4.out.below hb6)
       have M6 := Lib.hid (M4.out.on hb6)
       have S6 := Lib.hid (HS4.out.on hb6)
       have T16 := Lib.hid (T14.out.below hb6)
       have T26 := Lib.hid (T24.out.below hb6)
       have s25 : w6.cell? ⟨w3.heap.size, 25, none⟩ = some (.bool st.new) := hold_cell S6.out 25 rfl
       have hs46 := Lib.hid hb6.size
       have HB46 := Lib.hid hb6
       clear ho6 hb6
       obtain ⟨v8, w8, hr8, ho8, hb8⟩ := more_recs (x := ⟨st.r, xa, xb⟩) HO6.out hs46.out T16.out hl
       obtain ⟨A8, c8, ev8⟩ := ownsRow_slice ho8
       subst ev8
       have hb68 := hb8 w4.heap.size w4 (Nat.le_refl _) HB46.out
       have HB8 := Lib.hid (below_on HB4.out hb68)
       have M8 := Lib.hid (M4.out.on hb68)
       have S8 := Lib.hid (HS4.out.on hb68)
       have T18 := Lib.hid (T14.out.below hb68)
       have T28 := Lib.hid (T24.out.below hb68)
       have HX8 := Lib.hid (HX4.out.below hb68)
       have HY8 := Lib.hid (show Rows w8 (.slice A8 (X.length + 1) c8) (X ++ [⟨st.r, xa, xb⟩]) from by
         have := rows_snoc ho8 HX8.out.tx T18.out
         rwa [List.length_append, List.length_singleton] at this)
       have hly : (X ++ [(⟨st.r, xa, xb⟩ : Rv)]).length ≤ 1000 := by rw [List.length_append]; have := hl20.out; simp; omega
       have hXY := mem_snoc (P := fun x : Rv => M.Mod x.r.c) (y := ⟨st.r, xa, xb⟩) hX HC.out.1
       have M8w := M8.out.cel.whole
       have HMF := Lib.hid (((HM2.out.below HB23.out).below HB34.out).below hb68)
       have HT8 := Lib.hid (HT.out xa xb)
       have sr6 := stc_rec S6.out
       clear ho8 hb68 hb8
       clear b4 S4)
    | (at_builtin
       refine Lib.wpList_append_run _ rfl _ _ _ _ rfl _ _ rfl rfl _ _ hr6 ?_
       clear hr6)
    | (with_reducible refine wpList_load_mid rfl 41 _ rfl w3.heap.size 0 rfl [.int .i64 st.r.ir, .int .i64 st.r.is, .int .i64 st.r.st, .int .i64 st.r.pn, .int .i64 st.r.pr, .int .i64 st.r.bn, .int .i64 st.r.br, .int .i64 st.r.c.k, .int .i64 st.r.c.tc, .int .i64 st.r.c.tn, .int .i64 st.r.c.tt, .int .i64 st.r.c.tk, .int .i64 st.r.c.sh, xa, xb, .bool st.r.c.cm, .int .i64 st.r.sq, .int .i64 st.r.d0, .int .i64 st.r.d1, .int .i64 st.r.d2, .int .i64 st.r.d3, .int .i64 st.r.d4, .int .i64 st.r.d5, .int .i64 st.r.d6, .bool st.r.kp] _ sr6 Tryz.underlying41 rfl (by kernel_rfl) ?_)
    | (with_reducible refine wpList_build44 rfl _ rfl ⟨st.r, xa, xb⟩ rfl ?_)
    | (at_builtin
       refine Lib.wpList_append_run _ rfl _ _ _ _ rfl _ _ rfl rfl _ _ hr8 ?_
       clear hr8)
    | (with_reducible refine wpList_load_mid rfl 49 _ rfl w.heap.size 0 rfl [.int .i64 m.k, .int .i64 m.fr, .int .i64 m.to, .int .i64 m.bn, .int .i64 m.br, .int .i64 m.r.ir, .int .i64 m.r.is, .int .i64 m.r.st, .int .i64 m.r.pn, .int .i64 m.r.pr, .int .i64 m.r.bn, .int .i64 m.r.br, .int .i64 m.r.c.k, .int .i64 m.r.c.tc, .int .i64 m.r.c.tn, .int .i64 m.r.c.tt, .int .i64 m.r.c.tk, .int .i64 m.r.c.sh, va, vb, .bool m.r.c.cm, .int .i64 m.r.sq, .int .i64 m.r.d0, .int .i64 m.r.d1, .int .i64 m.r.d2, .int .i64 m.r.d3, .int .i64 m.r.d4, .int .i64 m.r.d5, .int .i64 m.r.d6, .bool m.r.kp] _ M8w Tryz.underlying49 rfl (by kernel_rfl) ?_)
    | (go_at_call 18
       have HA := handle_any HY8.out hly hXY p m HMF.out F
       rw [HT8.out] at HA
       refine HA.mono ?_
       clear HA
       rintro e w9 ⟨ya1, ya2, yb1, yb2, rfl, t1, t2, hb⟩
       have HB9 := Lib.hid (below_on HB8.out hb)
       have S9 := Lib.hid (S8.out.on hb)
       have T29 := Lib.hid (T28.out.below hb)
       have U2 := Lib.hid t2
       have o9 : (stc ⟨zr, false, st.m, st.has⟩ ya1 ya2 yb1 yb2).all (·.oneCell') = true := stc_one (rds_one t1.rs) (wrs_one t1.ws) (rds_one t2.rs) (wrs_one t2.ws)
       clear hb t1 t2)
    | (with_reducible refine store_freshA rfl 52 _ _ rfl w9.heap.size rfl 52 _ (stc ⟨zr, false, st.m, st.has⟩ ya1 ya2 yb1 yb2) rfl rfl rfl (stc_size _ _ _ _ _) o9 ?_
       intro w10 R10 b10
       have HB10 := Lib.hid (below_on HB9.out b10)
       have S10 := S9.out.on b10
       have T210 := T29.out.below b10
       have U210 := U2.out.below b10
       have r25 : w10.cell? ⟨w9.heap.size, 25, none⟩ = some (.bool false) := hold_cell R10 25 rfl
       have r56 : w10.cell? ⟨w9.heap.size, 56, none⟩ = some (.bool st.has) := hold_cell R10 56 rfl
       have s56 : w10.cell? ⟨w3.heap.size, 56, none⟩ = some (.bool st.has) := hold_cell S10 56 rfl
       have rm := stc_msg R10
       have sm := stc_msg S10
       have HD := dsame_msg (w := w10) st.m st.m U210.rs U210.ws T210.rs T210.ws HC.out.2.l HC.out.2.l'
       rw [M.sameMsg_self] at HD
       have HDM := Lib.hid HD
       clear b10 HD)
    | (with_reducible refine wpList_load_mid_g ?_ 49 _ rfl w9.heap.size 26 rfl [.int .i64 st.m.k, .int .i64 st.m.fr, .int .i64 st.m.to, .int .i64 st.m.bn, .int .i64 st.m.br, .int .i64 st.m.r.ir, .int .i64 st.m.r.is, .int .i64 st.m.r.st, .int .i64 st.m.r.pn, .int .i64 st.m.r.pr, .int .i64 st.m.r.bn, .int .i64 st.m.r.br, .int .i64 st.m.r.c.k, .int .i64 st.m.r.c.tc, .int .i64 st.m.r.c.tn, .int .i64 st.m.r.c.tt, .int .i64 st.m.r.c.tk, .int .i64 st.m.r.c.sh, yb1, yb2, .bool st.m.r.c.cm, .int .i64 st.m.r.sq, .int .i64 st.m.r.d0, .int .i64 st.m.r.d1, .int .i64 st.m.r.d2, .int .i64 st.m.r.d3, .int .i64 st.m.r.d4, .int .i64 st.m.r.d5, .int .i64 st.m.r.d6, .bool st.m.r.kp] _ rm Tryz.underlying49 rfl (by kernel_rfl) ?_; kernel_rfl)
    | (with_reducible refine wpList_load_mid_g ?_ 49 _ rfl w3.heap.size 26 rfl [.int .i64 st.m.k, .int .i64 st.m.fr, .int .i64 st.m.to, .int .i64 st.m.bn, .int .i64 st.m.br, .int .i64 st.m.r.ir, .int .i64 st.m.r.is, .int .i64 st.m.r.st, .int .i64 st.m.r.pn, .int .i64 st.m.r.pr, .int .i64 st.m.r.bn, .int .i64 st.m.r.br, .int .i64 st.m.r.c.k, .int .i64 st.m.r.c.tc, .int .i64 st.m.r.c.tn, .int .i64 st.m.r.c.tt, .int .i64 st.m.r.c.tk, .int .i64 st.m.r.c.sh, ya, yb, .bool st.m.r.c.cm, .int .i64 st.m.r.sq, .int .i64 st.m.r.d0, .int .i64 st.m.r.d1, .int .i64 st.m.r.d2, .int .i64 st.m.r.d3, .int .i64 st.m.r.d4, .int .i64 st.m.r.d5, .int .i64 st.m.r.d6, .bool st.m.r.kp] _ sm Tryz.underlying49 rfl (by kernel_rfl) ?_; kernel_rfl)
    | (go_at_call 23
       refine HDM.out.mono ?_
       rintro e w11 ⟨rfl, hb⟩
       have HB11 := Lib.hid (below_on HB10.out hb)
       clear hb)
    | (go_at_call 10
       refine (awake_any _).mono ?_
       rintro e wz ⟨rfl, hb⟩
       have HBZ := Lib.hid (below_on HB11.out hb)
       clear hb)
    | fail)
    go_ret
    exact ⟨rfl, HBZ.out⟩
end Go.Proofs.YtpknkhgkejkpkaaGreat
