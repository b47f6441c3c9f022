/- Contract of Handle; no conditions but those that it names. -/
import Derived.Test.YtpknkhgkejkpkaaGreatPre
import Derived.Test.YtpknkhgkejkpkaaGreatReq
import Derived.Test.YtpknkhgkejkpkaaGreatFre
namespace Go.Proofs.YtpknkhgkejkpkaaGreat
open Go.ChangeShapes Go.WideShapes Go.ChangeAt Go.RowKit

set_option maxHeartbeats 16000000 in
set_option maxRecDepth 100000 in
theorem handle_any {w : World} {v : Value} {X : List Rv} (h : Rows w v X) (hl : X.length ≤ 1000) (hX : ∀ x ∈ X, M.Mod x.r.c) (self : Int) (m : M.Msg) {va vb : Value} (hm : Txt w ⟨m.r, va, vb⟩) (F : M.Mod m.r.c) :
    Calls Tryz.prog 18 #[v, .int .i64 self, .agg #[.int .i64 m.k, .int .i64 m.fr, .int .i64 m.to, .int .i64 m.bn, .int .i64 m.br, .int .i64 m.r.ir, .int .i64 m.r.is, .int .i64 m.r.st, .int .i64 m.r.pn, .int .i64 m.r.pr, .int .i64 m.r.bn, .int .i64 m.r.br, .int .i64 m.r.c.k, .int .i64 m.r.c.tc, .int .i64 m.r.c.tn, .int .i64 m.r.c.tt, .int .i64 m.r.c.tk, .int .i64 m.r.c.sh, va, vb, .bool m.r.c.cm, .int .i64 m.r.sq, .int .i64 m.r.d0, .int .i64 m.r.d1, .int .i64 m.r.d2, .int .i64 m.r.d3, .int .i64 m.r.d4, .int .i64 m.r.d5, .int .i64 m.r.d6, .bool m.r.kp]] w (Tldn (M.handle X self m) w) := by
  obtain ⟨A, cc, rfl⟩ := rowN_sliceOf h.row
  have O3 : va.oneCell' = true := rds_one hm.rs
  have O4 : vb.oneCell' = true := wrs_one hm.ws
  have H0 := Lib.hid (show Hold ((w.alloc (.cells #[.int .i64 m.k, .int .i64 m.fr, .int .i64 m.to, .int .i64 m.bn, .int .i64 m.br, .int .i64 m.r.ir, .int .i64 m.r.is, .int .i64 m.r.st, .int .i64 m.r.pn, .int .i64 m.r.pr, .int .i64 m.r.bn, .int .i64 m.r.br, .int .i64 m.r.c.k, .int .i64 m.r.c.tc, .int .i64 m.r.c.tn, .int .i64 m.r.c.tt, .int .i64 m.r.c.tk, .int .i64 m.r.c.sh, va, vb, .bool m.r.c.cm, .int .i64 m.r.sq, .int .i64 m.r.d0, .int .i64 m.r.d1, .int .i64 m.r.d2, .int .i64 m.r.d3, .int .i64 m.r.d4, .int .i64 m.r.d5, .int .i64 m.r.d6, .bool m.r.kp] 49)).alloc (.cells #[.int .i64 0, .int .i64 0, .int .i64 0, .int .i64 0, .int .i64 0, .int .i64 0, .int .i64 0, .int .i64 0, .int .i64 0, .int .i64 0, .int .i64 0, .int .i64 0, .int .i64 0, .slice none 0 0, .slice none 0 0, .bool false, .int .i64 0, .int .i64 0, .int .i64 0, .int .i64 0, .int .i64 0, .int .i64 0, .int .i64 0, .int .i64 0, .bool false, .bool false, .int .i64 0, .int .i64 0, .int .i64 0, .int .i64 0, .int .i64 0, .int .i64 0, .int .i64 0, .int .i64 0, .int .i64 0, .int .i64 0, .int .i64 0, .int .i64 0, .int .i64 0, .int .i64 0, .int .i64 0, .int .i64 0, .int .i64 0, .int .i64 0, .slice none 0 0, .slice none 0 0, .bool false, .int .i64 0, .int .i64 0, .int .i64 0, .int .i64 0, .int .i64 0, .int .i64 0, .int .i64 0, .int .i64 0, .bool false, .bool false] 52)) w.heap.size 49 [.int .i64 m.k, .int .i64 m.fr, .int .i64 m.to, .int .i64 m.bn, .int .i64 m.br, .int .i64 m.r.ir, .int .i64 m.r.is, .int .i64 m.r.st, .int .i64 m.r.pn, .int .i64 m.r.pr, .int .i64 m.r.bn, .int .i64 m.r.br, .int .i64 m.r.c.k, .int .i64 m.r.c.tc, .int .i64 m.r.c.tn, .int .i64 m.r.c.tt, .int .i64 m.r.c.tk, .int .i64 m.r.c.sh, va, vb, .bool m.r.c.cm, .int .i64 m.r.sq, .int .i64 m.r.d0, .int .i64 m.r.d1, .int .i64 m.r.d2, .int .i64 m.r.d3, .int .i64 m.r.d4, .int .i64 m.r.d5, .int .i64 m.r.d6, .bool m.r.kp] from (Hold.new w [.int .i64 m.k, .int .i64 m.fr, .int .i64 m.to, .int .i64 m.bn, .int .i64 m.br, .int .i64 m.r.ir, .int .i64 m.r.is, .int .i64 m.r.st, .int .i64 m.r.pn, .int .i64 m.r.pr, .int .i64 m.r.bn, .int .i64 m.r.br, .int .i64 m.r.c.k, .int .i64 m.r.c.tc, .int .i64 m.r.c.tn, .int .i64 m.r.c.tt, .int .i64 m.r.c.tk, .int .i64 m.r.c.sh, va, vb, .bool m.r.c.cm, .int .i64 m.r.sq, .int .i64 m.r.d0, .int .i64 m.r.d1, .int .i64 m.r.d2, .int .i64 m.r.d3, .int .i64 m.r.d4, .int .i64 m.r.d5, .int .i64 m.r.d6, .bool m.r.kp] 49).on (below_new (o := .cells #[.int .i64 0, .int .i64 0, .int .i64 0, .int .i64 0, .int .i64 0, .int .i64 0, .int .i64 0, .int .i64 0, .int .i64 0, .int .i64 0, .int .i64 0, .int .i64 0, .int .i64 0, .slice none 0 0, .slice none 0 0, .bool false, .int .i64 0, .int .i64 0, .int .i64 0, .int .i64 0, .int .i64 0, .int .i64 0, .int .i64 0, .int .i64 0, .bool false, .bool false, .int .i64 0, .int .i64 0, .int .i64 0, .int .i64 0, .int .i64 0, .int .i64 0, .int .i64 0, .int .i64 0, .int .i64 0, .int .i64 0, .int .i64 0, .int .i64 0, .int .i64 0, .int .i64 0, .int .i64 0, .int .i64 0, .int .i64 0, .int .i64 0, .slice none 0 0, .slice none 0 0, .bool false, .int .i64 0, .int .i64 0, .int .i64 0, .int .i64 0, .int .i64 0, .int .i64 0, .int .i64 0, .int .i64 0, .bool false, .bool false] 52) (Below.refl _ _)))
  have H1 := Lib.hid (show Hold ((w.alloc (.cells #[.int .i64 m.k, .int .i64 m.fr, .int .i64 m.to, .int .i64 m.bn, .int .i64 m.br, .int .i64 m.r.ir, .int .i64 m.r.is, .int .i64 m.r.st, .int .i64 m.r.pn, .int .i64 m.r.pr, .int .i64 m.r.bn, .int .i64 m.r.br, .int .i64 m.r.c.k, .int .i64 m.r.c.tc, .int .i64 m.r.c.tn, .int .i64 m.r.c.tt, .int .i64 m.r.c.tk, .int .i64 m.r.c.sh, va, vb, .bool m.r.c.cm, .int .i64 m.r.sq, .int .i64 m.r.d0, .int .i64 m.r.d1, .int .i64 m.r.d2, .int .i64 m.r.d3, .int .i64 m.r.d4, .int .i64 m.r.d5, .int .i64 m.r.d6, .bool m.r.kp] 49)).alloc (.cells #[.int .i64 0, .int .i64 0, .int .i64 0, .int .i64 0, .int .i64 0, .int .i64 0, .int .i64 0, .int .i64 0, .int .i64 0, .int .i64 0, .int .i64 0, .int .i64 0, .int .i64 0, .slice none 0 0, .slice none 0 0, .bool false, .int .i64 0, .int .i64 0, .int .i64 0, .int .i64 0, .int .i64 0, .int .i64 0, .int .i64 0, .int .i64 0, .bool false, .bool false, .int .i64 0, .int .i64 0, .int .i64 0, .int .i64 0, .int .i64 0, .int .i64 0, .int .i64 0, .int .i64 0, .int .i64 0, .int .i64 0, .int .i64 0, .int .i64 0, .int .i64 0, .int .i64 0, .int .i64 0, .int .i64 0, .int .i64 0, .int .i64 0, .slice none 0 0, .slice none 0 0, .bool false, .int .i64 0, .int .i64 0, .int .i64 0, .int .i64 0, .int .i64 0, .int .i64 0, .int .i64 0, .int .i64 0, .bool false, .bool false] 52)) (w.heap.size + 1) 52 [.int .i64 0, .int .i64 0, .int .i64 0, .int .i64 0, .int .i64 0, .int .i64 0, .int .i64 0, .int .i64 0, .int .i64 0, .int .i64 0, .int .i64 0, .int .i64 0, .int .i64 0, .slice none 0 0, .slice none 0 0, .bool false, .int .i64 0, .int .i64 0, .int .i64 0, .int .i64 0, .int .i64 0, .int .i64 0, .int .i64 0, .int .i64 0, .bool false, .bool false, .int .i64 0, .int .i64 0, .int .i64 0, .int .i64 0, .int .i64 0, .int .i64 0, .int .i64 0, .int .i64 0, .int .i64 0, .int .i64 0, .int .i64 0, .int .i64 0, .int .i64 0, .int .i64 0, .int .i64 0, .int .i64 0, .int .i64 0, .int .i64 0, .slice none 0 0, .slice none 0 0, .bool false, .int .i64 0, .int .i64 0, .int .i64 0, .int .i64 0, .int .i64 0, .int .i64 0, .int .i64 0, .int .i64 0, .bool false, .bool false] from by
    have := Hold.new (w.alloc (.cells #[.int .i64 m.k, .int .i64 m.fr, .int .i64 m.to, .int .i64 m.bn, .int .i64 m.br, .int .i64 m.r.ir, .int .i64 m.r.is, .int .i64 m.r.st, .int .i64 m.r.pn, .int .i64 m.r.pr, .int .i64 m.r.bn, .int .i64 m.r.br, .int .i64 m.r.c.k, .int .i64 m.r.c.tc, .int .i64 m.r.c.tn, .int .i64 m.r.c.tt, .int .i64 m.r.c.tk, .int .i64 m.r.c.sh, va, vb, .bool m.r.c.cm, .int .i64 m.r.sq, .int .i64 m.r.d0, .int .i64 m.r.d1, .int .i64 m.r.d2, .int .i64 m.r.d3, .int .i64 m.r.d4, .int .i64 m.r.d5, .int .i64 m.r.d6, .bool m.r.kp] 49)) [.int .i64 0, .int .i64 0, .int .i64 0, .int .i64 0, .int .i64 0, .int .i64 0, .int .i64 0, .int .i64 0, .int .i64 0, .int .i64 0, .int .i64 0, .int .i64 0, .int .i64 0, .slice none 0 0, .slice none 0 0, .bool false, .int .i64 0, .int .i64 0, .int .i64 0, .int .i64 0, .int .i64 0, .int .i64 0, .int .i64 0, .int .i64 0, .bool false, .bool false, .int .i64 0, .int .i64 0, .int .i64 0, .int .i64 0, .int .i64 0, .int .i64 0, .int .i64 0, .int .i64 0, .int .i64 0, .int .i64 0, .int .i64 0, .int .i64 0, .int .i64 0, .int .i64 0, .int .i64 0, .int .i64 0, .int .i64 0, .int .i64 0, .slice none 0 0, .slice none 0 0, .bool false, .int .i64 0, .int .i64 0, .int .i64 0, .int .i64 0, .int .i64 0, .int .i64 0, .int .i64 0, .int .i64 0, .bool false, .bool false] 52
    rwa [show (w.alloc (.cells #[.int .i64 m.k, .int .i64 m.fr, .int .i64 m.to, .int .i64 m.bn, .int .i64 m.br, .int .i64 m.r.ir, .int .i64 m.r.is, .int .i64 m.r.st, .int .i64 m.r.pn, .int .i64 m.r.pr, .int .i64 m.r.bn, .int .i64 m.r.br, .int .i64 m.r.c.k, .int .i64 m.r.c.tc, .int .i64 m.r.c.tn, .int .i64 m.r.c.tt, .int .i64 m.r.c.tk, .int .i64 m.r.c.sh, va, vb, .bool m.r.c.cm, .int .i64 m.r.sq, .int .i64 m.r.d0, .int .i64 m.r.d1, .int .i64 m.r.d2, .int .i64 m.r.d3, .int .i64 m.r.d4, .int .i64 m.r.d5, .int .i64 m.r.d6, .bool m.r.kp] 49)).heap.size = w.heap.size + 1 by simp] at this)
  have HB := Lib.hid (show Below w.heap.size w ((w.alloc (.cells #[.int .i64 m.k, .int .i64 m.fr, .int .i64 m.to, .int .i64 m.bn, .int .i64 m.br, .int .i64 m.r.ir, .int .i64 m.r.is, .int .i64 m.r.st, .int .i64 m.r.pn, .int .i64 m.r.pr, .int .i64 m.r.bn, .int .i64 m.r.br, .int .i64 m.r.c.k, .int .i64 m.r.c.tc, .int .i64 m.r.c.tn, .int .i64 m.r.c.tt, .int .i64 m.r.c.tk, .int .i64 m.r.c.sh, va, vb, .bool m.r.c.cm, .int .i64 m.r.sq, .int .i64 m.r.d0, .int .i64 m.r.d1, .int .i64 m.r.d2, .int .i64 m.r.d3, .int .i64 m.r.d4, .int .i64 m.r.d5, .int .i64 m.r.d6, .bool m.r.kp] 49)).alloc (.cells #[.int .i64 0, .int .i64 0, .int .i64 0, .int .i64 0, .int .i64 0, .int .i64 0, .int .i64 0, .int .i64 0, .int .i64 0, .int .i64 0, .int .i64 0, .int .i64 0, .int .i64 0, .slice none 0 0, .slice none 0 0, .bool false, .int .i64 0, .int .i64 0, .int .i64 0, .int .i64 0, .int .i64 0, .int .i64 0, .int .i64 0, .int .i64 0, .bool false, .bool false, .int .i64 0, .int .i64 0, .int .i64 0, .int .i64 0, .int .i64 0, .int .i64 0, .int .i64 0, .int .i64 0, .int .i64 0, .int .i64 0, .int .i64 0, .int .i64 0, .int .i64 0, .int .i64 0, .int .i64 0, .int .i64 0, .int .i64 0, .int .i64 0, .slice none 0 0, .slice none 0 0, .bool false, .int .i64 0, .int .i64 0, .int .i64 0, .int .i64 0, .int .i64 0, .int .i64 0, .int .i64 0, .int .i64 0, .bool false, .bool false] 52)) from below_new (below_new (Below.refl _ _)))
  have HQ := Lib.hid (isReq_any m (hm.below HB.out) F self)
  have HM := Lib.hid hm
  have HX := Lib.hid h
  clear hm h
  rcases hq : M.reqB m self with _ | _
  · have HE := Lib.hid (show M.handle X self m = (M.stp0, 1) by unfold M.handle; rw [hq]; rfl)
    rw [hq] at HQ
    rw [HE.out]
    have O5 : (stc M.stp0 NS NS NS NS).all (·.oneCell') = true := stc_one rfl rfl rfl rfl
    go_enter Tryz.func18, Tryz.ntmps18
    go_wp2_with (first
    | (with_reducible refine wpList_load_mid rfl 49 _ rfl w.heap.size 0 rfl [.int .i64 m.k, .int .i64 m.fr, .int .i64 m.to, .int .i64 m.bn, .int .i64 m.br, .int .i64 m.r.ir, .int .i64 m.r.is, .int .i64 m.r.st, .int .i64 m.r.pn, .int .i64 m.r.pr, .int .i64 m.r.bn, .int .i64 m.r.br, .int .i64 m.r.c.k, .int .i64 m.r.c.tc, .int .i64 m.r.c.tn, .int .i64 m.r.c.tt, .int .i64 m.r.c.tk, .int .i64 m.r.c.sh, va, vb, .bool m.r.c.cm, .int .i64 m.r.sq, .int .i64 m.r.d0, .int .i64 m.r.d1, .int .i64 m.r.d2, .int .i64 m.r.d3, .int .i64 m.r.d4, .int .i64 m.r.d5, .int .i64 m.r.d6, .bool m.r.kp] _ H0.out.cel.whole Tryz.underlying49 rfl (by kernel_rfl) ?_)
    | (go_at_call 35
       refine HQ.out.mono ?_
       rintro e w1 ⟨rfl, hb⟩
       have HB1 := Lib.hid (below_on HB.out hb)
       have Z1 := H1.out.on hb
       clear hb)
    | (with_reducible refine wpList_buildTo rfl 52 _ rfl _ rfl (stc M.stp0 NS NS NS NS).toArray (by kernel_rfl) ?_)
    | (with_reducible refine store_hold rfl 52 _ _ rfl (w.heap.size + 1) 0 rfl 52 (stc M.stp0 NS NS NS NS) [.int .i64 0, .int .i64 0, .int .i64 0, .int .i64 0, .int .i64 0, .int .i64 0, .int .i64 0, .int .i64 0, .int .i64 0, .int .i64 0, .int .i64 0, .int .i64 0, .int .i64 0, .slice none 0 0, .slice none 0 0, .bool false, .int .i64 0, .int .i64 0, .int .i64 0, .int .i64 0, .int .i64 0, .int .i64 0, .int .i64 0, .int .i64 0, .bool false, .bool false, .int .i64 0, .int .i64 0, .int .i64 0, .int .i64 0, .int .i64 0, .int .i64 0, .int .i64 0, .int .i64 0, .int .i64 0, .int .i64 0, .int .i64 0, .int .i64 0, .int .i64 0, .int .i64 0, .int .i64 0, .int .i64 0, .int .i64 0, .int .i64 0, .slice none 0 0, .slice none 0 0, .bool false, .int .i64 0, .int .i64 0, .int .i64 0, .int .i64 0, .int .i64 0, .int .i64 0, .int .i64 0, .int .i64 0, .bool false, .bool false] (stc M.stp0 NS NS NS NS) rfl Z1 (by kernel_rfl) (of_decide_eq_true (by kernel_rfl)) (by kernel_rfl) O5 ?_; intro w6 H6 K6; have HB6 := Lib.hid (K6.below w.heap.size w (by omega) HB1.out))
    | fail)
    refine bodyPost_ret (results_cv rfl rfl rfl H6.cel.whole _ Tryz.underlying52 rfl (stc_size _ _ _ _ _)) rfl ?_
    exact ⟨NS, NS, NS, NS, rfl, txt_none _, txt_none _, HB6.out⟩
  · have HE := Lib.hid (show M.handle X self m = M.answer X (M.knowL (rcs X) m.r.ir m.r.is) m by unfold M.handle; rw [hq]; rfl)
    rw [hq] at HQ
    rw [HE.out]
    obtain ⟨k, hk⟩ : ∃ k, k = M.knowL (rcs X) m.r.ir m.r.is := ⟨_, rfl⟩
    rw [← hk]
    have HKN := Lib.hid hk
    clear hq hk
    go_enter Tryz.func18, Tryz.ntmps18
    go_wp2_with (first
    | (with_reducible refine wpList_load_mid rfl 49 _ rfl w.heap.size 0 rfl [.int .i64 m.k, .int .i64 m.fr, .int .i64 m.to, .int .i64 m.bn, .int .i64 m.br, .int .i64 m.r.ir, .int .i64 m.r.is, .int .i64 m.r.st, .int .i64 m.r.pn, .int .i64 m.r.pr, .int .i64 m.r.bn, .int .i64 m.r.br, .int .i64 m.r.c.k, .int .i64 m.r.c.tc, .int .i64 m.r.c.tn, .int .i64 m.r.c.tt, .int .i64 m.r.c.tk, .int .i64 m.r.c.sh, va, vb, .bool m.r.c.cm, .int .i64 m.r.sq, .int .i64 m.r.d0, .int .i64 m.r.d1, .int .i64 m.r.d2, .int .i64 m.r.d3, .int .i64 m.r.d4, .int .i64 m.r.d5, .int .i64 m.r.d6, .bool m.r.kp] _ H0.out.cel.whole Tryz.underlying49 rfl (by kernel_rfl) ?_)
    | (go_at_call 35
       refine HQ.out.mono ?_
       rintro e w1 ⟨rfl, hb⟩
       have HB1 := Lib.hid (below_on HB.out hb)
       have M1 := H0.out.on hb
       have Z1 := H1.out.on hb
       have cm1 := hold_range M1 12 [.int .i64 m.r.c.k, .int .i64 m.r.c.tc, .int .i64 m.r.c.tn, .int .i64 m.r.c.tt, .int .i64 m.r.c.tk, .int .i64 m.r.c.sh, va, vb, .bool m.r.c.cm] (fun j v hj => by
         match j, hj with
         | 0, hj => exact hj
         | 1, hj => exact hj
         | 2, hj => exact hj
         | 3, hj => exact hj
         | 4, hj => exact hj
         | 5, hj => exact hj
         | 6, hj => exact hj
         | 7, hj => exact hj
         | 8, hj => exact hj)
       clear hb)
    | (with_reducible refine wpList_load_mid rfl 30 _ rfl w.heap.size 12 rfl [.int .i64 m.r.c.k, .int .i64 m.r.c.tc, .int .i64 m.r.c.tn, .int .i64 m.r.c.tt, .int .i64 m.r.c.tk, .int .i64 m.r.c.sh, va, vb, .bool m.r.c.cm] _ cm1 Tryz.underlying30 rfl (by kernel_rfl) ?_)
    | (go_at_call 28
       refine (clone_any m.r.c (HM.out.below HB1.out).rs (HM.out.below HB1.out).ws F.l F.l').mono ?_
       rintro e w2 ⟨ua, ub, rfl, ho, ho', hb⟩
       have HB2 := Lib.hid (below_on HB1.out hb)
       have M2 := M1.on hb
       have Z2 := Z1.on hb
       have U1 : ua.oneCell' = true := by obtain ⟨_, _, e⟩ := ownsRow_slice ho; rw [e]; rfl
       have U2 : ub.oneCell' = true := by obtain ⟨_, _, e⟩ := ownsRow_slice ho'; rw [e]; rfl
       have OA := Lib.hid ho
       have OB := Lib.hid ho'
       have hlt := Lib.hid (hold_lt M1)
       have oc : ([.int .i64 m.r.c.k, .int .i64 m.r.c.tc, .int .i64 m.r.c.tn, .int .i64 m.r.c.tt, .int .i64 m.r.c.tk, .int .i64 m.r.c.sh, ua, ub, .bool m.r.c.cm] : List Value).all (·.oneCell') = true := by
         simp only [List.all_cons, List.all_nil, U1, U2]; rfl
       clear ho ho' hb M1 Z1 cm1)
    | (with_reducible refine store_hold rfl 30 _ _ rfl w.heap.size 12 rfl 49 [.int .i64 m.r.c.k, .int .i64 m.r.c.tc, .int .i64 m.r.c.tn, .int .i64 m.r.c.tt, .int .i64 m.r.c.tk, .int .i64 m.r.c.sh, ua, ub, .bool m.r.c.cm] [.int .i64 m.k, .int .i64 m.fr, .int .i64 m.to, .int .i64 m.bn, .int .i64 m.br, .int .i64 m.r.ir, .int .i64 m.r.is, .int .i64 m.r.st, .int .i64 m.r.pn, .int .i64 m.r.pr, .int .i64 m.r.bn, .int .i64 m.r.br, .int .i64 m.r.c.k, .int .i64 m.r.c.tc, .int .i64 m.r.c.tn, .int .i64 m.r.c.tt, .int .i64 m.r.c.tk, .int .i64 m.r.c.sh, va, vb, .bool m.r.c.cm, .int .i64 m.r.sq, .int .i64 m.r.d0, .int .i64 m.r.d1, .int .i64 m.r.d2, .int .i64 m.r.d3, .int .i64 m.r.d4, .int .i64 m.r.d5, .int .i64 m.r.d6, .bool m.r.kp] [.int .i64 m.k, .int .i64 m.fr, .int .i64 m.to, .int .i64 m.bn, .int .i64 m.br, .int .i64 m.r.ir, .int .i64 m.r.is, .int .i64 m.r.st, .int .i64 m.r.pn, .int .i64 m.r.pr, .int .i64 m.r.bn, .int .i64 m.r.br, .int .i64 m.r.c.k, .int .i64 m.r.c.tc, .int .i64 m.r.c.tn, .int .i64 m.r.c.tt, .int .i64 m.r.c.tk, .int .i64 m.r.c.sh, ua, ub, .bool m.r.c.cm, .int .i64 m.r.sq, .int .i64 m.r.d0, .int .i64 m.r.d1, .int .i64 m.r.d2, .int .i64 m.r.d3, .int .i64 m.r.d4, .int .i64 m.r.d5, .int .i64 m.r.d6, .bool m.r.kp] rfl M2 (by kernel_rfl) (of_decide_eq_true (by kernel_rfl)) (by kernel_rfl) oc ?_
       intro w3 M3 K3
       have Z3 := K3.hold Z2 (by omega)
       have HB3 := Lib.hid (K3.below w.heap.size w (Nat.le_refl _) HB2.out)
       have HU3 := Lib.hid (show Txt w3 ⟨m.r, ua, ub⟩ from ⟨RowN.of_owns (K3.owns OA.out hlt.out), RowN.of_owns (K3.owns OB.out hlt.out)⟩)
       have ci3 := hold_range M3 5 [.int .i64 m.r.ir, .int .i64 m.r.is] (fun j v hj => by
         match j, hj with
         | 0, hj => exact hj
         | 1, hj => exact hj)
       clear M2 Z2 K3 OA OB hlt oc)
    | (with_reducible refine wpList_load_mid rfl 32 _ rfl w.heap.size 5 rfl [.int .i64 m.r.ir, .int .i64 m.r.is] _ ci3 Tryz.underlying32 rfl (by kernel_rfl) ?_)
    | fail)
    refine (know_any (HX.out.below HB3.out) hl (fun x hx => ⟨(hX x hx).l, (hX x hx).l'⟩) m.r.ir m.r.is).mono ?_
    rw [← HKN.out]
    rintro e w4 ⟨ka, kb, he, ht, hb⟩
    change e = .returned (.agg #[.int .i64 k.ir, .int .i64 k.is, .int .i64 k.st, .int .i64 k.pn, .int .i64 k.pr, .int .i64 k.bn, .int .i64 k.br, .int .i64 k.c.k, .int .i64 k.c.tc, .int .i64 k.c.tn, .int .i64 k.c.tt, .int .i64 k.c.tk, .int .i64 k.c.sh, ka, kb, .bool k.c.cm, .int .i64 k.sq, .int .i64 k.d0, .int .i64 k.d1, .int .i64 k.d2, .int .i64 k.d3, .int .i64 k.d4, .int .i64 k.d5, .int .i64 k.d6, .bool k.kp]) at he
    subst he
    have HB4 := Lib.hid (below_on HB3.out hb)
    have M4 := Lib.hid (M3.on hb)
    have Z4 := Lib.hid (Z3.on hb)
    have HU4 := Lib.hid (HU3.out.below hb)
    have HT4 := Lib.hid ht
    have V1 : ka.oneCell' = true := rds_one ht.rs
    have V2 : kb.oneCell' = true := wrs_one ht.ws
    have OK : ([.int .i64 k.ir, .int .i64 k.is, .int .i64 k.st, .int .i64 k.pn, .int .i64 k.pr, .int .i64 k.bn, .int .i64 k.br, .int .i64 k.c.k, .int .i64 k.c.tc, .int .i64 k.c.tn, .int .i64 k.c.tt, .int .i64 k.c.tk, .int .i64 k.c.sh, ka, kb, .bool k.c.cm, .int .i64 k.sq, .int .i64 k.d0, .int .i64 k.d1, .int .i64 k.d2, .int .i64 k.d3, .int .i64 k.d4, .int .i64 k.d5, .int .i64 k.d6, .bool k.kp] : List Value).all (·.oneCell') = true := rv_one (x := ⟨k, ka, kb⟩) V1 V2
    have hs4 := Lib.hid (show w.heap.size + 1 + 1 ≤ w4.heap.size by have := hold_lt Z4.out; omega)
    clear hb ht M3 Z3 HB3 HU3 ci3 HB1 HB2 HQ H0 H1 HM
    by_cases h5 : m.k = 5
    · obtain ⟨p1, p2⟩ := eqI h5
      have HA := Lib.hid (show M.answer X k m = (M.commitS k m, 0) by unfold M.answer; rw [if_pos h5])
      clear h5
      go_wp2_with (first
      | (with_reducible refine store_freshA rfl 41 _ _ rfl w4.heap.size rfl 41 _ [.int .i64 k.ir, .int .i64 k.is, .int .i64 k.st, .int .i64 k.pn, .int .i64 k.pr, .int .i64 k.bn, .int .i64 k.br, .int .i64 k.c.k, .int .i64 k.c.tc, .int .i64 k.c.tn, .int .i64 k.c.tt, .int .i64 k.c.tk, .int .i64 k.c.sh, ka, kb, .bool k.c.cm, .int .i64 k.sq, .int .i64 k.d0, .int .i64 k.d1, .int .i64 k.d2, .int .i64 k.d3, .int .i64 k.d4, .int .i64 k.d5, .int .i64 k.d6, .bool k.kp] rfl rfl rfl (by kernel_rfl) OK ?_
         intro w5 G5 b5
         have M5 := M4.out.on b5
         have Z5 := Z4.out.on b5
         have HB5 := Lib.hid (below_on HB4.out b5)
         have HU5 := Lib.hid (HU4.out.below b5)
         have HT5 := Lib.hid (HT4.out.below b5)
         have HX5 := Lib.hid (HX.out.below HB5.out)
         have x0 : w5.cell? ⟨w.heap.size, 0, none⟩ = some (.int .i64 m.k) := hold_cell M5 0 rfl
         have x2 : w5.cell? ⟨w4.heap.size, 2, none⟩ = some (.int .i64 k.st) := hold_cell G5 2 rfl
         have MW := M5.cel.whole
         have GW := G5.cel.whole
         skip
         clear b5)
      | (with_reducible refine wpList_load_mid rfl 49 _ rfl w.heap.size 0 rfl [.int .i64 m.k, .int .i64 m.fr, .int .i64 m.to, .int .i64 m.bn, .int .i64 m.br, .int .i64 m.r.ir, .int .i64 m.r.is, .int .i64 m.r.st, .int .i64 m.r.pn, .int .i64 m.r.pr, .int .i64 m.r.bn, .int .i64 m.r.br, .int .i64 m.r.c.k, .int .i64 m.r.c.tc, .int .i64 m.r.c.tn, .int .i64 m.r.c.tt, .int .i64 m.r.c.tk, .int .i64 m.r.c.sh, ua, ub, .bool m.r.c.cm, .int .i64 m.r.sq, .int .i64 m.r.d0, .int .i64 m.r.d1, .int .i64 m.r.d2, .int .i64 m.r.d3, .int .i64 m.r.d4, .int .i64 m.r.d5, .int .i64 m.r.d6, .bool m.r.kp] _ MW Tryz.underlying49 rfl (by kernel_rfl) ?_)
      | (with_reducible refine wpList_load_mid rfl 41 _ rfl w4.heap.size 0 rfl [.int .i64 k.ir, .int .i64 k.is, .int .i64 k.st, .int .i64 k.pn, .int .i64 k.pr, .int .i64 k.bn, .int .i64 k.br, .int .i64 k.c.k, .int .i64 k.c.tc, .int .i64 k.c.tn, .int .i64 k.c.tt, .int .i64 k.c.tk, .int .i64 k.c.sh, ka, kb, .bool k.c.cm, .int .i64 k.sq, .int .i64 k.d0, .int .i64 k.d1, .int .i64 k.d2, .int .i64 k.d3, .int .i64 k.d4, .int .i64 k.d5, .int .i64 k.d6, .bool k.kp] _ GW Tryz.underlying41 rfl (by kernel_rfl) ?_)
      | (go_at_call 36
         refine (commit_any k m HT5.out HU5.out).mono ?_
         rintro e w7 ⟨xa, xb, ya, yb, rfl, t1, t2, hb⟩
         have Z7a := Z5.on hb
         have HB7 := Lib.hid (below_on HB5.out hb)
         have T1 := Lib.hid t1
         have T2 := Lib.hid t2
         have hz7 := Lib.hid (hold_lt Z7a)
         clear t1 t2
         clear hb)
      | (with_reducible refine store_hold rfl 52 _ _ rfl (w.heap.size + 1) 0 rfl 52 (stc (M.commitS k m) xa xb ya yb) [.int .i64 0, .int .i64 0, .int .i64 0, .int .i64 0, .int .i64 0, .int .i64 0, .int .i64 0, .int .i64 0, .int .i64 0, .int .i64 0, .int .i64 0, .int .i64 0, .int .i64 0, .slice none 0 0, .slice none 0 0, .bool false, .int .i64 0, .int .i64 0, .int .i64 0, .int .i64 0, .int .i64 0, .int .i64 0, .int .i64 0, .int .i64 0, .bool false, .bool false, .int .i64 0, .int .i64 0, .int .i64 0, .int .i64 0, .int .i64 0, .int .i64 0, .int .i64 0, .int .i64 0, .int .i64 0, .int .i64 0, .int .i64 0, .int .i64 0, .int .i64 0, .int .i64 0, .int .i64 0, .int .i64 0, .int .i64 0, .int .i64 0, .slice none 0 0, .slice none 0 0, .bool false, .int .i64 0, .int .i64 0, .int .i64 0, .int .i64 0, .int .i64 0, .int .i64 0, .int .i64 0, .int .i64 0, .bool false, .bool false] (stc (M.commitS k m) xa xb ya yb) rfl Z7a (by kernel_rfl) (of_decide_eq_true (by kernel_rfl)) (by kernel_rfl) (stc_one (rds_one T1.out.rs) (wrs_one T1.out.ws) (rds_one T2.out.rs) (wrs_one T2.out.ws)) ?_; intro w6 H6 K6; have HB6 := Lib.hid (K6.below w.heap.size w (by omega) HB7.out))
      | fail)
      refine bodyPost_ret (results_cv rfl rfl rfl H6.cel.whole _ Tryz.underlying52 rfl (stc_size _ _ _ _ _)) rfl ?_
      rw [HA.out]
      refine ⟨xa, xb, ya, yb, rfl, T1.out.wrote Z7a K6, T2.out.wrote Z7a K6, HB6.out⟩
    obtain ⟨p1, p2⟩ := neI h5
    by_cases hs : k.st = 3
    · obtain ⟨q1, q2⟩ := eqI hs
      have HA := Lib.hid (show M.answer X k m = (M.tellS m 5 k.bn k.br k, 0) by unfold M.answer; rw [if_neg h5, if_pos hs])
      clear h5 hs
      go_wp2_with (first
      | (with_reducible refine store_freshA rfl 41 _ _ rfl w4.heap.size rfl 41 _ [.int .i64 k.ir, .int .i64 k.is, .int .i64 k.st, .int .i64 k.pn, .int .i64 k.pr, .int .i64 k.bn, .int .i64 k.br, .int .i64 k.c.k, .int .i64 k.c.tc, .int .i64 k.c.tn, .int .i64 k.c.tt, .int .i64 k.c.tk, .int .i64 k.c.sh, ka, kb, .bool k.c.cm, .int .i64 k.sq, .int .i64 k.d0, .int .i64 k.d1, .int .i64 k.d2, .int .i64 k.d3, .int .i64 k.d4, .int .i64 k.d5, .int .i64 k.d6, .bool k.kp] rfl rfl rfl (by kernel_rfl) OK ?_
         intro w5 G5 b5
         have M5 := M4.out.on b5
         have Z5 := Z4.out.on b5
         have HB5 := Lib.hid (below_on HB4.out b5)
         have HU5 := Lib.hid (HU4.out.below b5)
         have HT5 := Lib.hid (HT4.out.below b5)
         have HX5 := Lib.hid (HX.out.below HB5.out)
         have x0 : w5.cell? ⟨w.heap.size, 0, none⟩ = some (.int .i64 m.k) := hold_cell M5 0 rfl
         have x2 : w5.cell? ⟨w4.heap.size, 2, none⟩ = some (.int .i64 k.st) := hold_cell G5 2 rfl
         have MW := M5.cel.whole
         have GW := G5.cel.whole
         have cb5 := hold_range G5 5 [.int .i64 k.bn, .int .i64 k.br] (fun j v hj => by
           match j, hj with
           | 0, hj => exact hj
           | 1, hj => exact hj)
         clear b5)
      | (with_reducible refine wpList_load_mid rfl 49 _ rfl w.heap.size 0 rfl [.int .i64 m.k, .int .i64 m.fr, .int .i64 m.to, .int .i64 m.bn, .int .i64 m.br, .int .i64 m.r.ir, .int .i64 m.r.is, .int .i64 m.r.st, .int .i64 m.r.pn, .int .i64 m.r.pr, .int .i64 m.r.bn, .int .i64 m.r.br, .int .i64 m.r.c.k, .int .i64 m.r.c.tc, .int .i64 m.r.c.tn, .int .i64 m.r.c.tt, .int .i64 m.r.c.tk, .int .i64 m.r.c.sh, ua, ub, .bool m.r.c.cm, .int .i64 m.r.sq, .int .i64 m.r.d0, .int .i64 m.r.d1, .int .i64 m.r.d2, .int .i64 m.r.d3, .int .i64 m.r.d4, .int .i64 m.r.d5, .int .i64 m.r.d6, .bool m.r.kp] _ MW Tryz.underlying49 rfl (by kernel_rfl) ?_)
      | (with_reducible refine wpList_load_mid rfl 41 _ rfl w4.heap.size 0 rfl [.int .i64 k.ir, .int .i64 k.is, .int .i64 k.st, .int .i64 k.pn, .int .i64 k.pr, .int .i64 k.bn, .int .i64 k.br, .int .i64 k.c.k, .int .i64 k.c.tc, .int .i64 k.c.tn, .int .i64 k.c.tt, .int .i64 k.c.tk, .int .i64 k.c.sh, ka, kb, .bool k.c.cm, .int .i64 k.sq, .int .i64 k.d0, .int .i64 k.d1, .int .i64 k.d2, .int .i64 k.d3, .int .i64 k.d4, .int .i64 k.d5, .int .i64 k.d6, .bool k.kp] _ GW Tryz.underlying41 rfl (by kernel_rfl) ?_)
      | (with_reducible refine wpList_load_mid rfl 37 _ rfl w4.heap.size 5 rfl [.int .i64 k.bn, .int .i64 k.br] _ cb5 Tryz.underlying37 rfl (by kernel_rfl) ?_)
      | (go_at_call 37
         refine (tell_any m 5 k.bn k.br k V1 V2 _).mono ?_
         rintro e w7 ⟨rfl, hb⟩
         have Z7a := Z5.on hb
         have HB7 := Lib.hid (below_on HB5.out hb)
         have HT7 := Lib.hid (HT5.out.below hb)
         clear hb)
      | (with_reducible refine store_hold rfl 52 _ _ rfl (w.heap.size + 1) 0 rfl 52 (stc (M.tellS m 5 k.bn k.br k) NS NS ka kb) [.int .i64 0, .int .i64 0, .int .i64 0, .int .i64 0, .int .i64 0, .int .i64 0, .int .i64 0, .int .i64 0, .int .i64 0, .int .i64 0, .int .i64 0, .int .i64 0, .int .i64 0, .slice none 0 0, .slice none 0 0, .bool false, .int .i64 0, .int .i64 0, .int .i64 0, .int .i64 0, .int .i64 0, .int .i64 0, .int .i64 0, .int .i64 0, .bool false, .bool false, .int .i64 0, .int .i64 0, .int .i64 0, .int .i64 0, .int .i64 0, .int .i64 0, .int .i64 0, .int .i64 0, .int .i64 0, .int .i64 0, .int .i64 0, .int .i64 0, .int .i64 0, .int .i64 0, .int .i64 0, .int .i64 0, .int .i64 0, .int .i64 0, .slice none 0 0, .slice none 0 0, .bool false, .int .i64 0, .int .i64 0, .int .i64 0, .int .i64 0, .int .i64 0, .int .i64 0, .int .i64 0, .int .i64 0, .bool false, .bool false] (stc (M.tellS m 5 k.bn k.br k) NS NS ka kb) rfl Z7a (by kernel_rfl) (of_decide_eq_true (by kernel_rfl)) (by kernel_rfl) (stc_one rfl rfl V1 V2) ?_; intro w6 H6 K6; have HB6 := Lib.hid (K6.below w.heap.size w (by omega) HB7.out))
      | fail)
      refine bodyPost_ret (results_cv rfl rfl rfl H6.cel.whole _ Tryz.underlying52 rfl (stc_size _ _ _ _ _)) rfl ?_
      rw [HA.out]
      exact ⟨NS, NS, ka, kb, rfl, txt_none _, (HT7.out.wrote Z7a K6).same rfl, HB6.out⟩
    obtain ⟨q1, q2⟩ := neI hs
    by_cases ho : M.ord m.bn m.br k.pn k.pr < 0
    · have ho1 : decide (M.ord m.bn m.br k.pn k.pr < 0) = true := decide_eq_true ho
      have HA := Lib.hid (show M.answer X k m = (M.tellS m 8 k.pn k.pr (M.recI k.ir k.is), 0) by unfold M.answer; rw [if_neg h5, if_neg hs, if_pos ho])
      clear h5 hs ho
      go_wp2_with (first
      | (with_reducible refine store_freshA rfl 41 _ _ rfl w4.heap.size rfl 41 _ [.int .i64 k.ir, .int .i64 k.is, .int .i64 k.st, .int .i64 k.pn, .int .i64 k.pr, .int .i64 k.bn, .int .i64 k.br, .int .i64 k.c.k, .int .i64 k.c.tc, .int .i64 k.c.tn, .int .i64 k.c.tt, .int .i64 k.c.tk, .int .i64 k.c.sh, ka, kb, .bool k.c.cm, .int .i64 k.sq, .int .i64 k.d0, .int .i64 k.d1, .int .i64 k.d2, .int .i64 k.d3, .int .i64 k.d4, .int .i64 k.d5, .int .i64 k.d6, .bool k.kp] rfl rfl rfl (by kernel_rfl) OK ?_
         intro w5 G5 b5
         have M5 := M4.out.on b5
         have Z5 := Z4.out.on b5
         have HB5 := Lib.hid (below_on HB4.out b5)
         have HU5 := Lib.hid (HU4.out.below b5)
         have HT5 := Lib.hid (HT4.out.below b5)
         have HX5 := Lib.hid (HX.out.below HB5.out)
         have x0 : w5.cell? ⟨w.heap.size, 0, none⟩ = some (.int .i64 m.k) := hold_cell M5 0 rfl
         have x2 : w5.cell? ⟨w4.heap.size, 2, none⟩ = some (.int .i64 k.st) := hold_cell G5 2 rfl
         have MW := M5.cel.whole
         have GW := G5.cel.whole
         have cm5 := hold_range M5 3 [.int .i64 m.bn, .int .i64 m.br] (fun j v hj => by
           match j, hj with
           | 0, hj => exact hj
           | 1, hj => exact hj)
         have cp5 := hold_range G5 3 [.int .i64 k.pn, .int .i64 k.pr] (fun j v hj => by
           match j, hj with
           | 0, hj => exact hj
           | 1, hj => exact hj)
         have HC5 := Lib.hid (compareBallots_any m.bn m.br k.pn k.pr w5)
         clear b5)
      | (with_reducible refine wpList_load_mid rfl 49 _ rfl w.heap.size 0 rfl [.int .i64 m.k, .int .i64 m.fr, .int .i64 m.to, .int .i64 m.bn, .int .i64 m.br, .int .i64 m.r.ir, .int .i64 m.r.is, .int .i64 m.r.st, .int .i64 m.r.pn, .int .i64 m.r.pr, .int .i64 m.r.bn, .int .i64 m.r.br, .int .i64 m.r.c.k, .int .i64 m.r.c.tc, .int .i64 m.r.c.tn, .int .i64 m.r.c.tt, .int .i64 m.r.c.tk, .int .i64 m.r.c.sh, ua, ub, .bool m.r.c.cm, .int .i64 m.r.sq, .int .i64 m.r.d0, .int .i64 m.r.d1, .int .i64 m.r.d2, .int .i64 m.r.d3, .int .i64 m.r.d4, .int .i64 m.r.d5, .int .i64 m.r.d6, .bool m.r.kp] _ MW Tryz.underlying49 rfl (by kernel_rfl) ?_)
      | (with_reducible refine wpList_load_mid rfl 41 _ rfl w4.heap.size 0 rfl [.int .i64 k.ir, .int .i64 k.is, .int .i64 k.st, .int .i64 k.pn, .int .i64 k.pr, .int .i64 k.bn, .int .i64 k.br, .int .i64 k.c.k, .int .i64 k.c.tc, .int .i64 k.c.tn, .int .i64 k.c.tt, .int .i64 k.c.tk, .int .i64 k.c.sh, ka, kb, .bool k.c.cm, .int .i64 k.sq, .int .i64 k.d0, .int .i64 k.d1, .int .i64 k.d2, .int .i64 k.d3, .int .i64 k.d4, .int .i64 k.d5, .int .i64 k.d6, .bool k.kp] _ GW Tryz.underlying41 rfl (by kernel_rfl) ?_)
      | (with_reducible refine wpList_load_mid rfl 37 _ rfl w.heap.size 3 rfl [.int .i64 m.bn, .int .i64 m.br] _ cm5 Tryz.underlying37 rfl (by kernel_rfl) ?_)
      | (with_reducible refine wpList_load_mid rfl 37 _ rfl w4.heap.size 3 rfl [.int .i64 k.pn, .int .i64 k.pr] _ cp5 Tryz.underlying37 rfl (by kernel_rfl) ?_)
      | (go_at_call 38
         refine HC5.out.mono ?_
         rintro e w8 ⟨rfl, hb⟩
         have M8 := M5.on hb
         have G8 := G5.on hb
         have Z8 := Z5.on hb
         have HB8 := Lib.hid (below_on HB5.out hb)
         have HU8 := Lib.hid (HU5.out.below hb)
         have HT8 := Lib.hid (HT5.out.below hb)
         have HX8 := Lib.hid (HX.out.below HB8.out)
         have y0 : w8.cell? ⟨w.heap.size, 0, none⟩ = some (.int .i64 m.k) := hold_cell M8 0 rfl
         have MW8 := M8.cel.whole
         have GW8 := G8.cel.whole
         have cq8 := hold_range G8 3 [.int .i64 k.pn, .int .i64 k.pr] (fun j v hj => by
           match j, hj with
           | 0, hj => exact hj
           | 1, hj => exact hj)
         have ci8 := hold_range G8 0 [.int .i64 k.ir, .int .i64 k.is] (fun j v hj => by
           match j, hj with
           | 0, hj => exact hj
           | 1, hj => exact hj)
         clear hb HC5 MW GW cm5 cp5)
      | (with_reducible refine wpList_load_mid rfl 49 _ rfl w.heap.size 0 rfl [.int .i64 m.k, .int .i64 m.fr, .int .i64 m.to, .int .i64 m.bn, .int .i64 m.br, .int .i64 m.r.ir, .int .i64 m.r.is, .int .i64 m.r.st, .int .i64 m.r.pn, .int .i64 m.r.pr, .int .i64 m.r.bn, .int .i64 m.r.br, .int .i64 m.r.c.k, .int .i64 m.r.c.tc, .int .i64 m.r.c.tn, .int .i64 m.r.c.tt, .int .i64 m.r.c.tk, .int .i64 m.r.c.sh, ua, ub, .bool m.r.c.cm, .int .i64 m.r.sq, .int .i64 m.r.d0, .int .i64 m.r.d1, .int .i64 m.r.d2, .int .i64 m.r.d3, .int .i64 m.r.d4, .int .i64 m.r.d5, .int .i64 m.r.d6, .bool m.r.kp] _ MW8 Tryz.underlying49 rfl (by kernel_rfl) ?_)
      | (with_reducible refine wpList_load_mid rfl 41 _ rfl w4.heap.size 0 rfl [.int .i64 k.ir, .int .i64 k.is, .int .i64 k.st, .int .i64 k.pn, .int .i64 k.pr, .int .i64 k.bn, .int .i64 k.br, .int .i64 k.c.k, .int .i64 k.c.tc, .int .i64 k.c.tn, .int .i64 k.c.tt, .int .i64 k.c.tk, .int .i64 k.c.sh, ka, kb, .bool k.c.cm, .int .i64 k.sq, .int .i64 k.d0, .int .i64 k.d1, .int .i64 k.d2, .int .i64 k.d3, .int .i64 k.d4, .int .i64 k.d5, .int .i64 k.d6, .bool k.kp] _ GW8 Tryz.underlying41 rfl (by kernel_rfl) ?_)
      | (with_reducible refine wpList_load_mid rfl 37 _ rfl w4.heap.size 3 rfl [.int .i64 k.pn, .int .i64 k.pr] _ cq8 Tryz.underlying37 rfl (by kernel_rfl) ?_)
      | (with_reducible refine wpList_load_mid rfl 32 _ rfl w4.heap.size 0 rfl [.int .i64 k.ir, .int .i64 k.is] _ ci8 Tryz.underlying32 rfl (by kernel_rfl) ?_)
      | (with_reducible refine wpList_buildTo rfl 41 _ rfl _ rfl #[.int .i64 (M.recI k.ir k.is).ir, .int .i64 (M.recI k.ir k.is).is, .int .i64 (M.recI k.ir k.is).st, .int .i64 (M.recI k.ir k.is).pn, .int .i64 (M.recI k.ir k.is).pr, .int .i64 (M.recI k.ir k.is).bn, .int .i64 (M.recI k.ir k.is).br, .int .i64 (M.recI k.ir k.is).c.k, .int .i64 (M.recI k.ir k.is).c.tc, .int .i64 (M.recI k.ir k.is).c.tn, .int .i64 (M.recI k.ir k.is).c.tt, .int .i64 (M.recI k.ir k.is).c.tk, .int .i64 (M.recI k.ir k.is).c.sh, NS, NS, .bool (M.recI k.ir k.is).c.cm, .int .i64 (M.recI k.ir k.is).sq, .int .i64 (M.recI k.ir k.is).d0, .int .i64 (M.recI k.ir k.is).d1, .int .i64 (M.recI k.ir k.is).d2, .int .i64 (M.recI k.ir k.is).d3, .int .i64 (M.recI k.ir k.is).d4, .int .i64 (M.recI k.ir k.is).d5, .int .i64 (M.recI k.ir k.is).d6, .bool (M.recI k.ir k.is).kp] (by kernel_rfl) ?_)
      | (go_at_call 37
         refine (tell_any m 8 k.pn k.pr (M.recI k.ir k.is) rfl rfl _).mono ?_
         rintro e w7 ⟨rfl, hb⟩
         have Z7a := Z8.on hb
         have HB7 := Lib.hid (below_on HB8.out hb)
         clear hb)
      | (with_reducible refine store_hold rfl 52 _ _ rfl (w.heap.size + 1) 0 rfl 52 (stc (M.tellS m 8 k.pn k.pr (M.recI k.ir k.is)) NS NS NS NS) [.int .i64 0, .int .i64 0, .int .i64 0, .int .i64 0, .int .i64 0, .int .i64 0, .int .i64 0, .int .i64 0, .int .i64 0, .int .i64 0, .int .i64 0, .int .i64 0, .int .i64 0, .slice none 0 0, .slice none 0 0, .bool false, .int .i64 0, .int .i64 0, .int .i64 0, .int .i64 0, .int .i64 0, .int .i64 0, .int .i64 0, .int .i64 0, .bool false, .bool false, .int .i64 0, .int .i64 0, .int .i64 0, .int .i64 0, .int .i64 0, .int .i64 0, .int .i64 0, .int .i64 0, .int .i64 0, .int .i64 0, .int .i64 0, .int .i64 0, .int .i64 0, .int .i64 0, .int .i64 0, .int .i64 0, .int .i64 0, .int .i64 0, .slice none 0 0, .slice none 0 0, .bool false, .int .i64 0, .int .i64 0, .int .i64 0, .int .i64 0, .int .i64 0, .int .i64 0, .int .i64 0, .int .i64 0, .bool false, .bool false] (stc (M.tellS m 8 k.pn k.pr (M.recI k.ir k.is)) NS NS NS NS) rfl Z7a (by kernel_rfl) (of_decide_eq_true (by kernel_rfl)) (by kernel_rfl) (stc_one rfl rfl rfl rfl) ?_; intro w6 H6 K6; have HB6 := Lib.hid (K6.below w.heap.size w (by omega) HB7.out))
      | fail)
      refine bodyPost_ret (results_cv rfl rfl rfl H6.cel.whole _ Tryz.underlying52 rfl (stc_size _ _ _ _ _)) rfl ?_
      rw [HA.out]
      exact ⟨NS, NS, NS, NS, rfl, txt_none _, ⟨Rds.nil _, Wrs.nil _⟩, HB6.out⟩
    have ho1 : decide (M.ord m.bn m.br k.pn k.pr < 0) = false := decide_eq_false ho
    by_cases h1 : m.k = 1
    · obtain ⟨r1, r2⟩ := eqI h1
      have HA := Lib.hid (show M.answer X k m = M.preS X k m by unfold M.answer; rw [if_neg h5, if_neg hs, if_neg ho, if_pos h1])
      clear h5 hs ho h1
      go_wp2_with (first
      | (with_reducible refine store_freshA rfl 41 _ _ rfl w4.heap.size rfl 41 _ [.int .i64 k.ir, .int .i64 k.is, .int .i64 k.st, .int .i64 k.pn, .int .i64 k.pr, .int .i64 k.bn, .int .i64 k.br, .int .i64 k.c.k, .int .i64 k.c.tc, .int .i64 k.c.tn, .int .i64 k.c.tt, .int .i64 k.c.tk, .int .i64 k.c.sh, ka, kb, .bool k.c.cm, .int .i64 k.sq, .int .i64 k.d0, .int .i64 k.d1, .int .i64 k.d2, .int .i64 k.d3, .int .i64 k.d4, .int .i64 k.d5, .int .i64 k.d6, .bool k.kp] rfl rfl rfl (by kernel_rfl) OK ?_
         intro w5 G5 b5
         have M5 := M4.out.on b5
         have Z5 := Z4.out.on b5
         have HB5 := Lib.hid (below_on HB4.out b5)
         have HU5 := Lib.hid (HU4.out.below b5)
         have HT5 := Lib.hid (HT4.out.below b5)
         have HX5 := Lib.hid (HX.out.below HB5.out)
         have x0 : w5.cell? ⟨w.heap.size, 0, none⟩ = some (.int .i64 m.k) := hold_cell M5 0 rfl
         have x2 : w5.cell? ⟨w4.heap.size, 2, none⟩ = some (.int .i64 k.st) := hold_cell G5 2 rfl
         have MW := M5.cel.whole
         have GW := G5.cel.whole
         have cm5 := hold_range M5 3 [.int .i64 m.bn, .int .i64 m.br] (fun j v hj => by
           match j, hj with
           | 0, hj => exact hj
           | 1, hj => exact hj)
         have cp5 := hold_range G5 3 [.int .i64 k.pn, .int .i64 k.pr] (fun j v hj => by
           match j, hj with
           | 0, hj => exact hj
           | 1, hj => exact hj)
         have HC5 := Lib.hid (compareBallots_any m.bn m.br k.pn k.pr w5)
         clear b5)
      | (with_reducible refine wpList_load_mid rfl 49 _ rfl w.heap.size 0 rfl [.int .i64 m.k, .int .i64 m.fr, .int .i64 m.to, .int .i64 m.bn, .int .i64 m.br, .int .i64 m.r.ir, .int .i64 m.r.is, .int .i64 m.r.st, .int .i64 m.r.pn, .int .i64 m.r.pr, .int .i64 m.r.bn, .int .i64 m.r.br, .int .i64 m.r.c.k, .int .i64 m.r.c.tc, .int .i64 m.r.c.tn, .int .i64 m.r.c.tt, .int .i64 m.r.c.tk, .int .i64 m.r.c.sh, ua, ub, .bool m.r.c.cm, .int .i64 m.r.sq, .int .i64 m.r.d0, .int .i64 m.r.d1, .int .i64 m.r.d2, .int .i64 m.r.d3, .int .i64 m.r.d4, .int .i64 m.r.d5, .int .i64 m.r.d6, .bool m.r.kp] _ MW Tryz.underlying49 rfl (by kernel_rfl) ?_)
      | (with_reducible refine wpList_load_mid rfl 41 _ rfl w4.heap.size 0 rfl [.int .i64 k.ir, .int .i64 k.is, .int .i64 k.st, .int .i64 k.pn, .int .i64 k.pr, .int .i64 k.bn, .int .i64 k.br, .int .i64 k.c.k, .int .i64 k.c.tc, .int .i64 k.c.tn, .int .i64 k.c.tt, .int .i64 k.c.tk, .int .i64 k.c.sh, ka, kb, .bool k.c.cm, .int .i64 k.sq, .int .i64 k.d0, .int .i64 k.d1, .int .i64 k.d2, .int .i64 k.d3, .int .i64 k.d4, .int .i64 k.d5, .int .i64 k.d6, .bool k.kp] _ GW Tryz.underlying41 rfl (by kernel_rfl) ?_)
      | (with_reducible refine wpList_load_mid rfl 37 _ rfl w.heap.size 3 rfl [.int .i64 m.bn, .int .i64 m.br] _ cm5 Tryz.underlying37 rfl (by kernel_rfl) ?_)
      | (with_reducible refine wpList_load_mid rfl 37 _ rfl w4.heap.size 3 rfl [.int .i64 k.pn, .int .i64 k.pr] _ cp5 Tryz.underlying37 rfl (by kernel_rfl) ?_)
      | (go_at_call 38
         refine HC5.out.mono ?_
         rintro e w8 ⟨rfl, hb⟩
         have M8 := M5.on hb
         have G8 := G5.on hb
         have Z8 := Z5.on hb
         have HB8 := Lib.hid (below_on HB5.out hb)
         have HU8 := Lib.hid (HU5.out.below hb)
         have HT8 := Lib.hid (HT5.out.below hb)
         have HX8 := Lib.hid (HX.out.below HB8.out)
         have y0 : w8.cell? ⟨w.heap.size, 0, none⟩ = some (.int .i64 m.k) := hold_cell M8 0 rfl
         have MW8 := M8.cel.whole
         have GW8 := G8.cel.whole
         skip
         clear hb HC5 MW GW cm5 cp5)
      | (with_reducible refine wpList_load_mid rfl 49 _ rfl w.heap.size 0 rfl [.int .i64 m.k, .int .i64 m.fr, .int .i64 m.to, .int .i64 m.bn, .int .i64 m.br, .int .i64 m.r.ir, .int .i64 m.r.is, .int .i64 m.r.st, .int .i64 m.r.pn, .int .i64 m.r.pr, .int .i64 m.r.bn, .int .i64 m.r.br, .int .i64 m.r.c.k, .int .i64 m.r.c.tc, .int .i64 m.r.c.tn, .int .i64 m.r.c.tt, .int .i64 m.r.c.tk, .int .i64 m.r.c.sh, ua, ub, .bool m.r.c.cm, .int .i64 m.r.sq, .int .i64 m.r.d0, .int .i64 m.r.d1, .int .i64 m.r.d2, .int .i64 m.r.d3, .int .i64 m.r.d4, .int .i64 m.r.d5, .int .i64 m.r.d6, .bool m.r.kp] _ MW8 Tryz.underlying49 rfl (by kernel_rfl) ?_)
      | (with_reducible refine wpList_load_mid rfl 41 _ rfl w4.heap.size 0 rfl [.int .i64 k.ir, .int .i64 k.is, .int .i64 k.st, .int .i64 k.pn, .int .i64 k.pr, .int .i64 k.bn, .int .i64 k.br, .int .i64 k.c.k, .int .i64 k.c.tc, .int .i64 k.c.tn, .int .i64 k.c.tt, .int .i64 k.c.tk, .int .i64 k.c.sh, ka, kb, .bool k.c.cm, .int .i64 k.sq, .int .i64 k.d0, .int .i64 k.d1, .int .i64 k.d2, .int .i64 k.d3, .int .i64 k.d4, .int .i64 k.d5, .int .i64 k.d6, .bool k.kp] _ GW8 Tryz.underlying41 rfl (by kernel_rfl) ?_)
      | (go_at_call 39
         refine (preAcc_any HX8.out hl hX k m HT8.out HU8.out F).mono ?_
         rintro e w7 ⟨xa, xb, ya, yb, rfl, t1, t2, hb⟩
         have Z7a := Z8.on hb
         have HB7 := Lib.hid (below_on HB8.out hb)
         have T1 := Lib.hid t1
         have T2 := Lib.hid t2
         have hz7 := Lib.hid (hold_lt Z7a)
         clear t1 t2
         clear hb)
      | (with_reducible refine store_hold rfl 52 _ _ rfl (w.heap.size + 1) 0 rfl 52 (stc (M.preS X k m).1 xa xb ya yb) [.int .i64 0, .int .i64 0, .int .i64 0, .int .i64 0, .int .i64 0, .int .i64 0, .int .i64 0, .int .i64 0, .int .i64 0, .int .i64 0, .int .i64 0, .int .i64 0, .int .i64 0, .slice none 0 0, .slice none 0 0, .bool false, .int .i64 0, .int .i64 0, .int .i64 0, .int .i64 0, .int .i64 0, .int .i64 0, .int .i64 0, .int .i64 0, .bool false, .bool false, .int .i64 0, .int .i64 0, .int .i64 0, .int .i64 0, .int .i64 0, .int .i64 0, .int .i64 0, .int .i64 0, .int .i64 0, .int .i64 0, .int .i64 0, .int .i64 0, .int .i64 0, .int .i64 0, .int .i64 0, .int .i64 0, .int .i64 0, .int .i64 0, .slice none 0 0, .slice none 0 0, .bool false, .int .i64 0, .int .i64 0, .int .i64 0, .int .i64 0, .int .i64 0, .int .i64 0, .int .i64 0, .int .i64 0, .bool false, .bool false] (stc (M.preS X k m).1 xa xb ya yb) rfl Z7a (by kernel_rfl) (of_decide_eq_true (by kernel_rfl)) (by kernel_rfl) (stc_one (rds_one T1.out.rs) (wrs_one T1.out.ws) (rds_one T2.out.rs) (wrs_one T2.out.ws)) ?_; intro w6 H6 K6; have HB6 := Lib.hid (K6.below w.heap.size w (by omega) HB7.out))
      | fail)
      refine bodyPost_ret (results_cv rfl rfl rfl H6.cel.whole _ Tryz.underlying52 rfl (stc_size _ _ _ _ _)) rfl ?_
      rw [HA.out]
      refine ⟨xa, xb, ya, yb, rfl, T1.out.wrote Z7a K6, T2.out.wrote Z7a K6, HB6.out⟩
    obtain ⟨r1, r2⟩ := neI h1
    by_cases h3 : m.k = 3
    · obtain ⟨s1, s2⟩ := eqI h3
      have HA := Lib.hid (show M.answer X k m = (M.accS k m, 0) by unfold M.answer; rw [if_neg h5, if_neg hs, if_neg ho, if_neg h1, if_pos h3])
      clear h5 hs ho h1 h3
      go_wp2_with (first
      | (with_reducible refine store_freshA rfl 41 _ _ rfl w4.heap.size rfl 41 _ [.int .i64 k.ir, .int .i64 k.is, .int .i64 k.st, .int .i64 k.pn, .int .i64 k.pr, .int .i64 k.bn, .int .i64 k.br, .int .i64 k.c.k, .int .i64 k.c.tc, .int .i64 k.c.tn, .int .i64 k.c.tt, .int .i64 k.c.tk, .int .i64 k.c.sh, ka, kb, .bool k.c.cm, .int .i64 k.sq, .int .i64 k.d0, .int .i64 k.d1, .int .i64 k.d2, .int .i64 k.d3, .int .i64 k.d4, .int .i64 k.d5, .int .i64 k.d6, .bool k.kp] rfl rfl rfl (by kernel_rfl) OK ?_
         intro w5 G5 b5
         have M5 := M4.out.on b5
         have Z5 := Z4.out.on b5
         have HB5 := Lib.hid (below_on HB4.out b5)
         have HU5 := Lib.hid (HU4.out.below b5)
         have HT5 := Lib.hid (HT4.out.below b5)
         have HX5 := Lib.hid (HX.out.below HB5.out)
         have x0 : w5.cell? ⟨w.heap.size, 0, none⟩ = some (.int .i64 m.k) := hold_cell M5 0 rfl
         have x2 : w5.cell? ⟨w4.heap.size, 2, none⟩ = some (.int .i64 k.st) := hold_cell G5 2 rfl
         have MW := M5.cel.whole
         have GW := G5.cel.whole
         have cm5 := hold_range M5 3 [.int .i64 m.bn, .int .i64 m.br] (fun j v hj => by
           match j, hj with
           | 0, hj => exact hj
           | 1, hj => exact hj)
         have cp5 := hold_range G5 3 [.int .i64 k.pn, .int .i64 k.pr] (fun j v hj => by
           match j, hj with
           | 0, hj => exact hj
           | 1, hj => exact hj)
         have HC5 := Lib.hid (compareBallots_any m.bn m.br k.pn k.pr w5)
         clear b5)
      | (with_reducible refine wpList_load_mid rfl 49 _ rfl w.heap.size 0 rfl [.int .i64 m.k, .int .i64 m.fr, .int .i64 m.to, .int .i64 m.bn, .int .i64 m.br, .int .i64 m.r.ir, .int .i64 m.r.is, .int .i64 m.r.st, .int .i64 m.r.pn, .int .i64 m.r.pr, .int .i64 m.r.bn, .int .i64 m.r.br, .int .i64 m.r.c.k, .int .i64 m.r.c.tc, .int .i64 m.r.c.tn, .int .i64 m.r.c.tt, .int .i64 m.r.c.tk, .int .i64 m.r.c.sh, ua, ub, .bool m.r.c.cm, .int .i64 m.r.sq, .int .i64 m.r.d0, .int .i64 m.r.d1, .int .i64 m.r.d2, .int .i64 m.r.d3, .int .i64 m.r.d4, .int .i64 m.r.d5, .int .i64 m.r.d6, .bool m.r.kp] _ MW Tryz.underlying49 rfl (by kernel_rfl) ?_)
      | (with_reducible refine wpList_load_mid rfl 41 _ rfl w4.heap.size 0 rfl [.int .i64 k.ir, .int .i64 k.is, .int .i64 k.st, .int .i64 k.pn, .int .i64 k.pr, .int .i64 k.bn, .int .i64 k.br, .int .i64 k.c.k, .int .i64 k.c.tc, .int .i64 k.c.tn, .int .i64 k.c.tt, .int .i64 k.c.tk, .int .i64 k.c.sh, ka, kb, .bool k.c.cm, .int .i64 k.sq, .int .i64 k.d0, .int .i64 k.d1, .int .i64 k.d2, .int .i64 k.d3, .int .i64 k.d4, .int .i64 k.d5, .int .i64 k.d6, .bool k.kp] _ GW Tryz.underlying41 rfl (by kernel_rfl) ?_)
      | (with_reducible refine wpList_load_mid rfl 37 _ rfl w.heap.size 3 rfl [.int .i64 m.bn, .int .i64 m.br] _ cm5 Tryz.underlying37 rfl (by kernel_rfl) ?_)
      | (with_reducible refine wpList_load_mid rfl 37 _ rfl w4.heap.size 3 rfl [.int .i64 k.pn, .int .i64 k.pr] _ cp5 Tryz.underlying37 rfl (by kernel_rfl) ?_)
      | (go_at_call 38
         refine HC5.out.mono ?_
         rintro e w8 ⟨rfl, hb⟩
         have M8 := M5.on hb
         have G8 := G5.on hb
         have Z8 := Z5.on hb
         have HB8 := Lib.hid (below_on HB5.out hb)
         have HU8 := Lib.hid (HU5.out.below hb)
         have HT8 := Lib.hid (HT5.out.below hb)
         have HX8 := Lib.hid (HX.out.below HB8.out)
         have y0 : w8.cell? ⟨w.heap.size, 0, none⟩ = some (.int .i64 m.k) := hold_cell M8 0 rfl
         have MW8 := M8.cel.whole
         have GW8 := G8.cel.whole
         skip
         clear hb HC5 MW GW cm5 cp5)
      | (with_reducible refine wpList_load_mid rfl 49 _ rfl w.heap.size 0 rfl [.int .i64 m.k, .int .i64 m.fr, .int .i64 m.to, .int .i64 m.bn, .int .i64 m.br, .int .i64 m.r.ir, .int .i64 m.r.is, .int .i64 m.r.st, .int .i64 m.r.pn, .int .i64 m.r.pr, .int .i64 m.r.bn, .int .i64 m.r.br, .int .i64 m.r.c.k, .int .i64 m.r.c.tc, .int .i64 m.r.c.tn, .int .i64 m.r.c.tt, .int .i64 m.r.c.tk, .int .i64 m.r.c.sh, ua, ub, .bool m.r.c.cm, .int .i64 m.r.sq, .int .i64 m.r.d0, .int .i64 m.r.d1, .int .i64 m.r.d2, .int .i64 m.r.d3, .int .i64 m.r.d4, .int .i64 m.r.d5, .int .i64 m.r.d6, .bool m.r.kp] _ MW8 Tryz.underlying49 rfl (by kernel_rfl) ?_)
      | (with_reducible refine wpList_load_mid rfl 41 _ rfl w4.heap.size 0 rfl [.int .i64 k.ir, .int .i64 k.is, .int .i64 k.st, .int .i64 k.pn, .int .i64 k.pr, .int .i64 k.bn, .int .i64 k.br, .int .i64 k.c.k, .int .i64 k.c.tc, .int .i64 k.c.tn, .int .i64 k.c.tt, .int .i64 k.c.tk, .int .i64 k.c.sh, ka, kb, .bool k.c.cm, .int .i64 k.sq, .int .i64 k.d0, .int .i64 k.d1, .int .i64 k.d2, .int .i64 k.d3, .int .i64 k.d4, .int .i64 k.d5, .int .i64 k.d6, .bool k.kp] _ GW8 Tryz.underlying41 rfl (by kernel_rfl) ?_)
      | (go_at_call 40
         refine (accept_any k m HT8.out HU8.out).mono ?_
         rintro e w7 ⟨xa, xb, ya, yb, rfl, t1, t2, hb⟩
         have Z7a := Z8.on hb
         have HB7 := Lib.hid (below_on HB8.out hb)
         have T1 := Lib.hid t1
         have T2 := Lib.hid t2
         have hz7 := Lib.hid (hold_lt Z7a)
         clear t1 t2
         clear hb)
      | (with_reducible refine store_hold rfl 52 _ _ rfl (w.heap.size + 1) 0 rfl 52 (stc (M.accS k m) xa xb ya yb) [.int .i64 0, .int .i64 0, .int .i64 0, .int .i64 0, .int .i64 0, .int .i64 0, .int .i64 0, .int .i64 0, .int .i64 0, .int .i64 0, .int .i64 0, .int .i64 0, .int .i64 0, .slice none 0 0, .slice none 0 0, .bool false, .int .i64 0, .int .i64 0, .int .i64 0, .int .i64 0, .int .i64 0, .int .i64 0, .int .i64 0, .int .i64 0, .bool false, .bool false, .int .i64 0, .int .i64 0, .int .i64 0, .int .i64 0, .int .i64 0, .int .i64 0, .int .i64 0, .int .i64 0, .int .i64 0, .int .i64 0, .int .i64 0, .int .i64 0, .int .i64 0, .int .i64 0, .int .i64 0, .int .i64 0, .int .i64 0, .int .i64 0, .slice none 0 0, .slice none 0 0, .bool false, .int .i64 0, .int .i64 0, .int .i64 0, .int .i64 0, .int .i64 0, .int .i64 0, .int .i64 0, .int .i64 0, .bool false, .bool false] (stc (M.accS k m) xa xb ya yb) rfl Z7a (by kernel_rfl) (of_decide_eq_true (by kernel_rfl)) (by kernel_rfl) (stc_one (rds_one T1.out.rs) (wrs_one T1.out.ws) (rds_one T2.out.rs) (wrs_one T2.out.ws)) ?_; intro w6 H6 K6; have HB6 := Lib.hid (K6.below w.heap.size w (by omega) HB7.out))
      | fail)
      refine bodyPost_ret (results_cv rfl rfl rfl H6.cel.whole _ Tryz.underlying52 rfl (stc_size _ _ _ _ _)) rfl ?_
      rw [HA.out]
      refine ⟨xa, xb, ya, yb, rfl, T1.out.wrote Z7a K6, T2.out.wrote Z7a K6, HB6.out⟩
    · obtain ⟨s1, s2⟩ := neI h3
      have HA := Lib.hid (show M.answer X k m = (M.proS k m, 0) by unfold M.answer; rw [if_neg h5, if_neg hs, if_neg ho, if_neg h1, if_neg h3])
      clear h5 hs ho h1 h3
      go_wp2_with (first
      | (with_reducible refine store_freshA rfl 41 _ _ rfl w4.heap.size rfl 41 _ [.int .i64 k.ir, .int .i64 k.is, .int .i64 k.st, .int .i64 k.pn, .int .i64 k.pr, .int .i64 k.bn, .int .i64 k.br, .int .i64 k.c.k, .int .i64 k.c.tc, .int .i64 k.c.tn, .int .i64 k.c.tt, .int .i64 k.c.tk, .int .i64 k.c.sh, ka, kb, .bool k.c.cm, .int .i64 k.sq, .int .i64 k.d0, .int .i64 k.d1, .int .i64 k.d2, .int .i64 k.d3, .int .i64 k.d4, .int .i64 k.d5, .int .i64 k.d6, .bool k.kp] rfl rfl rfl (by kernel_rfl) OK ?_
         intro w5 G5 b5
         have M5 := M4.out.on b5
         have Z5 := Z4.out.on b5
         have HB5 := Lib.hid (below_on HB4.out b5)
         have HU5 := Lib.hid (HU4.out.below b5)
         have HT5 := Lib.hid (HT4.out.below b5)
         have HX5 := Lib.hid (HX.out.below HB5.out)
         have x0 : w5.cell? ⟨w.heap.size, 0, none⟩ = some (.int .i64 m.k) := hold_cell M5 0 rfl
         have x2 : w5.cell? ⟨w4.heap.size, 2, none⟩ = some (.int .i64 k.st) := hold_cell G5 2 rfl
         have MW := M5.cel.whole
         have GW := G5.cel.whole
         have cm5 := hold_range M5 3 [.int .i64 m.bn, .int .i64 m.br] (fun j v hj => by
           match j, hj with
           | 0, hj => exact hj
           | 1, hj => exact hj)
         have cp5 := hold_range G5 3 [.int .i64 k.pn, .int .i64 k.pr] (fun j v hj => by
           match j, hj with
           | 0, hj => exact hj
           | 1, hj => exact hj)
         have HC5 := Lib.hid (compareBallots_any m.bn m.br k.pn k.pr w5)
         clear b5)
      | (with_reducible refine wpList_load_mid rfl 49 _ rfl w.heap.size 0 rfl [.int .i64 m.k, .int .i64 m.fr, .int .i64 m.to, .int .i64 m.bn, .int .i64 m.br, .int .i64 m.r.ir, .int .i64 m.r.is, .int .i64 m.r.st, .int .i64 m.r.pn, .int .i64 m.r.pr, .int .i64 m.r.bn, .int .i64 m.r.br, .int .i64 m.r.c.k, .int .i64 m.r.c.tc, .int .i64 m.r.c.tn, .int .i64 m.r.c.tt, .int .i64 m.r.c.tk, .int .i64 m.r.c.sh, ua, ub, .bool m.r.c.cm, .int .i64 m.r.sq, .int .i64 m.r.d0, .int .i64 m.r.d1, .int .i64 m.r.d2, .int .i64 m.r.d3, .int .i64 m.r.d4, .int .i64 m.r.d5, .int .i64 m.r.d6, .bool m.r.kp] _ MW Tryz.underlying49 rfl (by kernel_rfl) ?_)
      | (with_reducible refine wpList_load_mid rfl 41 _ rfl w4.heap.size 0 rfl [.int .i64 k.ir, .int .i64 k.is, .int .i64 k.st, .int .i64 k.pn, .int .i64 k.pr, .int .i64 k.bn, .int .i64 k.br, .int .i64 k.c.k, .int .i64 k.c.tc, .int .i64 k.c.tn, .int .i64 k.c.tt, .int .i64 k.c.tk, .int .i64 k.c.sh, ka, kb, .bool k.c.cm, .int .i64 k.sq, .int .i64 k.d0, .int .i64 k.d1, .int .i64 k.d2, .int .i64 k.d3, .int .i64 k.d4, .int .i64 k.d5, .int .i64 k.d6, .bool k.kp] _ GW Tryz.underlying41 rfl (by kernel_rfl) ?_)
      | (with_reducible refine wpList_load_mid rfl 37 _ rfl w.heap.size 3 rfl [.int .i64 m.bn, .int .i64 m.br] _ cm5 Tryz.underlying37 rfl (by kernel_rfl) ?_)
      | (with_reducible refine wpList_load_mid rfl 37 _ rfl w4.heap.size 3 rfl [.int .i64 k.pn, .int .i64 k.pr] _ cp5 Tryz.underlying37 rfl (by kernel_rfl) ?_)
      | (go_at_call 38
         refine HC5.out.mono ?_
         rintro e w8 ⟨rfl, hb⟩
         have M8 := M5.on hb
         have G8 := G5.on hb
         have Z8 := Z5.on hb
         have HB8 := Lib.hid (below_on HB5.out hb)
         have HU8 := Lib.hid (HU5.out.below hb)
         have HT8 := Lib.hid (HT5.out.below hb)
         have HX8 := Lib.hid (HX.out.below HB8.out)
         have y0 : w8.cell? ⟨w.heap.size, 0, none⟩ = some (.int .i64 m.k) := hold_cell M8 0 rfl
         have MW8 := M8.cel.whole
         have GW8 := G8.cel.whole
         skip
         clear hb HC5 MW GW cm5 cp5)
      | (with_reducible refine wpList_load_mid rfl 49 _ rfl w.heap.size 0 rfl [.int .i64 m.k, .int .i64 m.fr, .int .i64 m.to, .int .i64 m.bn, .int .i64 m.br, .int .i64 m.r.ir, .int .i64 m.r.is, .int .i64 m.r.st, .int .i64 m.r.pn, .int .i64 m.r.pr, .int .i64 m.r.bn, .int .i64 m.r.br, .int .i64 m.r.c.k, .int .i64 m.r.c.tc, .int .i64 m.r.c.tn, .int .i64 m.r.c.tt, .int .i64 m.r.c.tk, .int .i64 m.r.c.sh, ua, ub, .bool m.r.c.cm, .int .i64 m.r.sq, .int .i64 m.r.d0, .int .i64 m.r.d1, .int .i64 m.r.d2, .int .i64 m.r.d3, .int .i64 m.r.d4, .int .i64 m.r.d5, .int .i64 m.r.d6, .bool m.r.kp] _ MW8 Tryz.underlying49 rfl (by kernel_rfl) ?_)
      | (with_reducible refine wpList_load_mid rfl 41 _ rfl w4.heap.size 0 rfl [.int .i64 k.ir, .int .i64 k.is, .int .i64 k.st, .int .i64 k.pn, .int .i64 k.pr, .int .i64 k.bn, .int .i64 k.br, .int .i64 k.c.k, .int .i64 k.c.tc, .int .i64 k.c.tn, .int .i64 k.c.tt, .int .i64 k.c.tk, .int .i64 k.c.sh, ka, kb, .bool k.c.cm, .int .i64 k.sq, .int .i64 k.d0, .int .i64 k.d1, .int .i64 k.d2, .int .i64 k.d3, .int .i64 k.d4, .int .i64 k.d5, .int .i64 k.d6, .bool k.kp] _ GW8 Tryz.underlying41 rfl (by kernel_rfl) ?_)
      | (go_at_call 41
         refine (promise_any k m HT8.out HU8.out).mono ?_
         rintro e w7 ⟨xa, xb, ya, yb, rfl, t1, t2, hb⟩
         have Z7a := Z8.on hb
         have HB7 := Lib.hid (below_on HB8.out hb)
         have T1 := Lib.hid t1
         have T2 := Lib.hid t2
         have hz7 := Lib.hid (hold_lt Z7a)
         clear t1 t2
         clear hb)
      | (with_reducible refine store_hold rfl 52 _ _ rfl (w.heap.size + 1) 0 rfl 52 (stc (M.proS k m) xa xb ya yb) [.int .i64 0, .int .i64 0, .int .i64 0, .int .i64 0, .int .i64 0, .int .i64 0, .int .i64 0, .int .i64 0, .int .i64 0, .int .i64 0, .int .i64 0, .int .i64 0, .int .i64 0, .slice none 0 0, .slice none 0 0, .bool false, .int .i64 0, .int .i64 0, .int .i64 0, .int .i64 0, .int .i64 0, .int .i64 0, .int .i64 0, .int .i64 0, .bool false, .bool false, .int .i64 0, .int .i64 0, .int .i64 0, .int .i64 0, .int .i64 0, .int .i64 0, .int .i64 0, .int .i64 0, .int .i64 0, .int .i64 0, .int .i64 0, .int .i64 0, .int .i64 0, .int .i64 0, .int .i64 0, .int .i64 0, .int .i64 0, .int .i64 0, .slice none 0 0, .slice none 0 0, .bool false, .int .i64 0, .int .i64 0, .int .i64 0, .int .i64 0, .int .i64 0, .int .i64 0, .int .i64 0, .int .i64 0, .bool false, .bool false] (stc (M.proS k m) xa xb ya yb) rfl Z7a (by kernel_rfl) (of_decide_eq_true (by kernel_rfl)) (by kernel_rfl) (stc_one (rds_one T1.out.rs) (wrs_one T1.out.ws) (rds_one T2.out.rs) (wrs_one T2.out.ws)) ?_; intro w6 H6 K6; have HB6 := Lib.hid (K6.below w.heap.size w (by omega) HB7.out))
      | fail)
      refine bodyPost_ret (results_cv rfl rfl rfl H6.cel.whole _ Tryz.underlying52 rfl (stc_size _ _ _ _ _)) rfl ?_
      rw [HA.out]
      refine ⟨xa, xb, ya, yb, rfl, T1.out.wrote Z7a K6, T2.out.wrote Z7a K6, HB6.out⟩
end Go.Proofs.YtpknkhgkejkpkaaGreat
