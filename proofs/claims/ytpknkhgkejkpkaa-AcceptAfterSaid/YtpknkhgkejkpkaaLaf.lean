/- The walk of AcceptAfter; no conditions. -/
import Derived.Test.YtpknkhgkejkpkaaAwk
import Derived.Test.YtpknkhgkejkpkaaSml
import Derived.Test.YtpknkhgkejkpkaaMor
import Derived.Test.YtpknkhgkejkpkaaPd
namespace Go.Proofs.Ytpknkhgkejkpkaa
open Go.ChangeShapes Go.WideShapes Go.ChangeAt Go.RowKit

attribute [local go_sem ↓] run_same_ballot
/-- A message of another one's instance. -/
def M.setI (o m : M.Msg) : M.Msg := ⟨o.k, o.fr, o.to, o.bn, o.br, ⟨m.r.ir, m.r.is, o.r.st, o.r.pn, o.r.pr, o.r.bn, o.r.br, o.r.c, o.r.sq, o.r.d0, o.r.d1, o.r.d2, o.r.d3, o.r.d4, o.r.d5, o.r.d6, o.r.kp⟩⟩
set_option maxHeartbeats 16000000 in
set_option maxRecDepth 100000 in
theorem after_law (p : Int) (m o : M.Msg) (w : World) {v va vb oa ob : Value} {X : List Rv} (h : Rows w v X) (_hq : Sqs X) (hm : Txt w ⟨m.r, va, vb⟩) (ho : Txt w ⟨o.r, oa, ob⟩) :
    Calls Try.prog 3 #[v, .int .i64 p, .agg #[.int .i64 m.k, .int .i64 m.fr, .int .i64 m.to, .int .i64 m.bn, .int .i64 m.br, .int .i64 m.r.ir, .int .i64 m.r.is, .int .i64 m.r.st, .int .i64 m.r.pn, .int .i64 m.r.pr, .int .i64 m.r.bn, .int .i64 m.r.br, .int .i64 m.r.c.k, .int .i64 m.r.c.tc, .int .i64 m.r.c.tn, .int .i64 m.r.c.tt, .int .i64 m.r.c.tk, .int .i64 m.r.c.sh, va, vb, .bool m.r.c.cm, .int .i64 m.r.sq, .int .i64 m.r.d0, .int .i64 m.r.d1, .int .i64 m.r.d2, .int .i64 m.r.d3, .int .i64 m.r.d4, .int .i64 m.r.d5, .int .i64 m.r.d6, .bool m.r.kp], .agg #[.int .i64 o.k, .int .i64 o.fr, .int .i64 o.to, .int .i64 o.bn, .int .i64 o.br, .int .i64 o.r.ir, .int .i64 o.r.is, .int .i64 o.r.st, .int .i64 o.r.pn, .int .i64 o.r.pr, .int .i64 o.r.bn, .int .i64 o.r.br, .int .i64 o.r.c.k, .int .i64 o.r.c.tc, .int .i64 o.r.c.tn, .int .i64 o.r.c.tt, .int .i64 o.r.c.tk, .int .i64 o.r.c.sh, oa, ob, .bool o.r.c.cm, .int .i64 o.r.sq, .int .i64 o.r.d0, .int .i64 o.r.d1, .int .i64 o.r.d2, .int .i64 o.r.d3, .int .i64 o.r.d4, .int .i64 o.r.d5, .int .i64 o.r.d6, .bool o.r.kp]] w fun e w' => e = .returned (.bool true) ∧ Below w.heap.size w w' := by
  obtain ⟨A, cc, rfl⟩ := rowN_sliceOf h.row
  have H0 := Lib.hid (show Hold ((w.alloc (.cells #[.int .i64 m.k, .int .i64 m.fr, .int .i64 m.to, .int .i64 m.bn, .int .i64 m.br, .int .i64 m.r.ir, .int .i64 m.r.is, .int .i64 m.r.st, .int .i64 m.r.pn, .int .i64 m.r.pr, .int .i64 m.r.bn, .int .i64 m.r.br, .int .i64 m.r.c.k, .int .i64 m.r.c.tc, .int .i64 m.r.c.tn, .int .i64 m.r.c.tt, .int .i64 m.r.c.tk, .int .i64 m.r.c.sh, va, vb, .bool m.r.c.cm, .int .i64 m.r.sq, .int .i64 m.r.d0, .int .i64 m.r.d1, .int .i64 m.r.d2, .int .i64 m.r.d3, .int .i64 m.r.d4, .int .i64 m.r.d5, .int .i64 m.r.d6, .bool m.r.kp] 40)).alloc (.cells #[.int .i64 o.k, .int .i64 o.fr, .int .i64 o.to, .int .i64 o.bn, .int .i64 o.br, .int .i64 o.r.ir, .int .i64 o.r.is, .int .i64 o.r.st, .int .i64 o.r.pn, .int .i64 o.r.pr, .int .i64 o.r.bn, .int .i64 o.r.br, .int .i64 o.r.c.k, .int .i64 o.r.c.tc, .int .i64 o.r.c.tn, .int .i64 o.r.c.tt, .int .i64 o.r.c.tk, .int .i64 o.r.c.sh, oa, ob, .bool o.r.c.cm, .int .i64 o.r.sq, .int .i64 o.r.d0, .int .i64 o.r.d1, .int .i64 o.r.d2, .int .i64 o.r.d3, .int .i64 o.r.d4, .int .i64 o.r.d5, .int .i64 o.r.d6, .bool o.r.kp] 40)) w.heap.size 40 [.int .i64 m.k, .int .i64 m.fr, .int .i64 m.to, .int .i64 m.bn, .int .i64 m.br, .int .i64 m.r.ir, .int .i64 m.r.is, .int .i64 m.r.st, .int .i64 m.r.pn, .int .i64 m.r.pr, .int .i64 m.r.bn, .int .i64 m.r.br, .int .i64 m.r.c.k, .int .i64 m.r.c.tc, .int .i64 m.r.c.tn, .int .i64 m.r.c.tt, .int .i64 m.r.c.tk, .int .i64 m.r.c.sh, va, vb, .bool m.r.c.cm, .int .i64 m.r.sq, .int .i64 m.r.d0, .int .i64 m.r.d1, .int .i64 m.r.d2, .int .i64 m.r.d3, .int .i64 m.r.d4, .int .i64 m.r.d5, .int .i64 m.r.d6, .bool m.r.kp] from (Hold.new w [.int .i64 m.k, .int .i64 m.fr, .int .i64 m.to, .int .i64 m.bn, .int .i64 m.br, .int .i64 m.r.ir, .int .i64 m.r.is, .int .i64 m.r.st, .int .i64 m.r.pn, .int .i64 m.r.pr, .int .i64 m.r.bn, .int .i64 m.r.br, .int .i64 m.r.c.k, .int .i64 m.r.c.tc, .int .i64 m.r.c.tn, .int .i64 m.r.c.tt, .int .i64 m.r.c.tk, .int .i64 m.r.c.sh, va, vb, .bool m.r.c.cm, .int .i64 m.r.sq, .int .i64 m.r.d0, .int .i64 m.r.d1, .int .i64 m.r.d2, .int .i64 m.r.d3, .int .i64 m.r.d4, .int .i64 m.r.d5, .int .i64 m.r.d6, .bool m.r.kp] 40).on (below_new (o := .cells #[.int .i64 o.k, .int .i64 o.fr, .int .i64 o.to, .int .i64 o.bn, .int .i64 o.br, .int .i64 o.r.ir, .int .i64 o.r.is, .int .i64 o.r.st, .int .i64 o.r.pn, .int .i64 o.r.pr, .int .i64 o.r.bn, .int .i64 o.r.br, .int .i64 o.r.c.k, .int .i64 o.r.c.tc, .int .i64 o.r.c.tn, .int .i64 o.r.c.tt, .int .i64 o.r.c.tk, .int .i64 o.r.c.sh, oa, ob, .bool o.r.c.cm, .int .i64 o.r.sq, .int .i64 o.r.d0, .int .i64 o.r.d1, .int .i64 o.r.d2, .int .i64 o.r.d3, .int .i64 o.r.d4, .int .i64 o.r.d5, .int .i64 o.r.d6, .bool o.r.kp] 40) (Below.refl _ _)))
  have H1 := Lib.hid (show Hold ((w.alloc (.cells #[.int .i64 m.k, .int .i64 m.fr, .int .i64 m.to, .int .i64 m.bn, .int .i64 m.br, .int .i64 m.r.ir, .int .i64 m.r.is, .int .i64 m.r.st, .int .i64 m.r.pn, .int .i64 m.r.pr, .int .i64 m.r.bn, .int .i64 m.r.br, .int .i64 m.r.c.k, .int .i64 m.r.c.tc, .int .i64 m.r.c.tn, .int .i64 m.r.c.tt, .int .i64 m.r.c.tk, .int .i64 m.r.c.sh, va, vb, .bool m.r.c.cm, .int .i64 m.r.sq, .int .i64 m.r.d0, .int .i64 m.r.d1, .int .i64 m.r.d2, .int .i64 m.r.d3, .int .i64 m.r.d4, .int .i64 m.r.d5, .int .i64 m.r.d6, .bool m.r.kp] 40)).alloc (.cells #[.int .i64 o.k, .int .i64 o.fr, .int .i64 o.to, .int .i64 o.bn, .int .i64 o.br, .int .i64 o.r.ir, .int .i64 o.r.is, .int .i64 o.r.st, .int .i64 o.r.pn, .int .i64 o.r.pr, .int .i64 o.r.bn, .int .i64 o.r.br, .int .i64 o.r.c.k, .int .i64 o.r.c.tc, .int .i64 o.r.c.tn, .int .i64 o.r.c.tt, .int .i64 o.r.c.tk, .int .i64 o.r.c.sh, oa, ob, .bool o.r.c.cm, .int .i64 o.r.sq, .int .i64 o.r.d0, .int .i64 o.r.d1, .int .i64 o.r.d2, .int .i64 o.r.d3, .int .i64 o.r.d4, .int .i64 o.r.d5, .int .i64 o.r.d6, .bool o.r.kp] 40)) (w.heap.size + 1) 40 [.int .i64 o.k, .int .i64 o.fr, .int .i64 o.to, .int .i64 o.bn, .int .i64 o.br, .int .i64 o.r.ir, .int .i64 o.r.is, .int .i64 o.r.st, .int .i64 o.r.pn, .int .i64 o.r.pr, .int .i64 o.r.bn, .int .i64 o.r.br, .int .i64 o.r.c.k, .int .i64 o.r.c.tc, .int .i64 o.r.c.tn, .int .i64 o.r.c.tt, .int .i64 o.r.c.tk, .int .i64 o.r.c.sh, oa, ob, .bool o.r.c.cm, .int .i64 o.r.sq, .int .i64 o.r.d0, .int .i64 o.r.d1, .int .i64 o.r.d2, .int .i64 o.r.d3, .int .i64 o.r.d4, .int .i64 o.r.d5, .int .i64 o.r.d6, .bool o.r.kp] from by
    have := Hold.new (w.alloc (.cells #[.int .i64 m.k, .int .i64 m.fr, .int .i64 m.to, .int .i64 m.bn, .int .i64 m.br, .int .i64 m.r.ir, .int .i64 m.r.is, .int .i64 m.r.st, .int .i64 m.r.pn, .int .i64 m.r.pr, .int .i64 m.r.bn, .int .i64 m.r.br, .int .i64 m.r.c.k, .int .i64 m.r.c.tc, .int .i64 m.r.c.tn, .int .i64 m.r.c.tt, .int .i64 m.r.c.tk, .int .i64 m.r.c.sh, va, vb, .bool m.r.c.cm, .int .i64 m.r.sq, .int .i64 m.r.d0, .int .i64 m.r.d1, .int .i64 m.r.d2, .int .i64 m.r.d3, .int .i64 m.r.d4, .int .i64 m.r.d5, .int .i64 m.r.d6, .bool m.r.kp] 40)) [.int .i64 o.k, .int .i64 o.fr, .int .i64 o.to, .int .i64 o.bn, .int .i64 o.br, .int .i64 o.r.ir, .int .i64 o.r.is, .int .i64 o.r.st, .int .i64 o.r.pn, .int .i64 o.r.pr, .int .i64 o.r.bn, .int .i64 o.r.br, .int .i64 o.r.c.k, .int .i64 o.r.c.tc, .int .i64 o.r.c.tn, .int .i64 o.r.c.tt, .int .i64 o.r.c.tk, .int .i64 o.r.c.sh, oa, ob, .bool o.r.c.cm, .int .i64 o.r.sq, .int .i64 o.r.d0, .int .i64 o.r.d1, .int .i64 o.r.d2, .int .i64 o.r.d3, .int .i64 o.r.d4, .int .i64 o.r.d5, .int .i64 o.r.d6, .bool o.r.kp] 40
    rwa [show (w.alloc (.cells #[.int .i64 m.k, .int .i64 m.fr, .int .i64 m.to, .int .i64 m.bn, .int .i64 m.br, .int .i64 m.r.ir, .int .i64 m.r.is, .int .i64 m.r.st, .int .i64 m.r.pn, .int .i64 m.r.pr, .int .i64 m.r.bn, .int .i64 m.r.br, .int .i64 m.r.c.k, .int .i64 m.r.c.tc, .int .i64 m.r.c.tn, .int .i64 m.r.c.tt, .int .i64 m.r.c.tk, .int .i64 m.r.c.sh, va, vb, .bool m.r.c.cm, .int .i64 m.r.sq, .int .i64 m.r.d0, .int .i64 m.r.d1, .int .i64 m.r.d2, .int .i64 m.r.d3, .int .i64 m.r.d4, .int .i64 m.r.d5, .int .i64 m.r.d6, .bool m.r.kp] 40)).heap.size = w.heap.size + 1 by simp] at this)
  have HB := Lib.hid (show Below w.heap.size w ((w.alloc (.cells #[.int .i64 m.k, .int .i64 m.fr, .int .i64 m.to, .int .i64 m.bn, .int .i64 m.br, .int .i64 m.r.ir, .int .i64 m.r.is, .int .i64 m.r.st, .int .i64 m.r.pn, .int .i64 m.r.pr, .int .i64 m.r.bn, .int .i64 m.r.br, .int .i64 m.r.c.k, .int .i64 m.r.c.tc, .int .i64 m.r.c.tn, .int .i64 m.r.c.tt, .int .i64 m.r.c.tk, .int .i64 m.r.c.sh, va, vb, .bool m.r.c.cm, .int .i64 m.r.sq, .int .i64 m.r.d0, .int .i64 m.r.d1, .int .i64 m.r.d2, .int .i64 m.r.d3, .int .i64 m.r.d4, .int .i64 m.r.d5, .int .i64 m.r.d6, .bool m.r.kp] 40)).alloc (.cells #[.int .i64 o.k, .int .i64 o.fr, .int .i64 o.to, .int .i64 o.bn, .int .i64 o.br, .int .i64 o.r.ir, .int .i64 o.r.is, .int .i64 o.r.st, .int .i64 o.r.pn, .int .i64 o.r.pr, .int .i64 o.r.bn, .int .i64 o.r.br, .int .i64 o.r.c.k, .int .i64 o.r.c.tc, .int .i64 o.r.c.tn, .int .i64 o.r.c.tt, .int .i64 o.r.c.tk, .int .i64 o.r.c.sh, oa, ob, .bool o.r.c.cm, .int .i64 o.r.sq, .int .i64 o.r.d0, .int .i64 o.r.d1, .int .i64 o.r.d2, .int .i64 o.r.d3, .int .i64 o.r.d4, .int .i64 o.r.d5, .int .i64 o.r.d6, .bool o.r.kp] 40)) from below_new (below_new (Below.refl _ _)))
  have HX := Lib.hid h
  have HM := Lib.hid hm
  have HO := Lib.hid ho
  have N1 := rds_ns ho.rs
  have N2 := wrs_ns ho.ws
  have HF := few12_any (h.below HB.out) m (hm.below HB.out)
  clear h _hq hm ho
  rcases hf : (fewX X && M.modB m.r.c) with _ | _
  · rw [hf] at HF
    have HFW := Lib.hid HF
    clear HF hf
    go_enter Try.func3, Try.ntmps3
    go_wp2_with (first
    | (with_reducible refine wpList_load_mid rfl 40 _ rfl w.heap.size 0 rfl [.int .i64 m.k, .int .i64 m.fr, .int .i64 m.to, .int .i64 m.bn, .int .i64 m.br, .int .i64 m.r.ir, .int .i64 m.r.is, .int .i64 m.r.st, .int .i64 m.r.pn, .int .i64 m.r.pr, .int .i64 m.r.bn, .int .i64 m.r.br, .int .i64 m.r.c.k, .int .i64 m.r.c.tc, .int .i64 m.r.c.tn, .int .i64 m.r.c.tt, .int .i64 m.r.c.tk, .int .i64 m.r.c.sh, va, vb, .bool m.r.c.cm, .int .i64 m.r.sq, .int .i64 m.r.d0, .int .i64 m.r.d1, .int .i64 m.r.d2, .int .i64 m.r.d3, .int .i64 m.r.d4, .int .i64 m.r.d5, .int .i64 m.r.d6, .bool m.r.kp] _ H0.out.cel.whole Try.underlying40 rfl (by kernel_rfl) ?_)
    | (go_at_call 5
       refine HFW.out.mono ?_
       rintro e w1 ⟨rfl, hb⟩
       have HB1 := Lib.hid (below_on HB.out hb)
       have KM1 := Lib.hid (H0.out.on hb)
       have KO1 := Lib.hid (H1.out.on hb)
       clear hb)
    | (go_at_call 8
       refine (awake_any _).mono ?_
       rintro e wz ⟨rfl, hb⟩
       have HBZ := Lib.hid (below_on HB1.out hb)
       clear hb)
    | fail)
    go_ret
    exact ⟨rfl, HBZ.out⟩
  rw [hf] at HF
  have HFW := Lib.hid HF
  obtain ⟨hf1, hf2⟩ := (Bool.and_eq_true _ _).mp hf
  have hX := fewX_mod hf1
  have hl20 := Lib.hid (fewX_len hf1)
  have hl : X.length ≤ 1000 := Nat.le_trans (fewX_len hf1) (by decide)
  have F := M.modB_iff.1 hf2
  clear HF hf hf1 hf2
  rcases hg : M.modB o.r.c with _ | _
  · have HG := Lib.hid hg
    clear hg
    go_enter Try.func3, Try.ntmps3
    go_wp2_with (first
    | (with_reducible refine wpList_load_mid rfl 40 _ rfl w.heap.size 0 rfl [.int .i64 m.k, .int .i64 m.fr, .int .i64 m.to, .int .i64 m.bn, .int .i64 m.br, .int .i64 m.r.ir, .int .i64 m.r.is, .int .i64 m.r.st, .int .i64 m.r.pn, .int .i64 m.r.pr, .int .i64 m.r.bn, .int .i64 m.r.br, .int .i64 m.r.c.k, .int .i64 m.r.c.tc, .int .i64 m.r.c.tn, .int .i64 m.r.c.tt, .int .i64 m.r.c.tk, .int .i64 m.r.c.sh, va, vb, .bool m.r.c.cm, .int .i64 m.r.sq, .int .i64 m.r.d0, .int .i64 m.r.d1, .int .i64 m.r.d2, .int .i64 m.r.d3, .int .i64 m.r.d4, .int .i64 m.r.d5, .int .i64 m.r.d6, .bool m.r.kp] _ H0.out.cel.whole Try.underlying40 rfl (by kernel_rfl) ?_)
    | (go_at_call 5
       refine HFW.out.mono ?_
       rintro e w1 ⟨rfl, hb⟩
       have HB1 := Lib.hid (below_on HB.out hb)
       have KM1 := Lib.hid (H0.out.on hb)
       have KO1 := Lib.hid (H1.out.on hb)
       have F1 := few_one (w := w1) (b := w1.heap.size) rfl o.r.c (HO.out.below HB1.out).rs (HO.out.below HB1.out).ws
       rw [HG.out] at F1
       have HF1 := Lib.hid F1
       have HBa1 := Lib.hid (below_new (o := .cells #[.int .i64 o.r.c.k, .int .i64 o.r.c.tc, .int .i64 o.r.c.tn, .int .i64 o.r.c.tt, .int .i64 o.r.c.tk, .int .i64 o.r.c.sh, oa, ob, .bool o.r.c.cm] 34) (Below.refl w1.heap.size w1))
       clear F1
       have cm1 := hold_range KO1.out 12 [.int .i64 o.r.c.k, .int .i64 o.r.c.tc, .int .i64 o.r.c.tn, .int .i64 o.r.c.tt, .int .i64 o.r.c.tk, .int .i64 o.r.c.sh, oa, ob, .bool o.r.c.cm] (fun j v hj => by
         match j, hj with
         | 0, hj => exact hj
         | 1, hj => exact hj
         | 2, hj => exact hj
         | 3, hj => exact hj
         | 4, hj => exact hj
         | 5, hj => exact hj
         | 6, hj => exact hj
         | 7, hj => exact hj
         | 8, hj => exact hj)
       clear hb)
    | (with_reducible refine wpList_load_mid_g ?_ 34 _ rfl (w.heap.size + 1) 12 rfl [.int .i64 o.r.c.k, .int .i64 o.r.c.tc, .int .i64 o.r.c.tn, .int .i64 o.r.c.tt, .int .i64 o.r.c.tk, .int .i64 o.r.c.sh, oa, ob, .bool o.r.c.cm] _ cm1 Try.underlying34 rfl (by kernel_rfl) ?_; kernel_rfl)
    | (go_at_call 6
       refine HF1.out.mono ?_
       rintro e w2 ⟨rfl, hb⟩
       have hb2 := below_on HBa1.out hb
       have HB2 := Lib.hid (below_on HB1.out hb2)
       have KM2 := Lib.hid (KM1.out.on hb2)
       have KO2 := Lib.hid (KO1.out.on hb2)
       clear hb hb2 cm1)
    | (go_at_call 8
       refine (awake_any _).mono ?_
       rintro e wz ⟨rfl, hb⟩
       have HBZ := Lib.hid (below_on HB2.out hb)
       clear hb)
    | fail)
    go_ret
    exact ⟨rfl, HBZ.out⟩
  have HG := Lib.hid hg
  have F2 : M.Mod (M.setI o m).r.c := M.modB_iff.1 hg
  clear hg
  by_cases h19 : 19 < X.length
  · have d19 : decide ((19 : Int) < (X.length : Int)) = true := decide_eq_true (by omega)
    clear h19
    go_enter Try.func3, Try.ntmps3
    go_wp2_with (first
    | (with_reducible refine wpList_load_mid rfl 40 _ rfl w.heap.size 0 rfl [.int .i64 m.k, .int .i64 m.fr, .int .i64 m.to, .int .i64 m.bn, .int .i64 m.br, .int .i64 m.r.ir, .int .i64 m.r.is, .int .i64 m.r.st, .int .i64 m.r.pn, .int .i64 m.r.pr, .int .i64 m.r.bn, .int .i64 m.r.br, .int .i64 m.r.c.k, .int .i64 m.r.c.tc, .int .i64 m.r.c.tn, .int .i64 m.r.c.tt, .int .i64 m.r.c.tk, .int .i64 m.r.c.sh, va, vb, .bool m.r.c.cm, .int .i64 m.r.sq, .int .i64 m.r.d0, .int .i64 m.r.d1, .int .i64 m.r.d2, .int .i64 m.r.d3, .int .i64 m.r.d4, .int .i64 m.r.d5, .int .i64 m.r.d6, .bool m.r.kp] _ H0.out.cel.whole Try.underlying40 rfl (by kernel_rfl) ?_)
    | (go_at_call 5
       refine HFW.out.mono ?_
       rintro e w1 ⟨rfl, hb⟩
       have HB1 := Lib.hid (below_on HB.out hb)
       have KM1 := Lib.hid (H0.out.on hb)
       have KO1 := Lib.hid (H1.out.on hb)
       have F1 := few_one (w := w1) (b := w1.heap.size) rfl o.r.c (HO.out.below HB1.out).rs (HO.out.below HB1.out).ws
       rw [HG.out] at F1
       have HF1 := Lib.hid F1
       have HBa1 := Lib.hid (below_new (o := .cells #[.int .i64 o.r.c.k, .int .i64 o.r.c.tc, .int .i64 o.r.c.tn, .int .i64 o.r.c.tt, .int .i64 o.r.c.tk, .int .i64 o.r.c.sh, oa, ob, .bool o.r.c.cm] 34) (Below.refl w1.heap.size w1))
       clear F1
       have cm1 := hold_range KO1.out 12 [.int .i64 o.r.c.k, .int .i64 o.r.c.tc, .int .i64 o.r.c.tn, .int .i64 o.r.c.tt, .int .i64 o.r.c.tk, .int .i64 o.r.c.sh, oa, ob, .bool o.r.c.cm] (fun j v hj => by
         match j, hj with
         | 0, hj => exact hj
         | 1, hj => exact hj
         | 2, hj => exact hj
         | 3, hj => exact hj
         | 4, hj => exact hj
         | 5, hj => exact hj
         | 6, hj => exact hj
         | 7, hj => exact hj
         | 8, hj => exact hj)
       clear hb)
    | (with_reducible refine wpList_load_mid_g ?_ 34 _ rfl (w.heap.size + 1) 12 rfl [.int .i64 o.r.c.k, .int .i64 o.r.c.tc, .int .i64 o.r.c.tn, .int .i64 o.r.c.tt, .int .i64 o.r.c.tk, .int .i64 o.r.c.sh, oa, ob, .bool o.r.c.cm] _ cm1 Try.underlying34 rfl (by kernel_rfl) ?_; kernel_rfl)
    | (go_at_call 6
       refine HF1.out.mono ?_
       rintro e w2 ⟨rfl, hb⟩
       have hb2 := below_on HBa1.out hb
       have HB2 := Lib.hid (below_on HB1.out hb2)
       have KM2 := Lib.hid (KM1.out.on hb2)
       have KO2 := Lib.hid (KO1.out.on hb2)
       clear hb hb2 cm1)
    | (go_at_call 8
       refine (awake_any _).mono ?_
       rintro e wz ⟨rfl, hb⟩
       have HBZ := Lib.hid (below_on HB2.out hb)
       clear hb)
    | fail)
    go_ret
    exact ⟨rfl, HBZ.out⟩
  have d19 : decide ((19 : Int) < (X.length : Int)) = false := decide_eq_false (by omega)
  clear h19
  rcases hr : rightsX X with _ | _
  · have HRX := Lib.hid hr
    clear hr
    go_enter Try.func3, Try.ntmps3
    go_wp2_with (first
    | (with_reducible refine wpList_load_mid rfl 40 _ rfl w.heap.size 0 rfl [.int .i64 m.k, .int .i64 m.fr, .int .i64 m.to, .int .i64 m.bn, .int .i64 m.br, .int .i64 m.r.ir, .int .i64 m.r.is, .int .i64 m.r.st, .int .i64 m.r.pn, .int .i64 m.r.pr, .int .i64 m.r.bn, .int .i64 m.r.br, .int .i64 m.r.c.k, .int .i64 m.r.c.tc, .int .i64 m.r.c.tn, .int .i64 m.r.c.tt, .int .i64 m.r.c.tk, .int .i64 m.r.c.sh, va, vb, .bool m.r.c.cm, .int .i64 m.r.sq, .int .i64 m.r.d0, .int .i64 m.r.d1, .int .i64 m.r.d2, .int .i64 m.r.d3, .int .i64 m.r.d4, .int .i64 m.r.d5, .int .i64 m.r.d6, .bool m.r.kp] _ H0.out.cel.whole Try.underlying40 rfl (by kernel_rfl) ?_)
    | (go_at_call 5
       refine HFW.out.mono ?_
       rintro e w1 ⟨rfl, hb⟩
       have HB1 := Lib.hid (below_on HB.out hb)
       have KM1 := Lib.hid (H0.out.on hb)
       have KO1 := Lib.hid (H1.out.on hb)
       have F1 := few_one (w := w1) (b := w1.heap.size) rfl o.r.c (HO.out.below HB1.out).rs (HO.out.below HB1.out).ws
       rw [HG.out] at F1
       have HF1 := Lib.hid F1
       have HBa1 := Lib.hid (below_new (o := .cells #[.int .i64 o.r.c.k, .int .i64 o.r.c.tc, .int .i64 o.r.c.tn, .int .i64 o.r.c.tt, .int .i64 o.r.c.tk, .int .i64 o.r.c.sh, oa, ob, .bool o.r.c.cm] 34) (Below.refl w1.heap.size w1))
       clear F1
       have cm1 := hold_range KO1.out 12 [.int .i64 o.r.c.k, .int .i64 o.r.c.tc, .int .i64 o.r.c.tn, .int .i64 o.r.c.tt, .int .i64 o.r.c.tk, .int .i64 o.r.c.sh, oa, ob, .bool o.r.c.cm] (fun j v hj => by
         match j, hj with
         | 0, hj => exact hj
         | 1, hj => exact hj
         | 2, hj => exact hj
         | 3, hj => exact hj
         | 4, hj => exact hj
         | 5, hj => exact hj
         | 6, hj => exact hj
         | 7, hj => exact hj
         | 8, hj => exact hj)
       clear hb)
    | (with_reducible refine wpList_load_mid_g ?_ 34 _ rfl (w.heap.size + 1) 12 rfl [.int .i64 o.r.c.k, .int .i64 o.r.c.tc, .int .i64 o.r.c.tn, .int .i64 o.r.c.tt, .int .i64 o.r.c.tk, .int .i64 o.r.c.sh, oa, ob, .bool o.r.c.cm] _ cm1 Try.underlying34 rfl (by kernel_rfl) ?_; kernel_rfl)
    | (go_at_call 6
       refine HF1.out.mono ?_
       rintro e w2 ⟨rfl, hb⟩
       have hb2 := below_on HBa1.out hb
       have HB2 := Lib.hid (below_on HB1.out hb2)
       have KM2 := Lib.hid (KM1.out.on hb2)
       have KO2 := Lib.hid (KO1.out.on hb2)
       clear hb hb2 cm1)
    | (go_at_call 7
       refine (rightsX_any (HX.out.below HB2.out) hX hl).mono ?_
       rintro e w3 ⟨rfl, hb⟩
       rw [HRX.out]
       have HB3 := Lib.hid (below_on HB2.out hb)
       have KM3 := Lib.hid (KM2.out.on hb)
       have KO3 := Lib.hid (KO2.out.on hb)
       have km3 : w3.cell? ⟨w.heap.size, 0, none⟩ = some (.int .i64 m.k) := hold_cell KM3.out 0 rfl
       have M3w := KM3.out.cel.whole
       clear hb)
    | (go_at_call 8
       refine (awake_any _).mono ?_
       rintro e wz ⟨rfl, hb⟩
       have HBZ := Lib.hid (below_on HB3.out hb)
       clear hb)
    | fail)
    go_ret
    exact ⟨rfl, HBZ.out⟩
  have HRX := Lib.hid hr
  clear hr
  by_cases h6 : m.k = 6
  rotate_left
  · obtain ⟨p1, p2⟩ := neI h6
    clear h6
    go_enter Try.func3, Try.ntmps3
    go_wp2_with (first
    | (with_reducible refine wpList_load_mid rfl 40 _ rfl w.heap.size 0 rfl [.int .i64 m.k, .int .i64 m.fr, .int .i64 m.to, .int .i64 m.bn, .int .i64 m.br, .int .i64 m.r.ir, .int .i64 m.r.is, .int .i64 m.r.st, .int .i64 m.r.pn, .int .i64 m.r.pr, .int .i64 m.r.bn, .int .i64 m.r.br, .int .i64 m.r.c.k, .int .i64 m.r.c.tc, .int .i64 m.r.c.tn, .int .i64 m.r.c.tt, .int .i64 m.r.c.tk, .int .i64 m.r.c.sh, va, vb, .bool m.r.c.cm, .int .i64 m.r.sq, .int .i64 m.r.d0, .int .i64 m.r.d1, .int .i64 m.r.d2, .int .i64 m.r.d3, .int .i64 m.r.d4, .int .i64 m.r.d5, .int .i64 m.r.d6, .bool m.r.kp] _ H0.out.cel.whole Try.underlying40 rfl (by kernel_rfl) ?_)
    | (go_at_call 5
       refine HFW.out.mono ?_
       rintro e w1 ⟨rfl, hb⟩
       have HB1 := Lib.hid (below_on HB.out hb)
       have KM1 := Lib.hid (H0.out.on hb)
       have KO1 := Lib.hid (H1.out.on hb)
       have F1 := few_one (w := w1) (b := w1.heap.size) rfl o.r.c (HO.out.below HB1.out).rs (HO.out.below HB1.out).ws
       rw [HG.out] at F1
       have HF1 := Lib.hid F1
       have HBa1 := Lib.hid (below_new (o := .cells #[.int .i64 o.r.c.k, .int .i64 o.r.c.tc, .int .i64 o.r.c.tn, .int .i64 o.r.c.tt, .int .i64 o.r.c.tk, .int .i64 o.r.c.sh, oa, ob, .bool o.r.c.cm] 34) (Below.refl w1.heap.size w1))
       clear F1
       have cm1 := hold_range KO1.out 12 [.int .i64 o.r.c.k, .int .i64 o.r.c.tc, .int .i64 o.r.c.tn, .int .i64 o.r.c.tt, .int .i64 o.r.c.tk, .int .i64 o.r.c.sh, oa, ob, .bool o.r.c.cm] (fun j v hj => by
         match j, hj with
         | 0, hj => exact hj
         | 1, hj => exact hj
         | 2, hj => exact hj
         | 3, hj => exact hj
         | 4, hj => exact hj
         | 5, hj => exact hj
         | 6, hj => exact hj
         | 7, hj => exact hj
         | 8, hj => exact hj)
       clear hb)
    | (with_reducible refine wpList_load_mid_g ?_ 34 _ rfl (w.heap.size + 1) 12 rfl [.int .i64 o.r.c.k, .int .i64 o.r.c.tc, .int .i64 o.r.c.tn, .int .i64 o.r.c.tt, .int .i64 o.r.c.tk, .int .i64 o.r.c.sh, oa, ob, .bool o.r.c.cm] _ cm1 Try.underlying34 rfl (by kernel_rfl) ?_; kernel_rfl)
    | (go_at_call 6
       refine HF1.out.mono ?_
       rintro e w2 ⟨rfl, hb⟩
       have hb2 := below_on HBa1.out hb
       have HB2 := Lib.hid (below_on HB1.out hb2)
       have KM2 := Lib.hid (KM1.out.on hb2)
       have KO2 := Lib.hid (KO1.out.on hb2)
       clear hb hb2 cm1)
    | (go_at_call 7
       refine (rightsX_any (HX.out.below HB2.out) hX hl).mono ?_
       rintro e w3 ⟨rfl, hb⟩
       rw [HRX.out]
       have HB3 := Lib.hid (below_on HB2.out hb)
       have KM3 := Lib.hid (KM2.out.on hb)
       have KO3 := Lib.hid (KO2.out.on hb)
       have km3 : w3.cell? ⟨w.heap.size, 0, none⟩ = some (.int .i64 m.k) := hold_cell KM3.out 0 rfl
       have M3w := KM3.out.cel.whole
       clear hb)
    | (go_at_call 8
       refine (awake_any _).mono ?_
       rintro e wz ⟨rfl, hb⟩
       have HBZ := Lib.hid (below_on HB3.out hb)
       clear hb)
    | fail)
    go_ret
    exact ⟨rfl, HBZ.out⟩
  obtain ⟨p1, p2⟩ := eqI h6
  obtain ⟨s, hs⟩ : ∃ s, s = M.handle X p m := ⟨_, rfl⟩
  obtain ⟨st, er⟩ := s
  have hs1 : (M.handle X p m).1 = st := by rw [← hs]
  have hs2 : (M.handle X p m).2 = er := by rw [← hs]
  have HS := Lib.hid hs
  clear hs
  by_cases he : er = 0
  rotate_left
  · obtain ⟨q1, q2⟩ := neI he
    clear hs1 hs2 he h6
    go_enter Try.func3, Try.ntmps3
    go_wp2_with (first
    | (with_reducible refine wpList_load_mid rfl 40 _ rfl w.heap.size 0 rfl [.int .i64 m.k, .int .i64 m.fr, .int .i64 m.to, .int .i64 m.bn, .int .i64 m.br, .int .i64 m.r.ir, .int .i64 m.r.is, .int .i64 m.r.st, .int .i64 m.r.pn, .int .i64 m.r.pr, .int .i64 m.r.bn, .int .i64 m.r.br, .int .i64 m.r.c.k, .int .i64 m.r.c.tc, .int .i64 m.r.c.tn, .int .i64 m.r.c.tt, .int .i64 m.r.c.tk, .int .i64 m.r.c.sh, va, vb, .bool m.r.c.cm, .int .i64 m.r.sq, .int .i64 m.r.d0, .int .i64 m.r.d1, .int .i64 m.r.d2, .int .i64 m.r.d3, .int .i64 m.r.d4, .int .i64 m.r.d5, .int .i64 m.r.d6, .bool m.r.kp] _ H0.out.cel.whole Try.underlying40 rfl (by kernel_rfl) ?_)
    | (go_at_call 5
       refine HFW.out.mono ?_
       rintro e w1 ⟨rfl, hb⟩
       have HB1 := Lib.hid (below_on HB.out hb)
       have KM1 := Lib.hid (H0.out.on hb)
       have KO1 := Lib.hid (H1.out.on hb)
       have F1 := few_one (w := w1) (b := w1.heap.size) rfl o.r.c (HO.out.below HB1.out).rs (HO.out.below HB1.out).ws
       rw [HG.out] at F1
       have HF1 := Lib.hid F1
       have HBa1 := Lib.hid (below_new (o := .cells #[.int .i64 o.r.c.k, .int .i64 o.r.c.tc, .int .i64 o.r.c.tn, .int .i64 o.r.c.tt, .int .i64 o.r.c.tk, .int .i64 o.r.c.sh, oa, ob, .bool o.r.c.cm] 34) (Below.refl w1.heap.size w1))
       clear F1
       have cm1 := hold_range KO1.out 12 [.int .i64 o.r.c.k, .int .i64 o.r.c.tc, .int .i64 o.r.c.tn, .int .i64 o.r.c.tt, .int .i64 o.r.c.tk, .int .i64 o.r.c.sh, oa, ob, .bool o.r.c.cm] (fun j v hj => by
         match j, hj with
         | 0, hj => exact hj
         | 1, hj => exact hj
         | 2, hj => exact hj
         | 3, hj => exact hj
         | 4, hj => exact hj
         | 5, hj => exact hj
         | 6, hj => exact hj
         | 7, hj => exact hj
         | 8, hj => exact hj)
       clear hb)
    | (with_reducible refine wpList_load_mid_g ?_ 34 _ rfl (w.heap.size + 1) 12 rfl [.int .i64 o.r.c.k, .int .i64 o.r.c.tc, .int .i64 o.r.c.tn, .int .i64 o.r.c.tt, .int .i64 o.r.c.tk, .int .i64 o.r.c.sh, oa, ob, .bool o.r.c.cm] _ cm1 Try.underlying34 rfl (by kernel_rfl) ?_; kernel_rfl)
    | (go_at_call 6
       refine HF1.out.mono ?_
       rintro e w2 ⟨rfl, hb⟩
       have hb2 := below_on HBa1.out hb
       have HB2 := Lib.hid (below_on HB1.out hb2)
       have KM2 := Lib.hid (KM1.out.on hb2)
       have KO2 := Lib.hid (KO1.out.on hb2)
       clear hb hb2 cm1)
    | (go_at_call 7
       refine (rightsX_any (HX.out.below HB2.out) hX hl).mono ?_
       rintro e w3 ⟨rfl, hb⟩
       rw [HRX.out]
       have HB3 := Lib.hid (below_on HB2.out hb)
       have KM3 := Lib.hid (KM2.out.on hb)
       have KO3 := Lib.hid (KO2.out.on hb)
       have km3 : w3.cell? ⟨w.heap.size, 0, none⟩ = some (.int .i64 m.k) := hold_cell KM3.out 0 rfl
       have M3w := KM3.out.cel.whole
       clear hb)
    | (with_reducible refine wpList_load_mid rfl 40 _ rfl w.heap.size 0 rfl [.int .i64 m.k, .int .i64 m.fr, .int .i64 m.to, .int .i64 m.bn, .int .i64 m.br, .int .i64 m.r.ir, .int .i64 m.r.is, .int .i64 m.r.st, .int .i64 m.r.pn, .int .i64 m.r.pr, .int .i64 m.r.bn, .int .i64 m.r.br, .int .i64 m.r.c.k, .int .i64 m.r.c.tc, .int .i64 m.r.c.tn, .int .i64 m.r.c.tt, .int .i64 m.r.c.tk, .int .i64 m.r.c.sh, va, vb, .bool m.r.c.cm, .int .i64 m.r.sq, .int .i64 m.r.d0, .int .i64 m.r.d1, .int .i64 m.r.d2, .int .i64 m.r.d3, .int .i64 m.r.d4, .int .i64 m.r.d5, .int .i64 m.r.d6, .bool m.r.kp] _ M3w Try.underlying40 rfl (by kernel_rfl) ?_)
    | (go_at_call 9
       have HA := handle_any (HX.out.below HB3.out) hl hX p m (HM.out.below HB3.out) F
       rw [← HS.out] at HA
       refine HA.mono ?_
       clear HA HS km3
       rintro e w4 ⟨xa, xb, ya, yb, rfl, t1, t2, hb⟩
       have HB4 := Lib.hid (below_on HB3.out hb)
       have KM4 := Lib.hid (KM3.out.on hb)
       have KO4 := Lib.hid (KO3.out.on hb)
       have T14 := Lib.hid t1
       have o5 : (stc st xa xb ya yb).all (·.oneCell') = true := stc_one (rds_one t1.rs) (wrs_one t1.ws) (rds_one t2.rs) (wrs_one t2.ws)
       clear hb t1 t2)
    | (with_reducible refine store_freshA rfl 46 _ _ rfl w4.heap.size rfl 46 _ (stc st xa xb ya yb) rfl rfl rfl (stc_size _ _ _ _ _) o5 ?_
       intro w5 S5 b5
       have HB5 := Lib.hid (below_on HB4.out b5)
       have KM5 := Lib.hid (KM4.out.on b5)
       have KO5 := KO4.out.on b5
       have T15 := Lib.hid (T14.out.below b5)
       have hs45 := Lib.hid (show w.heap.size + 1 + 1 ≤ w4.heap.size by have := hold_lt KO4.out; omega)
       have KS5 := Lib.hid S5
       have mi5 := hold_range KM5.out 5 [.int .i64 m.r.ir, .int .i64 m.r.is] (fun j v hj => by
         match j, hj with
         | 0, hj => exact hj
         | 1, hj => exact hj)
       clear b5 S5)
    | (with_reducible refine wpList_load_mid rfl 26 _ rfl w.heap.size 5 rfl [.int .i64 m.r.ir, .int .i64 m.r.is] _ mi5 Try.underlying26 rfl (by kernel_rfl) ?_)
    | (with_reducible refine store_hold rfl 26 _ _ rfl (w.heap.size + 1) 5 rfl 40 [.int .i64 m.r.ir, .int .i64 m.r.is] [.int .i64 o.k, .int .i64 o.fr, .int .i64 o.to, .int .i64 o.bn, .int .i64 o.br, .int .i64 o.r.ir, .int .i64 o.r.is, .int .i64 o.r.st, .int .i64 o.r.pn, .int .i64 o.r.pr, .int .i64 o.r.bn, .int .i64 o.r.br, .int .i64 o.r.c.k, .int .i64 o.r.c.tc, .int .i64 o.r.c.tn, .int .i64 o.r.c.tt, .int .i64 o.r.c.tk, .int .i64 o.r.c.sh, oa, ob, .bool o.r.c.cm, .int .i64 o.r.sq, .int .i64 o.r.d0, .int .i64 o.r.d1, .int .i64 o.r.d2, .int .i64 o.r.d3, .int .i64 o.r.d4, .int .i64 o.r.d5, .int .i64 o.r.d6, .bool o.r.kp] [.int .i64 (M.setI o m).k, .int .i64 (M.setI o m).fr, .int .i64 (M.setI o m).to, .int .i64 (M.setI o m).bn, .int .i64 (M.setI o m).br, .int .i64 (M.setI o m).r.ir, .int .i64 (M.setI o m).r.is, .int .i64 (M.setI o m).r.st, .int .i64 (M.setI o m).r.pn, .int .i64 (M.setI o m).r.pr, .int .i64 (M.setI o m).r.bn, .int .i64 (M.setI o m).r.br, .int .i64 (M.setI o m).r.c.k, .int .i64 (M.setI o m).r.c.tc, .int .i64 (M.setI o m).r.c.tn, .int .i64 (M.setI o m).r.c.tt, .int .i64 (M.setI o m).r.c.tk, .int .i64 (M.setI o m).r.c.sh, oa, ob, .bool (M.setI o m).r.c.cm, .int .i64 (M.setI o m).r.sq, .int .i64 (M.setI o m).r.d0, .int .i64 (M.setI o m).r.d1, .int .i64 (M.setI o m).r.d2, .int .i64 (M.setI o m).r.d3, .int .i64 (M.setI o m).r.d4, .int .i64 (M.setI o m).r.d5, .int .i64 (M.setI o m).r.d6, .bool (M.setI o m).r.kp] rfl KO5 (by kernel_rfl) (of_decide_eq_true (by kernel_rfl)) (by kernel_rfl) rfl ?_
       intro w6 G6 K6
       have KO6 := Lib.hid G6
       have KM6 := Lib.hid (K6.hold KM5.out (by omega))
       have KS6 := Lib.hid (K6.hold KS5.out (by have := hs45.out; omega))
       have HB6 := Lib.hid (K6.below w.heap.size w (by omega) HB5.out)
       have T16 := Lib.hid (T15.out.wrote KO5 K6 (mv_ns (x := ⟨o, oa, ob⟩) N1 N2))
       have n26 : w6.cell? ⟨w4.heap.size, 26, none⟩ = some (.int .i64 st.m.k) := hold_cell KS6.out 26 rfl
       have o0 : w6.cell? ⟨w.heap.size + 1, 0, none⟩ = some (.int .i64 o.k) := hold_cell KO6.out 0 rfl
       have o3 : w6.cell? ⟨w.heap.size + 1, 3, none⟩ = some (.int .i64 o.bn) := hold_cell KO6.out 3 rfl
       have o4 : w6.cell? ⟨w.heap.size + 1, 4, none⟩ = some (.int .i64 o.br) := hold_cell KO6.out 4 rfl
       have m3 : w6.cell? ⟨w.heap.size, 3, none⟩ = some (.int .i64 m.bn) := hold_cell KM6.out 3 rfl
       have m4 : w6.cell? ⟨w.heap.size, 4, none⟩ = some (.int .i64 m.br) := hold_cell KM6.out 4 rfl
       clear K6 mi5 G6 KO5)
    | (go_at_call 8
       refine (awake_any _).mono ?_
       rintro e wz ⟨rfl, hb⟩
       have HBZ := Lib.hid (below_on HB6.out hb)
       clear hb)
    | fail)
    go_ret
    exact ⟨rfl, HBZ.out⟩
  obtain ⟨q1, q2⟩ := eqI he
  by_cases h7 : st.m.k = 7
  rotate_left
  · obtain ⟨r1, r2⟩ := neI h7
    clear hs1 hs2 he h6 h7
    go_enter Try.func3, Try.ntmps3
    go_wp2_with (first
    | (with_reducible refine wpList_load_mid rfl 40 _ rfl w.heap.size 0 rfl [.int .i64 m.k, .int .i64 m.fr, .int .i64 m.to, .int .i64 m.bn, .int .i64 m.br, .int .i64 m.r.ir, .int .i64 m.r.is, .int .i64 m.r.st, .int .i64 m.r.pn, .int .i64 m.r.pr, .int .i64 m.r.bn, .int .i64 m.r.br, .int .i64 m.r.c.k, .int .i64 m.r.c.tc, .int .i64 m.r.c.tn, .int .i64 m.r.c.tt, .int .i64 m.r.c.tk, .int .i64 m.r.c.sh, va, vb, .bool m.r.c.cm, .int .i64 m.r.sq, .int .i64 m.r.d0, .int .i64 m.r.d1, .int .i64 m.r.d2, .int .i64 m.r.d3, .int .i64 m.r.d4, .int .i64 m.r.d5, .int .i64 m.r.d6, .bool m.r.kp] _ H0.out.cel.whole Try.underlying40 rfl (by kernel_rfl) ?_)
    | (go_at_call 5
       refine HFW.out.mono ?_
       rintro e w1 ⟨rfl, hb⟩
       have HB1 := Lib.hid (below_on HB.out hb)
       have KM1 := Lib.hid (H0.out.on hb)
       have KO1 := Lib.hid (H1.out.on hb)
       have F1 := few_one (w := w1) (b := w1.heap.size) rfl o.r.c (HO.out.below HB1.out).rs (HO.out.below HB1.out).ws
       rw [HG.out] at F1
       have HF1 := Lib.hid F1
       have HBa1 := Lib.hid (below_new (o := .cells #[.int .i64 o.r.c.k, .int .i64 o.r.c.tc, .int .i64 o.r.c.tn, .int .i64 o.r.c.tt, .int .i64 o.r.c.tk, .int .i64 o.r.c.sh, oa, ob, .bool o.r.c.cm] 34) (Below.refl w1.heap.size w1))
       clear F1
       have cm1 := hold_range KO1.out 12 [.int .i64 o.r.c.k, .int .i64 o.r.c.tc, .int .i64 o.r.c.tn, .int .i64 o.r.c.tt, .int .i64 o.r.c.tk, .int .i64 o.r.c.sh, oa, ob, .bool o.r.c.cm] (fun j v hj => by
         match j, hj with
         | 0, hj => exact hj
         | 1, hj => exact hj
         | 2, hj => exact hj
         | 3, hj => exact hj
         | 4, hj => exact hj
         | 5, hj => exact hj
         | 6, hj => exact hj
         | 7, hj => exact hj
         | 8, hj => exact hj)
       clear hb)
    | (with_reducible refine wpList_load_mid_g ?_ 34 _ rfl (w.heap.size + 1) 12 rfl [.int .i64 o.r.c.k, .int .i64 o.r.c.tc, .int .i64 o.r.c.tn, .int .i64 o.r.c.tt, .int .i64 o.r.c.tk, .int .i64 o.r.c.sh, oa, ob, .bool o.r.c.cm] _ cm1 Try.underlying34 rfl (by kernel_rfl) ?_; kernel_rfl)
    | (go_at_call 6
       refine HF1.out.mono ?_
       rintro e w2 ⟨rfl, hb⟩
       have hb2 := below_on HBa1.out hb
       have HB2 := Lib.hid (below_on HB1.out hb2)
       have KM2 := Lib.hid (KM1.out.on hb2)
       have KO2 := Lib.hid (KO1.out.on hb2)
       clear hb hb2 cm1)
    | (go_at_call 7
       refine (rightsX_any (HX.out.below HB2.out) hX hl).mono ?_
       rintro e w3 ⟨rfl, hb⟩
       rw [HRX.out]
       have HB3 := Lib.hid (below_on HB2.out hb)
       have KM3 := Lib.hid (KM2.out.on hb)
       have KO3 := Lib.hid (KO2.out.on hb)
       have km3 : w3.cell? ⟨w.heap.size, 0, none⟩ = some (.int .i64 m.k) := hold_cell KM3.out 0 rfl
       have M3w := KM3.out.cel.whole
       clear hb)
    | (with_reducible refine wpList_load_mid rfl 40 _ rfl w.heap.size 0 rfl [.int .i64 m.k, .int .i64 m.fr, .int .i64 m.to, .int .i64 m.bn, .int .i64 m.br, .int .i64 m.r.ir, .int .i64 m.r.is, .int .i64 m.r.st, .int .i64 m.r.pn, .int .i64 m.r.pr, .int .i64 m.r.bn, .int .i64 m.r.br, .int .i64 m.r.c.k, .int .i64 m.r.c.tc, .int .i64 m.r.c.tn, .int .i64 m.r.c.tt, .int .i64 m.r.c.tk, .int .i64 m.r.c.sh, va, vb, .bool m.r.c.cm, .int .i64 m.r.sq, .int .i64 m.r.d0, .int .i64 m.r.d1, .int .i64 m.r.d2, .int .i64 m.r.d3, .int .i64 m.r.d4, .int .i64 m.r.d5, .int .i64 m.r.d6, .bool m.r.kp] _ M3w Try.underlying40 rfl (by kernel_rfl) ?_)
    | (go_at_call 9
       have HA := handle_any (HX.out.below HB3.out) hl hX p m (HM.out.below HB3.out) F
       rw [← HS.out] at HA
       refine HA.mono ?_
       clear HA HS km3
       rintro e w4 ⟨xa, xb, ya, yb, rfl, t1, t2, hb⟩
       have HB4 := Lib.hid (below_on HB3.out hb)
       have KM4 := Lib.hid (KM3.out.on hb)
       have KO4 := Lib.hid (KO3.out.on hb)
       have T14 := Lib.hid t1
       have o5 : (stc st xa xb ya yb).all (·.oneCell') = true := stc_one (rds_one t1.rs) (wrs_one t1.ws) (rds_one t2.rs) (wrs_one t2.ws)
       clear hb t1 t2)
    | (with_reducible refine store_freshA rfl 46 _ _ rfl w4.heap.size rfl 46 _ (stc st xa xb ya yb) rfl rfl rfl (stc_size _ _ _ _ _) o5 ?_
       intro w5 S5 b5
       have HB5 := Lib.hid (below_on HB4.out b5)
       have KM5 := Lib.hid (KM4.out.on b5)
       have KO5 := KO4.out.on b5
       have T15 := Lib.hid (T14.out.below b5)
       have hs45 := Lib.hid (show w.heap.size + 1 + 1 ≤ w4.heap.size by have := hold_lt KO4.out; omega)
       have KS5 := Lib.hid S5
       have mi5 := hold_range KM5.out 5 [.int .i64 m.r.ir, .int .i64 m.r.is] (fun j v hj => by
         match j, hj with
         | 0, hj => exact hj
         | 1, hj => exact hj)
       clear b5 S5)
    | (with_reducible refine wpList_load_mid rfl 26 _ rfl w.heap.size 5 rfl [.int .i64 m.r.ir, .int .i64 m.r.is] _ mi5 Try.underlying26 rfl (by kernel_rfl) ?_)
    | (with_reducible refine store_hold rfl 26 _ _ rfl (w.heap.size + 1) 5 rfl 40 [.int .i64 m.r.ir, .int .i64 m.r.is] [.int .i64 o.k, .int .i64 o.fr, .int .i64 o.to, .int .i64 o.bn, .int .i64 o.br, .int .i64 o.r.ir, .int .i64 o.r.is, .int .i64 o.r.st, .int .i64 o.r.pn, .int .i64 o.r.pr, .int .i64 o.r.bn, .int .i64 o.r.br, .int .i64 o.r.c.k, .int .i64 o.r.c.tc, .int .i64 o.r.c.tn, .int .i64 o.r.c.tt, .int .i64 o.r.c.tk, .int .i64 o.r.c.sh, oa, ob, .bool o.r.c.cm, .int .i64 o.r.sq, .int .i64 o.r.d0, .int .i64 o.r.d1, .int .i64 o.r.d2, .int .i64 o.r.d3, .int .i64 o.r.d4, .int .i64 o.r.d5, .int .i64 o.r.d6, .bool o.r.kp] [.int .i64 (M.setI o m).k, .int .i64 (M.setI o m).fr, .int .i64 (M.setI o m).to, .int .i64 (M.setI o m).bn, .int .i64 (M.setI o m).br, .int .i64 (M.setI o m).r.ir, .int .i64 (M.setI o m).r.is, .int .i64 (M.setI o m).r.st, .int .i64 (M.setI o m).r.pn, .int .i64 (M.setI o m).r.pr, .int .i64 (M.setI o m).r.bn, .int .i64 (M.setI o m).r.br, .int .i64 (M.setI o m).r.c.k, .int .i64 (M.setI o m).r.c.tc, .int .i64 (M.setI o m).r.c.tn, .int .i64 (M.setI o m).r.c.tt, .int .i64 (M.setI o m).r.c.tk, .int .i64 (M.setI o m).r.c.sh, oa, ob, .bool (M.setI o m).r.c.cm, .int .i64 (M.setI o m).r.sq, .int .i64 (M.setI o m).r.d0, .int .i64 (M.setI o m).r.d1, .int .i64 (M.setI o m).r.d2, .int .i64 (M.setI o m).r.d3, .int .i64 (M.setI o m).r.d4, .int .i64 (M.setI o m).r.d5, .int .i64 (M.setI o m).r.d6, .bool (M.setI o m).r.kp] rfl KO5 (by kernel_rfl) (of_decide_eq_true (by kernel_rfl)) (by kernel_rfl) rfl ?_
       intro w6 G6 K6
       have KO6 := Lib.hid G6
       have KM6 := Lib.hid (K6.hold KM5.out (by omega))
       have KS6 := Lib.hid (K6.hold KS5.out (by have := hs45.out; omega))
       have HB6 := Lib.hid (K6.below w.heap.size w (by omega) HB5.out)
       have T16 := Lib.hid (T15.out.wrote KO5 K6 (mv_ns (x := ⟨o, oa, ob⟩) N1 N2))
       have n26 : w6.cell? ⟨w4.heap.size, 26, none⟩ = some (.int .i64 st.m.k) := hold_cell KS6.out 26 rfl
       have o0 : w6.cell? ⟨w.heap.size + 1, 0, none⟩ = some (.int .i64 o.k) := hold_cell KO6.out 0 rfl
       have o3 : w6.cell? ⟨w.heap.size + 1, 3, none⟩ = some (.int .i64 o.bn) := hold_cell KO6.out 3 rfl
       have o4 : w6.cell? ⟨w.heap.size + 1, 4, none⟩ = some (.int .i64 o.br) := hold_cell KO6.out 4 rfl
       have m3 : w6.cell? ⟨w.heap.size, 3, none⟩ = some (.int .i64 m.bn) := hold_cell KM6.out 3 rfl
       have m4 : w6.cell? ⟨w.heap.size, 4, none⟩ = some (.int .i64 m.br) := hold_cell KM6.out 4 rfl
       clear K6 mi5 G6 KO5)
    | (go_at_call 8
       refine (awake_any _).mono ?_
       rintro e wz ⟨rfl, hb⟩
       have HBZ := Lib.hid (below_on HB6.out hb)
       clear hb)
    | fail)
    go_ret
    exact ⟨rfl, HBZ.out⟩
  obtain ⟨r1, r2⟩ := eqI h7
  by_cases hlw : M.ord o.bn o.br m.bn m.br < 0
  rotate_left
  · have dl : decide (M.ord o.bn o.br m.bn m.br < 0) = false := decide_eq_false hlw
    clear hs1 hs2 he h6 h7 hlw
    go_enter Try.func3, Try.ntmps3
    go_wp2_with (first
    | (with_reducible refine wpList_load_mid rfl 40 _ rfl w.heap.size 0 rfl [.int .i64 m.k, .int .i64 m.fr, .int .i64 m.to, .int .i64 m.bn, .int .i64 m.br, .int .i64 m.r.ir, .int .i64 m.r.is, .int .i64 m.r.st, .int .i64 m.r.pn, .int .i64 m.r.pr, .int .i64 m.r.bn, .int .i64 m.r.br, .int .i64 m.r.c.k, .int .i64 m.r.c.tc, .int .i64 m.r.c.tn, .int .i64 m.r.c.tt, .int .i64 m.r.c.tk, .int .i64 m.r.c.sh, va, vb, .bool m.r.c.cm, .int .i64 m.r.sq, .int .i64 m.r.d0, .int .i64 m.r.d1, .int .i64 m.r.d2, .int .i64 m.r.d3, .int .i64 m.r.d4, .int .i64 m.r.d5, .int .i64 m.r.d6, .bool m.r.kp] _ H0.out.cel.whole Try.underlying40 rfl (by kernel_rfl) ?_)
    | (go_at_call 5
       refine HFW.out.mono ?_
       rintro e w1 ⟨rfl, hb⟩
       have HB1 := Lib.hid (below_on HB.out hb)
       have KM1 := Lib.hid (H0.out.on hb)
       have KO1 := Lib.hid (H1.out.on hb)
       have F1 := few_one (w := w1) (b := w1.heap.size) rfl o.r.c (HO.out.below HB1.out).rs (HO.out.below HB1.out).ws
       rw [HG.out] at F1
       have HF1 := Lib.hid F1
       have HBa1 := Lib.hid (below_new (o := .cells #[.int .i64 o.r.c.k, .int .i64 o.r.c.tc, .int .i64 o.r.c.tn, .int .i64 o.r.c.tt, .int .i64 o.r.c.tk, .int .i64 o.r.c.sh, oa, ob, .bool o.r.c.cm] 34) (Below.refl w1.heap.size w1))
       clear F1
       have cm1 := hold_range KO1.out 12 [.int .i64 o.r.c.k, .int .i64 o.r.c.tc, .int .i64 o.r.c.tn, .int .i64 o.r.c.tt, .int .i64 o.r.c.tk, .int .i64 o.r.c.sh, oa, ob, .bool o.r.c.cm] (fun j v hj => by
         match j, hj with
         | 0, hj => exact hj
         | 1, hj => exact hj
         | 2, hj => exact hj
         | 3, hj => exact hj
         | 4, hj => exact hj
         | 5, hj => exact hj
         | 6, hj => exact hj
         | 7, hj => exact hj
         | 8, hj => exact hj)
       clear hb)
    | (with_reducible refine wpList_load_mid_g ?_ 34 _ rfl (w.heap.size + 1) 12 rfl [.int .i64 o.r.c.k, .int .i64 o.r.c.tc, .int .i64 o.r.c.tn, .int .i64 o.r.c.tt, .int .i64 o.r.c.tk, .int .i64 o.r.c.sh, oa, ob, .bool o.r.c.cm] _ cm1 Try.underlying34 rfl (by kernel_rfl) ?_; kernel_rfl)
    | (go_at_call 6
       refine HF1.out.mono ?_
       rintro e w2 ⟨rfl, hb⟩
       have hb2 := below_on HBa1.out hb
       have HB2 := Lib.hid (below_on HB1.out hb2)
       have KM2 := Lib.hid (KM1.out.on hb2)
       have KO2 := Lib.hid (KO1.out.on hb2)
       clear hb hb2 cm1)
    | (go_at_call 7
       refine (rightsX_any (HX.out.below HB2.out) hX hl).mono ?_
       rintro e w3 ⟨rfl, hb⟩
       rw [HRX.out]
       have HB3 := Lib.hid (below_on HB2.out hb)
       have KM3 := Lib.hid (KM2.out.on hb)
       have KO3 := Lib.hid (KO2.out.on hb)
       have km3 : w3.cell? ⟨w.heap.size, 0, none⟩ = some (.int .i64 m.k) := hold_cell KM3.out 0 rfl
       have M3w := KM3.out.cel.whole
       clear hb)
    | (with_reducible refine wpList_load_mid rfl 40 _ rfl w.heap.size 0 rfl [.int .i64 m.k, .int .i64 m.fr, .int .i64 m.to, .int .i64 m.bn, .int .i64 m.br, .int .i64 m.r.ir, .int .i64 m.r.is, .int .i64 m.r.st, .int .i64 m.r.pn, .int .i64 m.r.pr, .int .i64 m.r.bn, .int .i64 m.r.br, .int .i64 m.r.c.k, .int .i64 m.r.c.tc, .int .i64 m.r.c.tn, .int .i64 m.r.c.tt, .int .i64 m.r.c.tk, .int .i64 m.r.c.sh, va, vb, .bool m.r.c.cm, .int .i64 m.r.sq, .int .i64 m.r.d0, .int .i64 m.r.d1, .int .i64 m.r.d2, .int .i64 m.r.d3, .int .i64 m.r.d4, .int .i64 m.r.d5, .int .i64 m.r.d6, .bool m.r.kp] _ M3w Try.underlying40 rfl (by kernel_rfl) ?_)
    | (go_at_call 9
       have HA := handle_any (HX.out.below HB3.out) hl hX p m (HM.out.below HB3.out) F
       rw [← HS.out] at HA
       refine HA.mono ?_
       clear HA HS km3
       rintro e w4 ⟨xa, xb, ya, yb, rfl, t1, t2, hb⟩
       have HB4 := Lib.hid (below_on HB3.out hb)
       have KM4 := Lib.hid (KM3.out.on hb)
       have KO4 := Lib.hid (KO3.out.on hb)
       have T14 := Lib.hid t1
       have o5 : (stc st xa xb ya yb).all (·.oneCell') = true := stc_one (rds_one t1.rs) (wrs_one t1.ws) (rds_one t2.rs) (wrs_one t2.ws)
       clear hb t1 t2)
    | (with_reducible refine store_freshA rfl 46 _ _ rfl w4.heap.size rfl 46 _ (stc st xa xb ya yb) rfl rfl rfl (stc_size _ _ _ _ _) o5 ?_
       intro w5 S5 b5
       have HB5 := Lib.hid (below_on HB4.out b5)
       have KM5 := Lib.hid (KM4.out.on b5)
       have KO5 := KO4.out.on b5
       have T15 := Lib.hid (T14.out.below b5)
       have hs45 := Lib.hid (show w.heap.size + 1 + 1 ≤ w4.heap.size by have := hold_lt KO4.out; omega)
       have KS5 := Lib.hid S5
       have mi5 := hold_range KM5.out 5 [.int .i64 m.r.ir, .int .i64 m.r.is] (fun j v hj => by
         match j, hj with
         | 0, hj => exact hj
         | 1, hj => exact hj)
       clear b5 S5)
    | (with_reducible refine wpList_load_mid rfl 26 _ rfl w.heap.size 5 rfl [.int .i64 m.r.ir, .int .i64 m.r.is] _ mi5 Try.underlying26 rfl (by kernel_rfl) ?_)
    | (with_reducible refine store_hold rfl 26 _ _ rfl (w.heap.size + 1) 5 rfl 40 [.int .i64 m.r.ir, .int .i64 m.r.is] [.int .i64 o.k, .int .i64 o.fr, .int .i64 o.to, .int .i64 o.bn, .int .i64 o.br, .int .i64 o.r.ir, .int .i64 o.r.is, .int .i64 o.r.st, .int .i64 o.r.pn, .int .i64 o.r.pr, .int .i64 o.r.bn, .int .i64 o.r.br, .int .i64 o.r.c.k, .int .i64 o.r.c.tc, .int .i64 o.r.c.tn, .int .i64 o.r.c.tt, .int .i64 o.r.c.tk, .int .i64 o.r.c.sh, oa, ob, .bool o.r.c.cm, .int .i64 o.r.sq, .int .i64 o.r.d0, .int .i64 o.r.d1, .int .i64 o.r.d2, .int .i64 o.r.d3, .int .i64 o.r.d4, .int .i64 o.r.d5, .int .i64 o.r.d6, .bool o.r.kp] [.int .i64 (M.setI o m).k, .int .i64 (M.setI o m).fr, .int .i64 (M.setI o m).to, .int .i64 (M.setI o m).bn, .int .i64 (M.setI o m).br, .int .i64 (M.setI o m).r.ir, .int .i64 (M.setI o m).r.is, .int .i64 (M.setI o m).r.st, .int .i64 (M.setI o m).r.pn, .int .i64 (M.setI o m).r.pr, .int .i64 (M.setI o m).r.bn, .int .i64 (M.setI o m).r.br, .int .i64 (M.setI o m).r.c.k, .int .i64 (M.setI o m).r.c.tc, .int .i64 (M.setI o m).r.c.tn, .int .i64 (M.setI o m).r.c.tt, .int .i64 (M.setI o m).r.c.tk, .int .i64 (M.setI o m).r.c.sh, oa, ob, .bool (M.setI o m).r.c.cm, .int .i64 (M.setI o m).r.sq, .int .i64 (M.setI o m).r.d0, .int .i64 (M.setI o m).r.d1, .int .i64 (M.setI o m).r.d2, .int .i64 (M.setI o m).r.d3, .int .i64 (M.setI o m).r.d4, .int .i64 (M.setI o m).r.d5, .int .i64 (M.setI o m).r.d6, .bool (M.setI o m).r.kp] rfl KO5 (by kernel_rfl) (of_decide_eq_true (by kernel_rfl)) (by kernel_rfl) rfl ?_
       intro w6 G6 K6
       have KO6 := Lib.hid G6
       have KM6 := Lib.hid (K6.hold KM5.out (by omega))
       have KS6 := Lib.hid (K6.hold KS5.out (by have := hs45.out; omega))
       have HB6 := Lib.hid (K6.below w.heap.size w (by omega) HB5.out)
       have T16 := Lib.hid (T15.out.wrote KO5 K6 (mv_ns (x := ⟨o, oa, ob⟩) N1 N2))
       have n26 : w6.cell? ⟨w4.heap.size, 26, none⟩ = some (.int .i64 st.m.k) := hold_cell KS6.out 26 rfl
       have o0 : w6.cell? ⟨w.heap.size + 1, 0, none⟩ = some (.int .i64 o.k) := hold_cell KO6.out 0 rfl
       have o3 : w6.cell? ⟨w.heap.size + 1, 3, none⟩ = some (.int .i64 o.bn) := hold_cell KO6.out 3 rfl
       have o4 : w6.cell? ⟨w.heap.size + 1, 4, none⟩ = some (.int .i64 o.br) := hold_cell KO6.out 4 rfl
       have m3 : w6.cell? ⟨w.heap.size, 3, none⟩ = some (.int .i64 m.bn) := hold_cell KM6.out 3 rfl
       have m4 : w6.cell? ⟨w.heap.size, 4, none⟩ = some (.int .i64 m.br) := hold_cell KM6.out 4 rfl
       clear K6 mi5 G6 KO5)
    | (go_at_call 10
       refine (dlower_any o.bn o.br m.bn m.br w6).mono ?_
       rintro e w7 ⟨rfl, hb⟩
       have HB7 := Lib.hid (below_on HB6.out hb)
       have KM7 := Lib.hid (KM6.out.on hb)
       have KO7 := Lib.hid (KO6.out.on hb)
       have KS7 := Lib.hid (KS6.out.on hb)
       have T17 := Lib.hid (T16.out.below hb)
       have o0' : w7.cell? ⟨w.heap.size + 1, 0, none⟩ = some (.int .i64 o.k) := hold_cell KO7.out 0 rfl
       clear hb)
    | (go_at_call 8
       refine (awake_any _).mono ?_
       rintro e wz ⟨rfl, hb⟩
       have HBZ := Lib.hid (below_on HB7.out hb)
       clear hb)
    | fail)
    go_ret
    exact ⟨rfl, HBZ.out⟩
  have dl : decide (M.ord o.bn o.br m.bn m.br < 0) = true := decide_eq_true hlw
  by_cases h5 : o.k = 5
  · obtain ⟨u1, u2⟩ := eqI h5
    clear hs1 hs2 he h6 h7 hlw h5
    go_enter Try.func3, Try.ntmps3
    go_wp2_with (first
    | (with_reducible refine wpList_load_mid rfl 40 _ rfl w.heap.size 0 rfl [.int .i64 m.k, .int .i64 m.fr, .int .i64 m.to, .int .i64 m.bn, .int .i64 m.br, .int .i64 m.r.ir, .int .i64 m.r.is, .int .i64 m.r.st, .int .i64 m.r.pn, .int .i64 m.r.pr, .int .i64 m.r.bn, .int .i64 m.r.br, .int .i64 m.r.c.k, .int .i64 m.r.c.tc, .int .i64 m.r.c.tn, .int .i64 m.r.c.tt, .int .i64 m.r.c.tk, .int .i64 m.r.c.sh, va, vb, .bool m.r.c.cm, .int .i64 m.r.sq, .int .i64 m.r.d0, .int .i64 m.r.d1, .int .i64 m.r.d2, .int .i64 m.r.d3, .int .i64 m.r.d4, .int .i64 m.r.d5, .int .i64 m.r.d6, .bool m.r.kp] _ H0.out.cel.whole Try.underlying40 rfl (by kernel_rfl) ?_)
    | (go_at_call 5
       refine HFW.out.mono ?_
       rintro e w1 ⟨rfl, hb⟩
       have HB1 := Lib.hid (below_on HB.out hb)
       have KM1 := Lib.hid (H0.out.on hb)
       have KO1 := Lib.hid (H1.out.on hb)
       have F1 := few_one (w := w1) (b := w1.heap.size) rfl o.r.c (HO.out.below HB1.out).rs (HO.out.below HB1.out).ws
       rw [HG.out] at F1
       have HF1 := Lib.hid F1
       have HBa1 := Lib.hid (below_new (o := .cells #[.int .i64 o.r.c.k, .int .i64 o.r.c.tc, .int .i64 o.r.c.tn, .int .i64 o.r.c.tt, .int .i64 o.r.c.tk, .int .i64 o.r.c.sh, oa, ob, .bool o.r.c.cm] 34) (Below.refl w1.heap.size w1))
       clear F1
       have cm1 := hold_range KO1.out 12 [.int .i64 o.r.c.k, .int .i64 o.r.c.tc, .int .i64 o.r.c.tn, .int .i64 o.r.c.tt, .int .i64 o.r.c.tk, .int .i64 o.r.c.sh, oa, ob, .bool o.r.c.cm] (fun j v hj => by
         match j, hj with
         | 0, hj => exact hj
         | 1, hj => exact hj
         | 2, hj => exact hj
         | 3, hj => exact hj
         | 4, hj => exact hj
         | 5, hj => exact hj
         | 6, hj => exact hj
         | 7, hj => exact hj
         | 8, hj => exact hj)
       clear hb)
    | (with_reducible refine wpList_load_mid_g ?_ 34 _ rfl (w.heap.size + 1) 12 rfl [.int .i64 o.r.c.k, .int .i64 o.r.c.tc, .int .i64 o.r.c.tn, .int .i64 o.r.c.tt, .int .i64 o.r.c.tk, .int .i64 o.r.c.sh, oa, ob, .bool o.r.c.cm] _ cm1 Try.underlying34 rfl (by kernel_rfl) ?_; kernel_rfl)
    | (go_at_call 6
       refine HF1.out.mono ?_
       rintro e w2 ⟨rfl, hb⟩
       have hb2 := below_on HBa1.out hb
       have HB2 := Lib.hid (below_on HB1.out hb2)
       have KM2 := Lib.hid (KM1.out.on hb2)
       have KO2 := Lib.hid (KO1.out.on hb2)
       clear hb hb2 cm1)
    | (go_at_call 7
       refine (rightsX_any (HX.out.below HB2.out) hX hl).mono ?_
       rintro e w3 ⟨rfl, hb⟩
       rw [HRX.out]
       have HB3 := Lib.hid (below_on HB2.out hb)
       have KM3 := Lib.hid (KM2.out.on hb)
       have KO3 := Lib.hid (KO2.out.on hb)
       have km3 : w3.cell? ⟨w.heap.size, 0, none⟩ = some (.int .i64 m.k) := hold_cell KM3.out 0 rfl
       have M3w := KM3.out.cel.whole
       clear hb)
    | (with_reducible refine wpList_load_mid rfl 40 _ rfl w.heap.size 0 rfl [.int .i64 m.k, .int .i64 m.fr, .int .i64 m.to, .int .i64 m.bn, .int .i64 m.br, .int .i64 m.r.ir, .int .i64 m.r.is, .int .i64 m.r.st, .int .i64 m.r.pn, .int .i64 m.r.pr, .int .i64 m.r.bn, .int .i64 m.r.br, .int .i64 m.r.c.k, .int .i64 m.r.c.tc, .int .i64 m.r.c.tn, .int .i64 m.r.c.tt, .int .i64 m.r.c.tk, .int .i64 m.r.c.sh, va, vb, .bool m.r.c.cm, .int .i64 m.r.sq, .int .i64 m.r.d0, .int .i64 m.r.d1, .int .i64 m.r.d2, .int .i64 m.r.d3, .int .i64 m.r.d4, .int .i64 m.r.d5, .int .i64 m.r.d6, .bool m.r.kp] _ M3w Try.underlying40 rfl (by kernel_rfl) ?_)
    | (go_at_call 9
       have HA := handle_any (HX.out.below HB3.out) hl hX p m (HM.out.below HB3.out) F
       rw [← HS.out] at HA
       refine HA.mono ?_
       clear HA HS km3
       rintro e w4 ⟨xa, xb, ya, yb, rfl, t1, t2, hb⟩
       have HB4 := Lib.hid (below_on HB3.out hb)
       have KM4 := Lib.hid (KM3.out.on hb)
       have KO4 := Lib.hid (KO3.out.on hb)
       have T14 := Lib.hid t1
       have o5 : (stc st xa xb ya yb).all (·.oneCell') = true := stc_one (rds_one t1.rs) (wrs_one t1.ws) (rds_one t2.rs) (wrs_one t2.ws)
       clear hb t1 t2)
    | (with_reducible refine store_freshA rfl 46 _ _ rfl w4.heap.size rfl 46 _ (stc st xa xb ya yb) rfl rfl rfl (stc_size _ _ _ _ _) o5 ?_
       intro w5 S5 b5
       have HB5 := Lib.hid (below_on HB4.out b5)
       have KM5 := Lib.hid (KM4.out.on b5)
       have KO5 := KO4.out.on b5
       have T15 := Lib.hid (T14.out.below b5)
       have hs45 := Lib.hid (show w.heap.size + 1 + 1 ≤ w4.heap.size by have := hold_lt KO4.out; omega)
       have KS5 := Lib.hid S5
       have mi5 := hold_range KM5.out 5 [.int .i64 m.r.ir, .int .i64 m.r.is] (fun j v hj => by
         match j, hj with
         | 0, hj => exact hj
         | 1, hj => exact hj)
       clear b5 S5)
    | (with_reducible refine wpList_load_mid rfl 26 _ rfl w.heap.size 5 rfl [.int .i64 m.r.ir, .int .i64 m.r.is] _ mi5 Try.underlying26 rfl (by kernel_rfl) ?_)
    | (with_reducible refine store_hold rfl 26 _ _ rfl (w.heap.size + 1) 5 rfl 40 [.int .i64 m.r.ir, .int .i64 m.r.is] [.int .i64 o.k, .int .i64 o.fr, .int .i64 o.to, .int .i64 o.bn, .int .i64 o.br, .int .i64 o.r.ir, .int .i64 o.r.is, .int .i64 o.r.st, .int .i64 o.r.pn, .int .i64 o.r.pr, .int .i64 o.r.bn, .int .i64 o.r.br, .int .i64 o.r.c.k, .int .i64 o.r.c.tc, .int .i64 o.r.c.tn, .int .i64 o.r.c.tt, .int .i64 o.r.c.tk, .int .i64 o.r.c.sh, oa, ob, .bool o.r.c.cm, .int .i64 o.r.sq, .int .i64 o.r.d0, .int .i64 o.r.d1, .int .i64 o.r.d2, .int .i64 o.r.d3, .int .i64 o.r.d4, .int .i64 o.r.d5, .int .i64 o.r.d6, .bool o.r.kp] [.int .i64 (M.setI o m).k, .int .i64 (M.setI o m).fr, .int .i64 (M.setI o m).to, .int .i64 (M.setI o m).bn, .int .i64 (M.setI o m).br, .int .i64 (M.setI o m).r.ir, .int .i64 (M.setI o m).r.is, .int .i64 (M.setI o m).r.st, .int .i64 (M.setI o m).r.pn, .int .i64 (M.setI o m).r.pr, .int .i64 (M.setI o m).r.bn, .int .i64 (M.setI o m).r.br, .int .i64 (M.setI o m).r.c.k, .int .i64 (M.setI o m).r.c.tc, .int .i64 (M.setI o m).r.c.tn, .int .i64 (M.setI o m).r.c.tt, .int .i64 (M.setI o m).r.c.tk, .int .i64 (M.setI o m).r.c.sh, oa, ob, .bool (M.setI o m).r.c.cm, .int .i64 (M.setI o m).r.sq, .int .i64 (M.setI o m).r.d0, .int .i64 (M.setI o m).r.d1, .int .i64 (M.setI o m).r.d2, .int .i64 (M.setI o m).r.d3, .int .i64 (M.setI o m).r.d4, .int .i64 (M.setI o m).r.d5, .int .i64 (M.setI o m).r.d6, .bool (M.setI o m).r.kp] rfl KO5 (by kernel_rfl) (of_decide_eq_true (by kernel_rfl)) (by kernel_rfl) rfl ?_
       intro w6 G6 K6
       have KO6 := Lib.hid G6
       have KM6 := Lib.hid (K6.hold KM5.out (by omega))
       have KS6 := Lib.hid (K6.hold KS5.out (by have := hs45.out; omega))
       have HB6 := Lib.hid (K6.below w.heap.size w (by omega) HB5.out)
       have T16 := Lib.hid (T15.out.wrote KO5 K6 (mv_ns (x := ⟨o, oa, ob⟩) N1 N2))
       have n26 : w6.cell? ⟨w4.heap.size, 26, none⟩ = some (.int .i64 st.m.k) := hold_cell KS6.out 26 rfl
       have o0 : w6.cell? ⟨w.heap.size + 1, 0, none⟩ = some (.int .i64 o.k) := hold_cell KO6.out 0 rfl
       have o3 : w6.cell? ⟨w.heap.size + 1, 3, none⟩ = some (.int .i64 o.bn) := hold_cell KO6.out 3 rfl
       have o4 : w6.cell? ⟨w.heap.size + 1, 4, none⟩ = some (.int .i64 o.br) := hold_cell KO6.out 4 rfl
       have m3 : w6.cell? ⟨w.heap.size, 3, none⟩ = some (.int .i64 m.bn) := hold_cell KM6.out 3 rfl
       have m4 : w6.cell? ⟨w.heap.size, 4, none⟩ = some (.int .i64 m.br) := hold_cell KM6.out 4 rfl
       clear K6 mi5 G6 KO5)
    | (go_at_call 10
       refine (dlower_any o.bn o.br m.bn m.br w6).mono ?_
       rintro e w7 ⟨rfl, hb⟩
       have HB7 := Lib.hid (below_on HB6.out hb)
       have KM7 := Lib.hid (KM6.out.on hb)
       have KO7 := Lib.hid (KO6.out.on hb)
       have KS7 := Lib.hid (KS6.out.on hb)
       have T17 := Lib.hid (T16.out.below hb)
       have o0' : w7.cell? ⟨w.heap.size + 1, 0, none⟩ = some (.int .i64 o.k) := hold_cell KO7.out 0 rfl
       clear hb)
    | (go_at_call 8
       refine (awake_any _).mono ?_
       rintro e wz ⟨rfl, hb⟩
       have HBZ := Lib.hid (below_on HB7.out hb)
       clear hb)
    | fail)
    go_ret
    exact ⟨rfl, HBZ.out⟩
  obtain ⟨u1, u2⟩ := neI h5
  have hcm := M.handle_cmd M.Mod M.zero_mod (self := p) hX F
  rw [hs1] at hcm
  have HC := Lib.hid hcm.1
  clear hcm
  have hA := fun (Y : List Rv) (hy : rcs Y = if st.new = true then rcs X ++ [st.r] else rcs X) => M.handle_after (X := X) (Y := Y) (m := m) (o := M.setI o m) (self := p) h6 (by rw [hs2]; exact he) (by rw [hs1]; exact h7) (by rw [hs1]; exact hy) ⟨rfl, rfl⟩ h5 hlw
  clear hs1 hs2 he h6 h7 hlw h5
  rcases hn : st.new with _ | _
  · have hB := hA X (by rw [hn]; rfl)
    obtain ⟨t, ht⟩ : ∃ t, t = M.handle X p (M.setI o m) := ⟨_, rfl⟩
    rw [← ht] at hB
    obtain ⟨ts, te⟩ := t
    obtain ⟨hnew, hans⟩ := hB
    have HT := Lib.hid ht.symm
    dsimp only at hnew hans
    clear ht hA
    by_cases h0 : te = 0
    · obtain ⟨y1, y2⟩ := eqI h0
      obtain ⟨z1, z2, z3⟩ := hans h0
      obtain ⟨z4, z5⟩ := eqI z1
      have z6 : M.eq2 ts.m.bn ts.m.br m.bn m.br = true := by rw [z2, z3]; exact M.eq2_self _ _
      clear h0 hans z1 z2 z3
      go_enter Try.func3, Try.ntmps3
      go_wp2_with (first
      | (with_reducible refine wpList_load_mid rfl 40 _ rfl w.heap.size 0 rfl [.int .i64 m.k, .int .i64 m.fr, .int .i64 m.to, .int .i64 m.bn, .int .i64 m.br, .int .i64 m.r.ir, .int .i64 m.r.is, .int .i64 m.r.st, .int .i64 m.r.pn, .int .i64 m.r.pr, .int .i64 m.r.bn, .int .i64 m.r.br, .int .i64 m.r.c.k, .int .i64 m.r.c.tc, .int .i64 m.r.c.tn, .int .i64 m.r.c.tt, .int .i64 m.r.c.tk, .int .i64 m.r.c.sh, va, vb, .bool m.r.c.cm, .int .i64 m.r.sq, .int .i64 m.r.d0, .int .i64 m.r.d1, .int .i64 m.r.d2, .int .i64 m.r.d3, .int .i64 m.r.d4, .int .i64 m.r.d5, .int .i64 m.r.d6, .bool m.r.kp] _ H0.out.cel.whole Try.underlying40 rfl (by kernel_rfl) ?_)
      | (go_at_call 5
         refine HFW.out.mono ?_
         rintro e w1 ⟨rfl, hb⟩
         have HB1 := Lib.hid (below_on HB.out hb)
         have KM1 := Lib.hid (H0.out.on hb)
         have KO1 := Lib.hid (H1.out.on hb)
         have F1 := few_one (w := w1) (b := w1.heap.size) rfl o.r.c (HO.out.below HB1.out).rs (HO.out.below HB1.out).ws
         rw [HG.out] at F1
         have HF1 := Lib.hid F1
         have HBa1 := Lib.hid (below_new (o := .cells #[.int .i64 o.r.c.k, .int .i64 o.r.c.tc, .int .i64 o.r.c.tn, .int .i64 o.r.c.tt, .int .i64 o.r.c.tk, .int .i64 o.r.c.sh, oa, ob, .bool o.r.c.cm] 34) (Below.refl w1.heap.size w1))
         clear F1
         have cm1 := hold_range KO1.out 12 [.int .i64 o.r.c.k, .int .i64 o.r.c.tc, .int .i64 o.r.c.tn, .int .i64 o.r.c.tt, .int .i64 o.r.c.tk, .int .i64 o.r.c.sh, oa, ob, .bool o.r.c.cm] (fun j v hj => by
           match j, hj with
           | 0, hj => exact hj
           | 1, hj => exact hj
           | 2, hj => exact hj
           | 3, hj => exact hj
           | 4, hj => exact hj
           | 5, hj => exact hj
           | 6, hj => exact hj
           | 7, hj => exact hj
           | 8, hj => exact hj)
         clear hb)
      | (with_reducible refine wpList_load_mid_g ?_ 34 _ rfl (w.heap.size + 1) 12 rfl [.int .i64 o.r.c.k, .int .i64 o.r.c.tc, .int .i64 o.r.c.tn, .int .i64 o.r.c.tt, .int .i64 o.r.c.tk, .int .i64 o.r.c.sh, oa, ob, .bool o.r.c.cm] _ cm1 Try.underlying34 rfl (by kernel_rfl) ?_; kernel_rfl)
      | (go_at_call 6
         refine HF1.out.mono ?_
         rintro e w2 ⟨rfl, hb⟩
         have hb2 := below_on HBa1.out hb
         have HB2 := Lib.hid (below_on HB1.out hb2)
         have KM2 := Lib.hid (KM1.out.on hb2)
         have KO2 := Lib.hid (KO1.out.on hb2)
         clear hb hb2 cm1)
      | (go_at_call 7
         refine (rightsX_any (HX.out.below HB2.out) hX hl).mono ?_
         rintro e w3 ⟨rfl, hb⟩
         rw [HRX.out]
         have HB3 := Lib.hid (below_on HB2.out hb)
         have KM3 := Lib.hid (KM2.out.on hb)
         have KO3 := Lib.hid (KO2.out.on hb)
         have km3 : w3.cell? ⟨w.heap.size, 0, none⟩ = some (.int .i64 m.k) := hold_cell KM3.out 0 rfl
         have M3w := KM3.out.cel.whole
         clear hb)
      | (with_reducible refine wpList_load_mid rfl 40 _ rfl w.heap.size 0 rfl [.int .i64 m.k, .int .i64 m.fr, .int .i64 m.to, .int .i64 m.bn, .int .i64 m.br, .int .i64 m.r.ir, .int .i64 m.r.is, .int .i64 m.r.st, .int .i64 m.r.pn, .int .i64 m.r.pr, .int .i64 m.r.bn, .int .i64 m.r.br, .int .i64 m.r.c.k, .int .i64 m.r.c.tc, .int .i64 m.r.c.tn, .int .i64 m.r.c.tt, .int .i64 m.r.c.tk, .int .i64 m.r.c.sh, va, vb, .bool m.r.c.cm, .int .i64 m.r.sq, .int .i64 m.r.d0, .int .i64 m.r.d1, .int .i64 m.r.d2, .int .i64 m.r.d3, .int .i64 m.r.d4, .int .i64 m.r.d5, .int .i64 m.r.d6, .bool m.r.kp] _ M3w Try.underlying40 rfl (by kernel_rfl) ?_)
      | (go_at_call 9
         have HA := handle_any (HX.out.below HB3.out) hl hX p m (HM.out.below HB3.out) F
         rw [← HS.out] at HA
         refine HA.mono ?_
         clear HA HS km3
         rintro e w4 ⟨xa, xb, ya, yb, rfl, t1, t2, hb⟩
         have HB4 := Lib.hid (below_on HB3.out hb)
         have KM4 := Lib.hid (KM3.out.on hb)
         have KO4 := Lib.hid (KO3.out.on hb)
         have T14 := Lib.hid t1
         have o5 : (stc st xa xb ya yb).all (·.oneCell') = true := stc_one (rds_one t1.rs) (wrs_one t1.ws) (rds_one t2.rs) (wrs_one t2.ws)
         clear hb t1 t2)
      | (with_reducible refine store_freshA rfl 46 _ _ rfl w4.heap.size rfl 46 _ (stc st xa xb ya yb) rfl rfl rfl (stc_size _ _ _ _ _) o5 ?_
         intro w5 S5 b5
         have HB5 := Lib.hid (below_on HB4.out b5)
         have KM5 := Lib.hid (KM4.out.on b5)
         have KO5 := KO4.out.on b5
         have T15 := Lib.hid (T14.out.below b5)
         have hs45 := Lib.hid (show w.heap.size + 1 + 1 ≤ w4.heap.size by have := hold_lt KO4.out; omega)
         have KS5 := Lib.hid S5
         have mi5 := hold_range KM5.out 5 [.int .i64 m.r.ir, .int .i64 m.r.is] (fun j v hj => by
           match j, hj with
           | 0, hj => exact hj
           | 1, hj => exact hj)
         clear b5 S5)
      | (with_reducible refine wpList_load_mid rfl 26 _ rfl w.heap.size 5 rfl [.int .i64 m.r.ir, .int .i64 m.r.is] _ mi5 Try.underlying26 rfl (by kernel_rfl) ?_)
      | (with_reducible refine store_hold rfl 26 _ _ rfl (w.heap.size + 1) 5 rfl 40 [.int .i64 m.r.ir, .int .i64 m.r.is] [.int .i64 o.k, .int .i64 o.fr, .int .i64 o.to, .int .i64 o.bn, .int .i64 o.br, .int .i64 o.r.ir, .int .i64 o.r.is, .int .i64 o.r.st, .int .i64 o.r.pn, .int .i64 o.r.pr, .int .i64 o.r.bn, .int .i64 o.r.br, .int .i64 o.r.c.k, .int .i64 o.r.c.tc, .int .i64 o.r.c.tn, .int .i64 o.r.c.tt, .int .i64 o.r.c.tk, .int .i64 o.r.c.sh, oa, ob, .bool o.r.c.cm, .int .i64 o.r.sq, .int .i64 o.r.d0, .int .i64 o.r.d1, .int .i64 o.r.d2, .int .i64 o.r.d3, .int .i64 o.r.d4, .int .i64 o.r.d5, .int .i64 o.r.d6, .bool o.r.kp] [.int .i64 (M.setI o m).k, .int .i64 (M.setI o m).fr, .int .i64 (M.setI o m).to, .int .i64 (M.setI o m).bn, .int .i64 (M.setI o m).br, .int .i64 (M.setI o m).r.ir, .int .i64 (M.setI o m).r.is, .int .i64 (M.setI o m).r.st, .int .i64 (M.setI o m).r.pn, .int .i64 (M.setI o m).r.pr, .int .i64 (M.setI o m).r.bn, .int .i64 (M.setI o m).r.br, .int .i64 (M.setI o m).r.c.k, .int .i64 (M.setI o m).r.c.tc, .int .i64 (M.setI o m).r.c.tn, .int .i64 (M.setI o m).r.c.tt, .int .i64 (M.setI o m).r.c.tk, .int .i64 (M.setI o m).r.c.sh, oa, ob, .bool (M.setI o m).r.c.cm, .int .i64 (M.setI o m).r.sq, .int .i64 (M.setI o m).r.d0, .int .i64 (M.setI o m).r.d1, .int .i64 (M.setI o m).r.d2, .int .i64 (M.setI o m).r.d3, .int .i64 (M.setI o m).r.d4, .int .i64 (M.setI o m).r.d5, .int .i64 (M.setI o m).r.d6, .bool (M.setI o m).r.kp] rfl KO5 (by kernel_rfl) (of_decide_eq_true (by kernel_rfl)) (by kernel_rfl) rfl ?_
         intro w6 G6 K6
         have KO6 := Lib.hid G6
         have KM6 := Lib.hid (K6.hold KM5.out (by omega))
         have KS6 := Lib.hid (K6.hold KS5.out (by have := hs45.out; omega))
         have HB6 := Lib.hid (K6.below w.heap.size w (by omega) HB5.out)
         have T16 := Lib.hid (T15.out.wrote KO5 K6 (mv_ns (x := ⟨o, oa, ob⟩) N1 N2))
         have n26 : w6.cell? ⟨w4.heap.size, 26, none⟩ = some (.int .i64 st.m.k) := hold_cell KS6.out 26 rfl
         have o0 : w6.cell? ⟨w.heap.size + 1, 0, none⟩ = some (.int .i64 o.k) := hold_cell KO6.out 0 rfl
         have o3 : w6.cell? ⟨w.heap.size + 1, 3, none⟩ = some (.int .i64 o.bn) := hold_cell KO6.out 3 rfl
         have o4 : w6.cell? ⟨w.heap.size + 1, 4, none⟩ = some (.int .i64 o.br) := hold_cell KO6.out 4 rfl
         have m3 : w6.cell? ⟨w.heap.size, 3, none⟩ = some (.int .i64 m.bn) := hold_cell KM6.out 3 rfl
         have m4 : w6.cell? ⟨w.heap.size, 4, none⟩ = some (.int .i64 m.br) := hold_cell KM6.out 4 rfl
         clear K6 mi5 G6 KO5)
      | (go_at_call 10
         refine (dlower_any o.bn o.br m.bn m.br w6).mono ?_
         rintro e w7 ⟨rfl, hb⟩
         have HB7 := Lib.hid (below_on HB6.out hb)
         have KM7 := Lib.hid (KM6.out.on hb)
         have KO7 := Lib.hid (KO6.out.on hb)
         have KS7 := Lib.hid (KS6.out.on hb)
         have T17 := Lib.hid (T16.out.below hb)
         have o0' : w7.cell? ⟨w.heap.size + 1, 0, none⟩ = some (.int .i64 o.k) := hold_cell KO7.out 0 rfl
         obtain ⟨v8, w8, hr8, ho8, hb8⟩ := copy_recs (HX.out.below HB7.out) hl
         obtain ⟨A8, c8, ev8⟩ := ownsRow_slice ho8
         subst ev8
         have HO8 := Lib.hid ho8
         have HB78 := Lib.hid hb8
         have KS8 := Lib.hid (KS7.out.on hb8)
         have n25 : w8.cell? ⟨w4.heap.size, 25, none⟩ = some (.bool st.new) := hold_cell KS8.out 25 rfl
         have HBE := Lib.hid (below_on HB7.out hb8)
         have KME := Lib.hid (KM7.out.on hb8)
         have KOw := (KO7.out.on hb8).cel.whole
         have HYE := Lib.hid (show Rows w8 (.slice A8 X.length c8) X from ⟨RowN.of_owns ho8, (HX.out.below HBE.out).tx⟩)
         have HTE := Lib.hid (HT.out)
         have hXY := hX
         have hlY := hl
         clear ho8 hb8
         clear hb)
      | (at_builtin
         refine Lib.wpList_append_run _ rfl _ _ _ _ rfl _ _ rfl rfl _ _ hr8 ?_
         clear hr8)
      | (with_reducible refine wpList_load_mid rfl 40 _ rfl (w.heap.size + 1) 0 rfl [.int .i64 (M.setI o m).k, .int .i64 (M.setI o m).fr, .int .i64 (M.setI o m).to, .int .i64 (M.setI o m).bn, .int .i64 (M.setI o m).br, .int .i64 (M.setI o m).r.ir, .int .i64 (M.setI o m).r.is, .int .i64 (M.setI o m).r.st, .int .i64 (M.setI o m).r.pn, .int .i64 (M.setI o m).r.pr, .int .i64 (M.setI o m).r.bn, .int .i64 (M.setI o m).r.br, .int .i64 (M.setI o m).r.c.k, .int .i64 (M.setI o m).r.c.tc, .int .i64 (M.setI o m).r.c.tn, .int .i64 (M.setI o m).r.c.tt, .int .i64 (M.setI o m).r.c.tk, .int .i64 (M.setI o m).r.c.sh, oa, ob, .bool (M.setI o m).r.c.cm, .int .i64 (M.setI o m).r.sq, .int .i64 (M.setI o m).r.d0, .int .i64 (M.setI o m).r.d1, .int .i64 (M.setI o m).r.d2, .int .i64 (M.setI o m).r.d3, .int .i64 (M.setI o m).r.d4, .int .i64 (M.setI o m).r.d5, .int .i64 (M.setI o m).r.d6, .bool (M.setI o m).r.kp] _ KOw Try.underlying40 rfl (by kernel_rfl) ?_)
      | (go_at_call 9
         have HA := handle_any HYE.out hlY hXY p (M.setI o m) ((HO.out.below HBE.out).same rfl) F2
         rw [HTE.out] at HA
         refine HA.mono ?_
         clear HA
         rintro e w11 ⟨ca, cb, ea, eb, rfl, t1, t2, hb⟩
         have HB11 := Lib.hid (below_on HBE.out hb)
         have KM11 := Lib.hid (KME.out.on hb)
         have o9 : (stc ts ca cb ea eb).all (·.oneCell') = true := stc_one (rds_one t1.rs) (wrs_one t1.ws) (rds_one t2.rs) (wrs_one t2.ws)
         clear hb t1 t2)
      | (with_reducible refine store_freshA rfl 46 _ _ rfl w11.heap.size rfl 46 _ (stc ts ca cb ea eb) rfl rfl rfl (stc_size _ _ _ _ _) o9 ?_
         intro w12 R12 b12
         have HB12 := Lib.hid (below_on HB11.out b12)
         have KM12 := KM11.out.on b12
         have r25 : w12.cell? ⟨w11.heap.size, 25, none⟩ = some (.bool ts.new) := hold_cell R12 25 rfl
         have r26 : w12.cell? ⟨w11.heap.size, 26, none⟩ = some (.int .i64 ts.m.k) := hold_cell R12 26 rfl
         have r29 : w12.cell? ⟨w11.heap.size, 29, none⟩ = some (.int .i64 ts.m.bn) := hold_cell R12 29 rfl
         have r30 : w12.cell? ⟨w11.heap.size, 30, none⟩ = some (.int .i64 ts.m.br) := hold_cell R12 30 rfl
         have m3' : w12.cell? ⟨w.heap.size, 3, none⟩ = some (.int .i64 m.bn) := hold_cell KM12 3 rfl
         have m4' : w12.cell? ⟨w.heap.size, 4, none⟩ = some (.int .i64 m.br) := hold_cell KM12 4 rfl
         clear b12 R12 KM12)
      | (go_at_call 8
         refine (awake_any _).mono ?_
         rintro e wz ⟨rfl, hb⟩
         have HBZ := Lib.hid (below_on HB12.out hb)
         clear hb)
      | fail)
      go_ret
      exact ⟨rfl, HBZ.out⟩
    · obtain ⟨y1, y2⟩ := neI h0
      clear h0 hans
      go_enter Try.func3, Try.ntmps3
      go_wp2_with (first
      | (with_reducible refine wpList_load_mid rfl 40 _ rfl w.heap.size 0 rfl [.int .i64 m.k, .int .i64 m.fr, .int .i64 m.to, .int .i64 m.bn, .int .i64 m.br, .int .i64 m.r.ir, .int .i64 m.r.is, .int .i64 m.r.st, .int .i64 m.r.pn, .int .i64 m.r.pr, .int .i64 m.r.bn, .int .i64 m.r.br, .int .i64 m.r.c.k, .int .i64 m.r.c.tc, .int .i64 m.r.c.tn, .int .i64 m.r.c.tt, .int .i64 m.r.c.tk, .int .i64 m.r.c.sh, va, vb, .bool m.r.c.cm, .int .i64 m.r.sq, .int .i64 m.r.d0, .int .i64 m.r.d1, .int .i64 m.r.d2, .int .i64 m.r.d3, .int .i64 m.r.d4, .int .i64 m.r.d5, .int .i64 m.r.d6, .bool m.r.kp] _ H0.out.cel.whole Try.underlying40 rfl (by kernel_rfl) ?_)
      | (go_at_call 5
         refine HFW.out.mono ?_
         rintro e w1 ⟨rfl, hb⟩
         have HB1 := Lib.hid (below_on HB.out hb)
         have KM1 := Lib.hid (H0.out.on hb)
         have KO1 := Lib.hid (H1.out.on hb)
         have F1 := few_one (w := w1) (b := w1.heap.size) rfl o.r.c (HO.out.below HB1.out).rs (HO.out.below HB1.out).ws
         rw [HG.out] at F1
         have HF1 := Lib.hid F1
         have HBa1 := Lib.hid (below_new (o := .cells #[.int .i64 o.r.c.k, .int .i64 o.r.c.tc, .int .i64 o.r.c.tn, .int .i64 o.r.c.tt, .int .i64 o.r.c.tk, .int .i64 o.r.c.sh, oa, ob, .bool o.r.c.cm] 34) (Below.refl w1.heap.size w1))
         clear F1
         have cm1 := hold_range KO1.out 12 [.int .i64 o.r.c.k, .int .i64 o.r.c.tc, .int .i64 o.r.c.tn, .int .i64 o.r.c.tt, .int .i64 o.r.c.tk, .int .i64 o.r.c.sh, oa, ob, .bool o.r.c.cm] (fun j v hj => by
           match j, hj with
           | 0, hj => exact hj
           | 1, hj => exact hj
           | 2, hj => exact hj
           | 3, hj => exact hj
           | 4, hj => exact hj
           | 5, hj => exact hj
           | 6, hj => exact hj
           | 7, hj => exact hj
           | 8, hj => exact hj)
         clear hb)
      | (with_reducible refine wpList_load_mid_g ?_ 34 _ rfl (w.heap.size + 1) 12 rfl [.int .i64 o.r.c.k, .int .i64 o.r.c.tc, .int .i64 o.r.c.tn, .int .i64 o.r.c.tt, .int .i64 o.r.c.tk, .int .i64 o.r.c.sh, oa, ob, .bool o.r.c.cm] _ cm1 Try.underlying34 rfl (by kernel_rfl) ?_; kernel_rfl)
      | (go_at_call 6
         refine HF1.out.mono ?_
         rintro e w2 ⟨rfl, hb⟩
         have hb2 := below_on HBa1.out hb
         have HB2 := Lib.hid (below_on HB1.out hb2)
         have KM2 := Lib.hid (KM1.out.on hb2)
         have KO2 := Lib.hid (KO1.out.on hb2)
         clear hb hb2 cm1)
      | (go_at_call 7
         refine (rightsX_any (HX.out.below HB2.out) hX hl).mono ?_
         rintro e w3 ⟨rfl, hb⟩
         rw [HRX.out]
         have HB3 := Lib.hid (below_on HB2.out hb)
         have KM3 := Lib.hid (KM2.out.on hb)
         have KO3 := Lib.hid (KO2.out.on hb)
         have km3 : w3.cell? ⟨w.heap.size, 0, none⟩ = some (.int .i64 m.k) := hold_cell KM3.out 0 rfl
         have M3w := KM3.out.cel.whole
         clear hb)
      | (with_reducible refine wpList_load_mid rfl 40 _ rfl w.heap.size 0 rfl [.int .i64 m.k, .int .i64 m.fr, .int .i64 m.to, .int .i64 m.bn, .int .i64 m.br, .int .i64 m.r.ir, .int .i64 m.r.is, .int .i64 m.r.st, .int .i64 m.r.pn, .int .i64 m.r.pr, .int .i64 m.r.bn, .int .i64 m.r.br, .int .i64 m.r.c.k, .int .i64 m.r.c.tc, .int .i64 m.r.c.tn, .int .i64 m.r.c.tt, .int .i64 m.r.c.tk, .int .i64 m.r.c.sh, va, vb, .bool m.r.c.cm, .int .i64 m.r.sq, .int .i64 m.r.d0, .int .i64 m.r.d1, .int .i64 m.r.d2, .int .i64 m.r.d3, .int .i64 m.r.d4, .int .i64 m.r.d5, .int .i64 m.r.d6, .bool m.r.kp] _ M3w Try.underlying40 rfl (by kernel_rfl) ?_)
      | (go_at_call 9
         have HA := handle_any (HX.out.below HB3.out) hl hX p m (HM.out.below HB3.out) F
         rw [← HS.out] at HA
         refine HA.mono ?_
         clear HA HS km3
         rintro e w4 ⟨xa, xb, ya, yb, rfl, t1, t2, hb⟩
         have HB4 := Lib.hid (below_on HB3.out hb)
         have KM4 := Lib.hid (KM3.out.on hb)
         have KO4 := Lib.hid (KO3.out.on hb)
         have T14 := Lib.hid t1
         have o5 : (stc st xa xb ya yb).all (·.oneCell') = true := stc_one (rds_one t1.rs) (wrs_one t1.ws) (rds_one t2.rs) (wrs_one t2.ws)
         clear hb t1 t2)
      | (with_reducible refine store_freshA rfl 46 _ _ rfl w4.heap.size rfl 46 _ (stc st xa xb ya yb) rfl rfl rfl (stc_size _ _ _ _ _) o5 ?_
         intro w5 S5 b5
         have HB5 := Lib.hid (below_on HB4.out b5)
         have KM5 := Lib.hid (KM4.out.on b5)
         have KO5 := KO4.out.on b5
         have T15 := Lib.hid (T14.out.below b5)
         have hs45 := Lib.hid (show w.heap.size + 1 + 1 ≤ w4.heap.size by have := hold_lt KO4.out; omega)
         have KS5 := Lib.hid S5
         have mi5 := hold_range KM5.out 5 [.int .i64 m.r.ir, .int .i64 m.r.is] (fun j v hj => by
           match j, hj with
           | 0, hj => exact hj
           | 1, hj => exact hj)
         clear b5 S5)
      | (with_reducible refine wpList_load_mid rfl 26 _ rfl w.heap.size 5 rfl [.int .i64 m.r.ir, .int .i64 m.r.is] _ mi5 Try.underlying26 rfl (by kernel_rfl) ?_)
      | (with_reducible refine store_hold rfl 26 _ _ rfl (w.heap.size + 1) 5 rfl 40 [.int .i64 m.r.ir, .int .i64 m.r.is] [.int .i64 o.k, .int .i64 o.fr, .int .i64 o.to, .int .i64 o.bn, .int .i64 o.br, .int .i64 o.r.ir, .int .i64 o.r.is, .int .i64 o.r.st, .int .i64 o.r.pn, .int .i64 o.r.pr, .int .i64 o.r.bn, .int .i64 o.r.br, .int .i64 o.r.c.k, .int .i64 o.r.c.tc, .int .i64 o.r.c.tn, .int .i64 o.r.c.tt, .int .i64 o.r.c.tk, .int .i64 o.r.c.sh, oa, ob, .bool o.r.c.cm, .int .i64 o.r.sq, .int .i64 o.r.d0, .int .i64 o.r.d1, .int .i64 o.r.d2, .int .i64 o.r.d3, .int .i64 o.r.d4, .int .i64 o.r.d5, .int .i64 o.r.d6, .bool o.r.kp] [.int .i64 (M.setI o m).k, .int .i64 (M.setI o m).fr, .int .i64 (M.setI o m).to, .int .i64 (M.setI o m).bn, .int .i64 (M.setI o m).br, .int .i64 (M.setI o m).r.ir, .int .i64 (M.setI o m).r.is, .int .i64 (M.setI o m).r.st, .int .i64 (M.setI o m).r.pn, .int .i64 (M.setI o m).r.pr, .int .i64 (M.setI o m).r.bn, .int .i64 (M.setI o m).r.br, .int .i64 (M.setI o m).r.c.k, .int .i64 (M.setI o m).r.c.tc, .int .i64 (M.setI o m).r.c.tn, .int .i64 (M.setI o m).r.c.tt, .int .i64 (M.setI o m).r.c.tk, .int .i64 (M.setI o m).r.c.sh, oa, ob, .bool (M.setI o m).r.c.cm, .int .i64 (M.setI o m).r.sq, .int .i64 (M.setI o m).r.d0, .int .i64 (M.setI o m).r.d1, .int .i64 (M.setI o m).r.d2, .int .i64 (M.setI o m).r.d3, .int .i64 (M.setI o m).r.d4, .int .i64 (M.setI o m).r.d5, .int .i64 (M.setI o m).r.d6, .bool (M.setI o m).r.kp] rfl KO5 (by kernel_rfl) (of_decide_eq_true (by kernel_rfl)) (by kernel_rfl) rfl ?_
         intro w6 G6 K6
         have KO6 := Lib.hid G6
         have KM6 := Lib.hid (K6.hold KM5.out (by omega))
         have KS6 := Lib.hid (K6.hold KS5.out (by have := hs45.out; omega))
         have HB6 := Lib.hid (K6.below w.heap.size w (by omega) HB5.out)
         have T16 := Lib.hid (T15.out.wrote KO5 K6 (mv_ns (x := ⟨o, oa, ob⟩) N1 N2))
         have n26 : w6.cell? ⟨w4.heap.size, 26, none⟩ = some (.int .i64 st.m.k) := hold_cell KS6.out 26 rfl
         have o0 : w6.cell? ⟨w.heap.size + 1, 0, none⟩ = some (.int .i64 o.k) := hold_cell KO6.out 0 rfl
         have o3 : w6.cell? ⟨w.heap.size + 1, 3, none⟩ = some (.int .i64 o.bn) := hold_cell KO6.out 3 rfl
         have o4 : w6.cell? ⟨w.heap.size + 1, 4, none⟩ = some (.int .i64 o.br) := hold_cell KO6.out 4 rfl
         have m3 : w6.cell? ⟨w.heap.size, 3, none⟩ = some (.int .i64 m.bn) := hold_cell KM6.out 3 rfl
         have m4 : w6.cell? ⟨w.heap.size, 4, none⟩ = some (.int .i64 m.br) := hold_cell KM6.out 4 rfl
         clear K6 mi5 G6 KO5)
      | (go_at_call 10
         refine (dlower_any o.bn o.br m.bn m.br w6).mono ?_
         rintro e w7 ⟨rfl, hb⟩
         have HB7 := Lib.hid (below_on HB6.out hb)
         have KM7 := Lib.hid (KM6.out.on hb)
         have KO7 := Lib.hid (KO6.out.on hb)
         have KS7 := Lib.hid (KS6.out.on hb)
         have T17 := Lib.hid (T16.out.below hb)
         have o0' : w7.cell? ⟨w.heap.size + 1, 0, none⟩ = some (.int .i64 o.k) := hold_cell KO7.out 0 rfl
         obtain ⟨v8, w8, hr8, ho8, hb8⟩ := copy_recs (HX.out.below HB7.out) hl
         obtain ⟨A8, c8, ev8⟩ := ownsRow_slice ho8
         subst ev8
         have HO8 := Lib.hid ho8
         have HB78 := Lib.hid hb8
         have KS8 := Lib.hid (KS7.out.on hb8)
         have n25 : w8.cell? ⟨w4.heap.size, 25, none⟩ = some (.bool st.new) := hold_cell KS8.out 25 rfl
         have HBE := Lib.hid (below_on HB7.out hb8)
         have KME := Lib.hid (KM7.out.on hb8)
         have KOw := (KO7.out.on hb8).cel.whole
         have HYE := Lib.hid (show Rows w8 (.slice A8 X.length c8) X from ⟨RowN.of_owns ho8, (HX.out.below HBE.out).tx⟩)
         have HTE := Lib.hid (HT.out)
         have hXY := hX
         have hlY := hl
         clear ho8 hb8
         clear hb)
      | (at_builtin
         refine Lib.wpList_append_run _ rfl _ _ _ _ rfl _ _ rfl rfl _ _ hr8 ?_
         clear hr8)
      | (with_reducible refine wpList_load_mid rfl 40 _ rfl (w.heap.size + 1) 0 rfl [.int .i64 (M.setI o m).k, .int .i64 (M.setI o m).fr, .int .i64 (M.setI o m).to, .int .i64 (M.setI o m).bn, .int .i64 (M.setI o m).br, .int .i64 (M.setI o m).r.ir, .int .i64 (M.setI o m).r.is, .int .i64 (M.setI o m).r.st, .int .i64 (M.setI o m).r.pn, .int .i64 (M.setI o m).r.pr, .int .i64 (M.setI o m).r.bn, .int .i64 (M.setI o m).r.br, .int .i64 (M.setI o m).r.c.k, .int .i64 (M.setI o m).r.c.tc, .int .i64 (M.setI o m).r.c.tn, .int .i64 (M.setI o m).r.c.tt, .int .i64 (M.setI o m).r.c.tk, .int .i64 (M.setI o m).r.c.sh, oa, ob, .bool (M.setI o m).r.c.cm, .int .i64 (M.setI o m).r.sq, .int .i64 (M.setI o m).r.d0, .int .i64 (M.setI o m).r.d1, .int .i64 (M.setI o m).r.d2, .int .i64 (M.setI o m).r.d3, .int .i64 (M.setI o m).r.d4, .int .i64 (M.setI o m).r.d5, .int .i64 (M.setI o m).r.d6, .bool (M.setI o m).r.kp] _ KOw Try.underlying40 rfl (by kernel_rfl) ?_)
      | (go_at_call 9
         have HA := handle_any HYE.out hlY hXY p (M.setI o m) ((HO.out.below HBE.out).same rfl) F2
         rw [HTE.out] at HA
         refine HA.mono ?_
         clear HA
         rintro e w11 ⟨ca, cb, ea, eb, rfl, t1, t2, hb⟩
         have HB11 := Lib.hid (below_on HBE.out hb)
         have KM11 := Lib.hid (KME.out.on hb)
         have o9 : (stc ts ca cb ea eb).all (·.oneCell') = true := stc_one (rds_one t1.rs) (wrs_one t1.ws) (rds_one t2.rs) (wrs_one t2.ws)
         clear hb t1 t2)
      | (with_reducible refine store_freshA rfl 46 _ _ rfl w11.heap.size rfl 46 _ (stc ts ca cb ea eb) rfl rfl rfl (stc_size _ _ _ _ _) o9 ?_
         intro w12 R12 b12
         have HB12 := Lib.hid (below_on HB11.out b12)
         have KM12 := KM11.out.on b12
         have r25 : w12.cell? ⟨w11.heap.size, 25, none⟩ = some (.bool ts.new) := hold_cell R12 25 rfl
         have r26 : w12.cell? ⟨w11.heap.size, 26, none⟩ = some (.int .i64 ts.m.k) := hold_cell R12 26 rfl
         have r29 : w12.cell? ⟨w11.heap.size, 29, none⟩ = some (.int .i64 ts.m.bn) := hold_cell R12 29 rfl
         have r30 : w12.cell? ⟨w11.heap.size, 30, none⟩ = some (.int .i64 ts.m.br) := hold_cell R12 30 rfl
         have m3' : w12.cell? ⟨w.heap.size, 3, none⟩ = some (.int .i64 m.bn) := hold_cell KM12 3 rfl
         have m4' : w12.cell? ⟨w.heap.size, 4, none⟩ = some (.int .i64 m.br) := hold_cell KM12 4 rfl
         clear b12 R12 KM12)
      | (go_at_call 8
         refine (awake_any _).mono ?_
         rintro e wz ⟨rfl, hb⟩
         have HBZ := Lib.hid (below_on HB12.out hb)
         clear hb)
      | fail)
      go_ret
      exact ⟨rfl, HBZ.out⟩
  · have hB := fun xa xb => hA (X ++ [⟨st.r, xa, xb⟩]) (by rw [hn]; simp [rcs])
    have hC : ∀ xa xb, M.handle (X ++ [⟨st.r, xa, xb⟩]) p (M.setI o m) = M.handle (X ++ [⟨st.r, NS, NS⟩]) p (M.setI o m) := fun xa xb => M.handle_rcs (by simp [rcs])
    obtain ⟨t, ht⟩ : ∃ t, t = M.handle (X ++ [⟨st.r, NS, NS⟩]) p (M.setI o m) := ⟨_, rfl⟩
    have hD := hB NS NS
    rw [← ht] at hD hC
    obtain ⟨ts, te⟩ := t
    obtain ⟨hnew, hans⟩ := hD
    have HT := Lib.hid hC
    dsimp only at hnew hans
    clear ht hA hB hC
    by_cases h0 : te = 0
    · obtain ⟨y1, y2⟩ := eqI h0
      obtain ⟨z1, z2, z3⟩ := hans h0
      obtain ⟨z4, z5⟩ := eqI z1
      have z6 : M.eq2 ts.m.bn ts.m.br m.bn m.br = true := by rw [z2, z3]; exact M.eq2_self _ _
      clear h0 hans z1 z2 z3
      go_enter Try.func3, Try.ntmps3
      go_wp2_with (first
      | (with_reducible refine wpList_load_mid rfl 40 _ rfl w.heap.size 0 rfl [.int .i64 m.k, .int .i64 m.fr, .int .i64 m.to, .int .i64 m.bn, .int .i64 m.br, .int .i64 m.r.ir, .int .i64 m.r.is, .int .i64 m.r.st, .int .i64 m.r.pn, .int .i64 m.r.pr, .int .i64 m.r.bn, .int .i64 m.r.br, .int .i64 m.r.c.k, .int .i64 m.r.c.tc, .int .i64 m.r.c.tn, .int .i64 m.r.c.tt, .int .i64 m.r.c.tk, .int .i64 m.r.c.sh, va, vb, .bool m.r.c.cm, .int .i64 m.r.sq, .int .i64 m.r.d0, .int .i64 m.r.d1, .int .i64 m.r.d2, .int .i64 m.r.d3, .int .i64 m.r.d4, .int .i64 m.r.d5, .int .i64 m.r.d6, .bool m.r.kp] _ H0.out.cel.whole Try.underlying40 rfl (by kernel_rfl) ?_)
      | (go_at_call 5
         refine HFW.out.mono ?_
         rintro e w1 ⟨rfl, hb⟩
         have HB1 := Lib.hid (below_on HB.out hb)
         have KM1 := Lib.hid (H0.out.on hb)
         have KO1 := Lib.hid (H1.out.on hb)
         have F1 := few_one (w := w1) (b := w1.heap.size) rfl o.r.c (HO.out.below HB1.out).rs (HO.out.below HB1.out).ws
         rw [HG.out] at F1
         have HF1 := Lib.hid F1
         have HBa1 := Lib.hid (below_new (o := .cells #[.int .i64 o.r.c.k, .int .i64 o.r.c.tc, .int .i64 o.r.c.tn, .int .i64 o.r.c.tt, .int .i64 o.r.c.tk, .int .i64 o.r.c.sh, oa, ob, .bool o.r.c.cm] 34) (Below.refl w1.heap.size w1))
         clear F1
         have cm1 := hold_range KO1.out 12 [.int .i64 o.r.c.k, .int .i64 o.r.c.tc, .int .i64 o.r.c.tn, .int .i64 o.r.c.tt, .int .i64 o.r.c.tk, .int .i64 o.r.c.sh, oa, ob, .bool o.r.c.cm] (fun j v hj => by
           match j, hj with
           | 0, hj => exact hj
           | 1, hj => exact hj
           | 2, hj => exact hj
           | 3, hj => exact hj
           | 4, hj => exact hj
           | 5, hj => exact hj
           | 6, hj => exact hj
           | 7, hj => exact hj
           | 8, hj => exact hj)
         clear hb)
      | (with_reducible refine wpList_load_mid_g ?_ 34 _ rfl (w.heap.size + 1) 12 rfl [.int .i64 o.r.c.k, .int .i64 o.r.c.tc, .int .i64 o.r.c.tn, .int .i64 o.r.c.tt, .int .i64 o.r.c.tk, .int .i64 o.r.c.sh, oa, ob, .bool o.r.c.cm] _ cm1 Try.underlying34 rfl (by kernel_rfl) ?_; kernel_rfl)
      | (go_at_call 6
         refine HF1.out.mono ?_
         rintro e w2 ⟨rfl, hb⟩
         have hb2 := below_on HBa1.out hb
         have HB2 := Lib.hid (below_on HB1.out hb2)
         have KM2 := Lib.hid (KM1.out.on hb2)
         have KO2 := Lib.hid (KO1.out.on hb2)
         clear hb hb2 cm1)
      | (go_at_call 7
         refine (rightsX_any (HX.out.below HB2.out) hX hl).mono ?_
         rintro e w3 ⟨rfl, hb⟩
         rw [HRX.out]
         have HB3 := Lib.hid (below_on HB2.out hb)
         have KM3 := Lib.hid (KM2.out.on hb)
         have KO3 := Lib.hid (KO2.out.on hb)
         have km3 : w3.cell? ⟨w.heap.size, 0, none⟩ = some (.int .i64 m.k) := hold_cell KM3.out 0 rfl
         have M3w := KM3.out.cel.whole
         clear hb)
      | (with_reducible refine wpList_load_mid rfl 40 _ rfl w.heap.size 0 rfl [.int .i64 m.k, .int .i64 m.fr, .int .i64 m.to, .int .i64 m.bn, .int .i64 m.br, .int .i64 m.r.ir, .int .i64 m.r.is, .int .i64 m.r.st, .int .i64 m.r.pn, .int .i64 m.r.pr, .int .i64 m.r.bn, .int .i64 m.r.br, .int .i64 m.r.c.k, .int .i64 m.r.c.tc, .int .i64 m.r.c.tn, .int .i64 m.r.c.tt, .int .i64 m.r.c.tk, .int .i64 m.r.c.sh, va, vb, .bool m.r.c.cm, .int .i64 m.r.sq, .int .i64 m.r.d0, .int .i64 m.r.d1, .int .i64 m.r.d2, .int .i64 m.r.d3, .int .i64 m.r.d4, .int .i64 m.r.d5, .int .i64 m.r.d6, .bool m.r.kp] _ M3w Try.underlying40 rfl (by kernel_rfl) ?_)
      | (go_at_call 9
         have HA := handle_any (HX.out.below HB3.out) hl hX p m (HM.out.below HB3.out) F
         rw [← HS.out] at HA
         refine HA.mono ?_
         clear HA HS km3
         rintro e w4 ⟨xa, xb, ya, yb, rfl, t1, t2, hb⟩
         have HB4 := Lib.hid (below_on HB3.out hb)
         have KM4 := Lib.hid (KM3.out.on hb)
         have KO4 := Lib.hid (KO3.out.on hb)
         have T14 := Lib.hid t1
         have o5 : (stc st xa xb ya yb).all (·.oneCell') = true := stc_one (rds_one t1.rs) (wrs_one t1.ws) (rds_one t2.rs) (wrs_one t2.ws)
         clear hb t1 t2)
      | (with_reducible refine store_freshA rfl 46 _ _ rfl w4.heap.size rfl 46 _ (stc st xa xb ya yb) rfl rfl rfl (stc_size _ _ _ _ _) o5 ?_
         intro w5 S5 b5
         have HB5 := Lib.hid (below_on HB4.out b5)
         have KM5 := Lib.hid (KM4.out.on b5)
         have KO5 := KO4.out.on b5
         have T15 := Lib.hid (T14.out.below b5)
         have hs45 := Lib.hid (show w.heap.size + 1 + 1 ≤ w4.heap.size by have := hold_lt KO4.out; omega)
         have KS5 := Lib.hid S5
         have mi5 := hold_range KM5.out 5 [.int .i64 m.r.ir, .int .i64 m.r.is] (fun j v hj => by
           match j, hj with
           | 0, hj => exact hj
           | 1, hj => exact hj)
         clear b5 S5)
      | (with_reducible refine wpList_load_mid rfl 26 _ rfl w.heap.size 5 rfl [.int .i64 m.r.ir, .int .i64 m.r.is] _ mi5 Try.underlying26 rfl (by kernel_rfl) ?_)
      | (with_reducible refine store_hold rfl 26 _ _ rfl (w.heap.size + 1) 5 rfl 40 [.int .i64 m.r.ir, .int .i64 m.r.is] [.int .i64 o.k, .int .i64 o.fr, .int .i64 o.to, .int .i64 o.bn, .int .i64 o.br, .int .i64 o.r.ir, .int .i64 o.r.is, .int .i64 o.r.st, .int .i64 o.r.pn, .int .i64 o.r.pr, .int .i64 o.r.bn, .int .i64 o.r.br, .int .i64 o.r.c.k, .int .i64 o.r.c.tc, .int .i64 o.r.c.tn, .int .i64 o.r.c.tt, .int .i64 o.r.c.tk, .int .i64 o.r.c.sh, oa, ob, .bool o.r.c.cm, .int .i64 o.r.sq, .int .i64 o.r.d0, .int .i64 o.r.d1, .int .i64 o.r.d2, .int .i64 o.r.d3, .int .i64 o.r.d4, .int .i64 o.r.d5, .int .i64 o.r.d6, .bool o.r.kp] [.int .i64 (M.setI o m).k, .int .i64 (M.setI o m).fr, .int .i64 (M.setI o m).to, .int .i64 (M.setI o m).bn, .int .i64 (M.setI o m).br, .int .i64 (M.setI o m).r.ir, .int .i64 (M.setI o m).r.is, .int .i64 (M.setI o m).r.st, .int .i64 (M.setI o m).r.pn, .int .i64 (M.setI o m).r.pr, .int .i64 (M.setI o m).r.bn, .int .i64 (M.setI o m).r.br, .int .i64 (M.setI o m).r.c.k, .int .i64 (M.setI o m).r.c.tc, .int .i64 (M.setI o m).r.c.tn, .int .i64 (M.setI o m).r.c.tt, .int .i64 (M.setI o m).r.c.tk, .int .i64 (M.setI o m).r.c.sh, oa, ob, .bool (M.setI o m).r.c.cm, .int .i64 (M.setI o m).r.sq, .int .i64 (M.setI o m).r.d0, .int .i64 (M.setI o m).r.d1, .int .i64 (M.setI o m).r.d2, .int .i64 (M.setI o m).r.d3, .int .i64 (M.setI o m).r.d4, .int .i64 (M.setI o m).r.d5, .int .i64 (M.setI o m).r.d6, .bool (M.setI o m).r.kp] rfl KO5 (by kernel_rfl) (of_decide_eq_true (by kernel_rfl)) (by kernel_rfl) rfl ?_
         intro w6 G6 K6
         have KO6 := Lib.hid G6
         have KM6 := Lib.hid (K6.hold KM5.out (by omega))
         have KS6 := Lib.hid (K6.hold KS5.out (by have := hs45.out; omega))
         have HB6 := Lib.hid (K6.below w.heap.size w (by omega) HB5.out)
         have T16 := Lib.hid (T15.out.wrote KO5 K6 (mv_ns (x := ⟨o, oa, ob⟩) N1 N2))
         have n26 : w6.cell? ⟨w4.heap.size, 26, none⟩ = some (.int .i64 st.m.k) := hold_cell KS6.out 26 rfl
         have o0 : w6.cell? ⟨w.heap.size + 1, 0, none⟩ = some (.int .i64 o.k) := hold_cell KO6.out 0 rfl
         have o3 : w6.cell? ⟨w.heap.size + 1, 3, none⟩ = some (.int .i64 o.bn) := hold_cell KO6.out 3 rfl
         have o4 : w6.cell? ⟨w.heap.size + 1, 4, none⟩ = some (.int .i64 o.br) := hold_cell KO6.out 4 rfl
         have m3 : w6.cell? ⟨w.heap.size, 3, none⟩ = some (.int .i64 m.bn) := hold_cell KM6.out 3 rfl
         have m4 : w6.cell? ⟨w.heap.size, 4, none⟩ = some (.int .i64 m.br) := hold_cell KM6.out 4 rfl
         clear K6 mi5 G6 KO5)
      | (go_at_call 10
         refine (dlower_any o.bn o.br m.bn m.br w6).mono ?_
         rintro e w7 ⟨rfl, hb⟩
         have HB7 := Lib.hid (below_on HB6.out hb)
         have KM7 := Lib.hid (KM6.out.on hb)
         have KO7 := Lib.hid (KO6.out.on hb)
         have KS7 := Lib.hid (KS6.out.on hb)
         have T17 := Lib.hid (T16.out.below hb)
         have o0' : w7.cell? ⟨w.heap.size + 1, 0, none⟩ = some (.int .i64 o.k) := hold_cell KO7.out 0 rfl
         obtain ⟨v8, w8, hr8, ho8, hb8⟩ := copy_recs (HX.out.below HB7.out) hl
         obtain ⟨A8, c8, ev8⟩ := ownsRow_slice ho8
         subst ev8
         have HO8 := Lib.hid ho8
         have HB78 := Lib.hid hb8
         have KS8 := Lib.hid (KS7.out.on hb8)
         have n25 : w8.cell? ⟨w4.heap.size, 25, none⟩ = some (.bool st.new) := hold_cell KS8.out 25 rfl
         have T18 := Lib.hid (T17.out.below hb8)
         have sr8 := stc_rec KS8.out
         obtain ⟨v9, w9, hr9, ho9, hb9⟩ := more_recs (x := ⟨st.r, xa, xb⟩) ho8 hb8.size T18.out hl
         obtain ⟨A9, c9, ev9⟩ := ownsRow_slice ho9
         subst ev9
         have hb79 := hb9 w7.heap.size w7 (Nat.le_refl _) hb8
         have HBE := Lib.hid (below_on HB7.out hb79)
         have KME := Lib.hid (KM7.out.on hb79)
         have KOw := (KO7.out.on hb79).cel.whole
         have HYE := Lib.hid (show Rows w9 (.slice A9 (X.length + 1) c9) (X ++ [⟨st.r, xa, xb⟩]) from by
           have := rows_snoc ho9 (HX.out.below HBE.out).tx (T17.out.below hb79)
           rwa [List.length_append, List.length_singleton] at this)
         have HTE := Lib.hid (HT.out xa xb)
         have hXY := mem_snoc (P := fun x : Rv => M.Mod x.r.c) (y := ⟨st.r, xa, xb⟩) hX HC.out
         have hlY : (X ++ [(⟨st.r, xa, xb⟩ : Rv)]).length ≤ 1000 := by rw [List.length_append]; have := hl20.out; simp; omega
         clear ho8 hb8 ho9 hb79 hb9
         clear hb)
      | (at_builtin
         refine Lib.wpList_append_run _ rfl _ _ _ _ rfl _ _ rfl rfl _ _ hr8 ?_
         clear hr8)
      | (with_reducible refine wpList_load_mid rfl 38 _ rfl w4.heap.size 0 rfl [.int .i64 st.r.ir, .int .i64 st.r.is, .int .i64 st.r.st, .int .i64 st.r.pn, .int .i64 st.r.pr, .int .i64 st.r.bn, .int .i64 st.r.br, .int .i64 st.r.c.k, .int .i64 st.r.c.tc, .int .i64 st.r.c.tn, .int .i64 st.r.c.tt, .int .i64 st.r.c.tk, .int .i64 st.r.c.sh, xa, xb, .bool st.r.c.cm, .int .i64 st.r.sq, .int .i64 st.r.d0, .int .i64 st.r.d1, .int .i64 st.r.d2, .int .i64 st.r.d3, .int .i64 st.r.d4, .int .i64 st.r.d5, .int .i64 st.r.d6, .bool st.r.kp] _ sr8 Try.underlying38 rfl (by kernel_rfl) ?_)
      | (with_reducible refine wpList_build44 rfl _ rfl ⟨st.r, xa, xb⟩ rfl ?_)
      | (at_builtin
         refine Lib.wpList_append_run _ rfl _ _ _ _ rfl _ _ rfl rfl _ _ hr9 ?_
         clear hr9)
      | (with_reducible refine wpList_load_mid rfl 40 _ rfl (w.heap.size + 1) 0 rfl [.int .i64 (M.setI o m).k, .int .i64 (M.setI o m).fr, .int .i64 (M.setI o m).to, .int .i64 (M.setI o m).bn, .int .i64 (M.setI o m).br, .int .i64 (M.setI o m).r.ir, .int .i64 (M.setI o m).r.is, .int .i64 (M.setI o m).r.st, .int .i64 (M.setI o m).r.pn, .int .i64 (M.setI o m).r.pr, .int .i64 (M.setI o m).r.bn, .int .i64 (M.setI o m).r.br, .int .i64 (M.setI o m).r.c.k, .int .i64 (M.setI o m).r.c.tc, .int .i64 (M.setI o m).r.c.tn, .int .i64 (M.setI o m).r.c.tt, .int .i64 (M.setI o m).r.c.tk, .int .i64 (M.setI o m).r.c.sh, oa, ob, .bool (M.setI o m).r.c.cm, .int .i64 (M.setI o m).r.sq, .int .i64 (M.setI o m).r.d0, .int .i64 (M.setI o m).r.d1, .int .i64 (M.setI o m).r.d2, .int .i64 (M.setI o m).r.d3, .int .i64 (M.setI o m).r.d4, .int .i64 (M.setI o m).r.d5, .int .i64 (M.setI o m).r.d6, .bool (M.setI o m).r.kp] _ KOw Try.underlying40 rfl (by kernel_rfl) ?_)
      | (go_at_call 9
         have HA := handle_any HYE.out hlY hXY p (M.setI o m) ((HO.out.below HBE.out).same rfl) F2
         rw [HTE.out] at HA
         refine HA.mono ?_
         clear HA
         rintro e w11 ⟨ca, cb, ea, eb, rfl, t1, t2, hb⟩
         have HB11 := Lib.hid (below_on HBE.out hb)
         have KM11 := Lib.hid (KME.out.on hb)
         have o9 : (stc ts ca cb ea eb).all (·.oneCell') = true := stc_one (rds_one t1.rs) (wrs_one t1.ws) (rds_one t2.rs) (wrs_one t2.ws)
         clear hb t1 t2)
      | (with_reducible refine store_freshA rfl 46 _ _ rfl w11.heap.size rfl 46 _ (stc ts ca cb ea eb) rfl rfl rfl (stc_size _ _ _ _ _) o9 ?_
         intro w12 R12 b12
         have HB12 := Lib.hid (below_on HB11.out b12)
         have KM12 := KM11.out.on b12
         have r25 : w12.cell? ⟨w11.heap.size, 25, none⟩ = some (.bool ts.new) := hold_cell R12 25 rfl
         have r26 : w12.cell? ⟨w11.heap.size, 26, none⟩ = some (.int .i64 ts.m.k) := hold_cell R12 26 rfl
         have r29 : w12.cell? ⟨w11.heap.size, 29, none⟩ = some (.int .i64 ts.m.bn) := hold_cell R12 29 rfl
         have r30 : w12.cell? ⟨w11.heap.size, 30, none⟩ = some (.int .i64 ts.m.br) := hold_cell R12 30 rfl
         have m3' : w12.cell? ⟨w.heap.size, 3, none⟩ = some (.int .i64 m.bn) := hold_cell KM12 3 rfl
         have m4' : w12.cell? ⟨w.heap.size, 4, none⟩ = some (.int .i64 m.br) := hold_cell KM12 4 rfl
         clear b12 R12 KM12)
      | (go_at_call 8
         refine (awake_any _).mono ?_
         rintro e wz ⟨rfl, hb⟩
         have HBZ := Lib.hid (below_on HB12.out hb)
         clear hb)
      | fail)
      go_ret
      exact ⟨rfl, HBZ.out⟩
    · obtain ⟨y1, y2⟩ := neI h0
      clear h0 hans
      go_enter Try.func3, Try.ntmps3
      go_wp2_with (first
      | (with_reducible refine wpList_load_mid rfl 40 _ rfl w.heap.size 0 rfl [.int .i64 m.k, .int .i64 m.fr, .int .i64 m.to, .int .i64 m.bn, .int .i64 m.br, .int .i64 m.r.ir, .int .i64 m.r.is, .int .i64 m.r.st, .int .i64 m.r.pn, .int .i64 m.r.pr, .int .i64 m.r.bn, .int .i64 m.r.br, .int .i64 m.r.c.k, .int .i64 m.r.c.tc, .int .i64 m.r.c.tn, .int .i64 m.r.c.tt, .int .i64 m.r.c.tk, .int .i64 m.r.c.sh, va, vb, .bool m.r.c.cm, .int .i64 m.r.sq, .int .i64 m.r.d0, .int .i64 m.r.d1, .int .i64 m.r.d2, .int .i64 m.r.d3, .int .i64 m.r.d4, .int .i64 m.r.d5, .int .i64 m.r.d6, .bool m.r.kp] _ H0.out.cel.whole Try.underlying40 rfl (by kernel_rfl) ?_)
      | (go_at_call 5
         refine HFW.out.mono ?_
         rintro e w1 ⟨rfl, hb⟩
         have HB1 := Lib.hid (below_on HB.out hb)
         have KM1 := Lib.hid (H0.out.on hb)
         have KO1 := Lib.hid (H1.out.on hb)
         have F1 := few_one (w := w1) (b := w1.heap.size) rfl o.r.c (HO.out.below HB1.out).rs (HO.out.below HB1.out).ws
         rw [HG.out] at F1
         have HF1 := Lib.hid F1
         have HBa1 := Lib.hid (below_new (o := .cells #[.int .i64 o.r.c.k, .int .i64 o.r.c.tc, .int .i64 o.r.c.tn, .int .i64 o.r.c.tt, .int .i64 o.r.c.tk, .int .i64 o.r.c.sh, oa, ob, .bool o.r.c.cm] 34) (Below.refl w1.heap.size w1))
         clear F1
         have cm1 := hold_range KO1.out 12 [.int .i64 o.r.c.k, .int .i64 o.r.c.tc, .int .i64 o.r.c.tn, .int .i64 o.r.c.tt, .int .i64 o.r.c.tk, .int .i64 o.r.c.sh, oa, ob, .bool o.r.c.cm] (fun j v hj => by
           match j, hj with
           | 0, hj => exact hj
           | 1, hj => exact hj
           | 2, hj => exact hj
           | 3, hj => exact hj
           | 4, hj => exact hj
           | 5, hj => exact hj
           | 6, hj => exact hj
           | 7, hj => exact hj
           | 8, hj => exact hj)
         clear hb)
      | (with_reducible refine wpList_load_mid_g ?_ 34 _ rfl (w.heap.size + 1) 12 rfl [.int .i64 o.r.c.k, .int .i64 o.r.c.tc, .int .i64 o.r.c.tn, .int .i64 o.r.c.tt, .int .i64 o.r.c.tk, .int .i64 o.r.c.sh, oa, ob, .bool o.r.c.cm] _ cm1 Try.underlying34 rfl (by kernel_rfl) ?_; kernel_rfl)
      | (go_at_call 6
         refine HF1.out.mono ?_
         rintro e w2 ⟨rfl, hb⟩
         have hb2 := below_on HBa1.out hb
         have HB2 := Lib.hid (below_on HB1.out hb2)
         have KM2 := Lib.hid (KM1.out.on hb2)
         have KO2 := Lib.hid (KO1.out.on hb2)
         clear hb hb2 cm1)
      | (go_at_call 7
         refine (rightsX_any (HX.out.below HB2.out) hX hl).mono ?_
         rintro e w3 ⟨rfl, hb⟩
         rw [HRX.out]
         have HB3 := Lib.hid (below_on HB2.out hb)
         have KM3 := Lib.hid (KM2.out.on hb)
         have KO3 := Lib.hid (KO2.out.on hb)
         have km3 : w3.cell? ⟨w.heap.size, 0, none⟩ = some (.int .i64 m.k) := hold_cell KM3.out 0 rfl
         have M3w := KM3.out.cel.whole
         clear hb)
      | (with_reducible refine wpList_load_mid rfl 40 _ rfl w.heap.size 0 rfl [.int .i64 m.k, .int .i64 m.fr, .int .i64 m.to, .int .i64 m.bn, .int .i64 m.br, .int .i64 m.r.ir, .int .i64 m.r.is, .int .i64 m.r.st, .int .i64 m.r.pn, .int .i64 m.r.pr, .int .i64 m.r.bn, .int .i64 m.r.br, .int .i64 m.r.c.k, .int .i64 m.r.c.tc, .int .i64 m.r.c.tn, .int .i64 m.r.c.tt, .int .i64 m.r.c.tk, .int .i64 m.r.c.sh, va, vb, .bool m.r.c.cm, .int .i64 m.r.sq, .int .i64 m.r.d0, .int .i64 m.r.d1, .int .i64 m.r.d2, .int .i64 m.r.d3, .int .i64 m.r.d4, .int .i64 m.r.d5, .int .i64 m.r.d6, .bool m.r.kp] _ M3w Try.underlying40 rfl (by kernel_rfl) ?_)
      | (go_at_call 9
         have HA := handle_any (HX.out.below HB3.out) hl hX p m (HM.out.below HB3.out) F
         rw [← HS.out] at HA
         refine HA.mono ?_
         clear HA HS km3
         rintro e w4 ⟨xa, xb, ya, yb, rfl, t1, t2, hb⟩
         have HB4 := Lib.hid (below_on HB3.out hb)
         have KM4 := Lib.hid (KM3.out.on hb)
         have KO4 := Lib.hid (KO3.out.on hb)
         have T14 := Lib.hid t1
         have o5 : (stc st xa xb ya yb).all (·.oneCell') = true := stc_one (rds_one t1.rs) (wrs_one t1.ws) (rds_one t2.rs) (wrs_one t2.ws)
         clear hb t1 t2)
      | (with_reducible refine store_freshA rfl 46 _ _ rfl w4.heap.size rfl 46 _ (stc st xa xb ya yb) rfl rfl rfl (stc_size _ _ _ _ _) o5 ?_
         intro w5 S5 b5
         have HB5 := Lib.hid (below_on HB4.out b5)
         have KM5 := Lib.hid (KM4.out.on b5)
         have KO5 := KO4.out.on b5
         have T15 := Lib.hid (T14.out.below b5)
         have hs45 := Lib.hid (show w.heap.size + 1 + 1 ≤ w4.heap.size by have := hold_lt KO4.out; omega)
         have KS5 := Lib.hid S5
         have mi5 := hold_range KM5.out 5 [.int .i64 m.r.ir, .int .i64 m.r.is] (fun j v hj => by
           match j, hj with
           | 0, hj => exact hj
           | 1, hj => exact hj)
         clear b5 S5)
      | (with_reducible refine wpList_load_mid rfl 26 _ rfl w.heap.size 5 rfl [.int .i64 m.r.ir, .int .i64 m.r.is] _ mi5 Try.underlying26 rfl (by kernel_rfl) ?_)
      | (with_reducible refine store_hold rfl 26 _ _ rfl (w.heap.size + 1) 5 rfl 40 [.int .i64 m.r.ir, .int .i64 m.r.is] [.int .i64 o.k, .int .i64 o.fr, .int .i64 o.to, .int .i64 o.bn, .int .i64 o.br, .int .i64 o.r.ir, .int .i64 o.r.is, .int .i64 o.r.st, .int .i64 o.r.pn, .int .i64 o.r.pr, .int .i64 o.r.bn, .int .i64 o.r.br, .int .i64 o.r.c.k, .int .i64 o.r.c.tc, .int .i64 o.r.c.tn, .int .i64 o.r.c.tt, .int .i64 o.r.c.tk, .int .i64 o.r.c.sh, oa, ob, .bool o.r.c.cm, .int .i64 o.r.sq, .int .i64 o.r.d0, .int .i64 o.r.d1, .int .i64 o.r.d2, .int .i64 o.r.d3, .int .i64 o.r.d4, .int .i64 o.r.d5, .int .i64 o.r.d6, .bool o.r.kp] [.int .i64 (M.setI o m).k, .int .i64 (M.setI o m).fr, .int .i64 (M.setI o m).to, .int .i64 (M.setI o m).bn, .int .i64 (M.setI o m).br, .int .i64 (M.setI o m).r.ir, .int .i64 (M.setI o m).r.is, .int .i64 (M.setI o m).r.st, .int .i64 (M.setI o m).r.pn, .int .i64 (M.setI o m).r.pr, .int .i64 (M.setI o m).r.bn, .int .i64 (M.setI o m).r.br, .int .i64 (M.setI o m).r.c.k, .int .i64 (M.setI o m).r.c.tc, .int .i64 (M.setI o m).r.c.tn, .int .i64 (M.setI o m).r.c.tt, .int .i64 (M.setI o m).r.c.tk, .int .i64 (M.setI o m).r.c.sh, oa, ob, .bool (M.setI o m).r.c.cm, .int .i64 (M.setI o m).r.sq, .int .i64 (M.setI o m).r.d0, .int .i64 (M.setI o m).r.d1, .int .i64 (M.setI o m).r.d2, .int .i64 (M.setI o m).r.d3, .int .i64 (M.setI o m).r.d4, .int .i64 (M.setI o m).r.d5, .int .i64 (M.setI o m).r.d6, .bool (M.setI o m).r.kp] rfl KO5 (by kernel_rfl) (of_decide_eq_true (by kernel_rfl)) (by kernel_rfl) rfl ?_
         intro w6 G6 K6
         have KO6 := Lib.hid G6
         have KM6 := Lib.hid (K6.hold KM5.out (by omega))
         have KS6 := Lib.hid (K6.hold KS5.out (by have := hs45.out; omega))
         have HB6 := Lib.hid (K6.below w.heap.size w (by omega) HB5.out)
         have T16 := Lib.hid (T15.out.wrote KO5 K6 (mv_ns (x := ⟨o, oa, ob⟩) N1 N2))
         have n26 : w6.cell? ⟨w4.heap.size, 26, none⟩ = some (.int .i64 st.m.k) := hold_cell KS6.out 26 rfl
         have o0 : w6.cell? ⟨w.heap.size + 1, 0, none⟩ = some (.int .i64 o.k) := hold_cell KO6.out 0 rfl
         have o3 : w6.cell? ⟨w.heap.size + 1, 3, none⟩ = some (.int .i64 o.bn) := hold_cell KO6.out 3 rfl
         have o4 : w6.cell? ⟨w.heap.size + 1, 4, none⟩ = some (.int .i64 o.br) := hold_cell KO6.out 4 rfl
         have m3 : w6.cell? ⟨w.heap.size, 3, none⟩ = some (.int .i64 m.bn) := hold_cell KM6.out 3 rfl
         have m4 : w6.cell? ⟨w.heap.size, 4, none⟩ = some (.int .i64 m.br) := hold_cell KM6.out 4 rfl
         clear K6 mi5 G6 KO5)
      | (go_at_call 10
         refine (dlower_any o.bn o.br m.bn m.br w6).mono ?_
         rintro e w7 ⟨rfl, hb⟩
         have HB7 := Lib.hid (below_on HB6.out hb)
         have KM7 := Lib.hid (KM6.out.on hb)
         have KO7 := Lib.hid (KO6.out.on hb)
         have KS7 := Lib.hid (KS6.out.on hb)
         have T17 := Lib.hid (T16.out.below hb)
         have o0' : w7.cell? ⟨w.heap.size + 1, 0, none⟩ = some (.int .i64 o.k) := hold_cell KO7.out 0 rfl
         obtain ⟨v8, w8, hr8, ho8, hb8⟩ := copy_recs (HX.out.below HB7.out) hl
         obtain ⟨A8, c8, ev8⟩ := ownsRow_slice ho8
         subst ev8
         have HO8 := Lib.hid ho8
         have HB78 := Lib.hid hb8
         have KS8 := Lib.hid (KS7.out.on hb8)
         have n25 : w8.cell? ⟨w4.heap.size, 25, none⟩ = some (.bool st.new) := hold_cell KS8.out 25 rfl
         have T18 := Lib.hid (T17.out.below hb8)
         have sr8 := stc_rec KS8.out
         obtain ⟨v9, w9, hr9, ho9, hb9⟩ := more_recs (x := ⟨st.r, xa, xb⟩) ho8 hb8.size T18.out hl
         obtain ⟨A9, c9, ev9⟩ := ownsRow_slice ho9
         subst ev9
         have hb79 := hb9 w7.heap.size w7 (Nat.le_refl _) hb8
         have HBE := Lib.hid (below_on HB7.out hb79)
         have KME := Lib.hid (KM7.out.on hb79)
         have KOw := (KO7.out.on hb79).cel.whole
         have HYE := Lib.hid (show Rows w9 (.slice A9 (X.length + 1) c9) (X ++ [⟨st.r, xa, xb⟩]) from by
           have := rows_snoc ho9 (HX.out.below HBE.out).tx (T17.out.below hb79)
           rwa [List.length_append, List.length_singleton] at this)
         have HTE := Lib.hid (HT.out xa xb)
         have hXY := mem_snoc (P := fun x : Rv => M.Mod x.r.c) (y := ⟨st.r, xa, xb⟩) hX HC.out
         have hlY : (X ++ [(⟨st.r, xa, xb⟩ : Rv)]).length ≤ 1000 := by rw [List.length_append]; have := hl20.out; simp; omega
         clear ho8 hb8 ho9 hb79 hb9
         clear hb)
      | (at_builtin
         refine Lib.wpList_append_run _ rfl _ _ _ _ rfl _ _ rfl rfl _ _ hr8 ?_
         clear hr8)
      | (with_reducible refine wpList_load_mid rfl 38 _ rfl w4.heap.size 0 rfl [.int .i64 st.r.ir, .int .i64 st.r.is, .int .i64 st.r.st, .int .i64 st.r.pn, .int .i64 st.r.pr, .int .i64 st.r.bn, .int .i64 st.r.br, .int .i64 st.r.c.k, .int .i64 st.r.c.tc, .int .i64 st.r.c.tn, .int .i64 st.r.c.tt, .int .i64 st.r.c.tk, .int .i64 st.r.c.sh, xa, xb, .bool st.r.c.cm, .int .i64 st.r.sq, .int .i64 st.r.d0, .int .i64 st.r.d1, .int .i64 st.r.d2, .int .i64 st.r.d3, .int .i64 st.r.d4, .int .i64 st.r.d5, .int .i64 st.r.d6, .bool st.r.kp] _ sr8 Try.underlying38 rfl (by kernel_rfl) ?_)
      | (with_reducible refine wpList_build44 rfl _ rfl ⟨st.r, xa, xb⟩ rfl ?_)
      | (at_builtin
         refine Lib.wpList_append_run _ rfl _ _ _ _ rfl _ _ rfl rfl _ _ hr9 ?_
         clear hr9)
      | (with_reducible refine wpList_load_mid rfl 40 _ rfl (w.heap.size + 1) 0 rfl [.int .i64 (M.setI o m).k, .int .i64 (M.setI o m).fr, .int .i64 (M.setI o m).to, .int .i64 (M.setI o m).bn, .int .i64 (M.setI o m).br, .int .i64 (M.setI o m).r.ir, .int .i64 (M.setI o m).r.is, .int .i64 (M.setI o m).r.st, .int .i64 (M.setI o m).r.pn, .int .i64 (M.setI o m).r.pr, .int .i64 (M.setI o m).r.bn, .int .i64 (M.setI o m).r.br, .int .i64 (M.setI o m).r.c.k, .int .i64 (M.setI o m).r.c.tc, .int .i64 (M.setI o m).r.c.tn, .int .i64 (M.setI o m).r.c.tt, .int .i64 (M.setI o m).r.c.tk, .int .i64 (M.setI o m).r.c.sh, oa, ob, .bool (M.setI o m).r.c.cm, .int .i64 (M.setI o m).r.sq, .int .i64 (M.setI o m).r.d0, .int .i64 (M.setI o m).r.d1, .int .i64 (M.setI o m).r.d2, .int .i64 (M.setI o m).r.d3, .int .i64 (M.setI o m).r.d4, .int .i64 (M.setI o m).r.d5, .int .i64 (M.setI o m).r.d6, .bool (M.setI o m).r.kp] _ KOw Try.underlying40 rfl (by kernel_rfl) ?_)
      | (go_at_call 9
         have HA := handle_any HYE.out hlY hXY p (M.setI o m) ((HO.out.below HBE.out).same rfl) F2
         rw [HTE.out] at HA
         refine HA.mono ?_
         clear HA
         rintro e w11 ⟨ca, cb, ea, eb, rfl, t1, t2, hb⟩
         have HB11 := Lib.hid (below_on HBE.out hb)
         have KM11 := Lib.hid (KME.out.on hb)
         have o9 : (stc ts ca cb ea eb).all (·.oneCell') = true := stc_one (rds_one t1.rs) (wrs_one t1.ws) (rds_one t2.rs) (wrs_one t2.ws)
         clear hb t1 t2)
      | (with_reducible refine store_freshA rfl 46 _ _ rfl w11.heap.size rfl 46 _ (stc ts ca cb ea eb) rfl rfl rfl (stc_size _ _ _ _ _) o9 ?_
         intro w12 R12 b12
         have HB12 := Lib.hid (below_on HB11.out b12)
         have KM12 := KM11.out.on b12
         have r25 : w12.cell? ⟨w11.heap.size, 25, none⟩ = some (.bool ts.new) := hold_cell R12 25 rfl
         have r26 : w12.cell? ⟨w11.heap.size, 26, none⟩ = some (.int .i64 ts.m.k) := hold_cell R12 26 rfl
         have r29 : w12.cell? ⟨w11.heap.size, 29, none⟩ = some (.int .i64 ts.m.bn) := hold_cell R12 29 rfl
         have r30 : w12.cell? ⟨w11.heap.size, 30, none⟩ = some (.int .i64 ts.m.br) := hold_cell R12 30 rfl
         have m3' : w12.cell? ⟨w.heap.size, 3, none⟩ = some (.int .i64 m.bn) := hold_cell KM12 3 rfl
         have m4' : w12.cell? ⟨w.heap.size, 4, none⟩ = some (.int .i64 m.br) := hold_cell KM12 4 rfl
         clear b12 R12 KM12)
      | (go_at_call 8
         refine (awake_any _).mono ?_
         rintro e wz ⟨rfl, hb⟩
         have HBZ := Lib.hid (below_on HB12.out hb)
         clear hb)
      | fail)
      go_ret
      exact ⟨rfl, HBZ.out⟩
end Go.Proofs.Ytpknkhgkejkpkaa
