/- The walk of AcceptOthers; no conditions. -/
import Derived.Test.YtpknkhgkejkpkaaAwk
import Derived.Test.YtpknkhgkejkpkaaSml
import Derived.Test.YtpknkhgkejkpkaaMor
import Derived.Test.YtpknkhgkejkpkaaDkw
import Derived.Test.YtpknkhgkejkpkaaPd
import Derived.Test.YtpknkhgkejkpkaaAtt
namespace Go.Proofs.Ytpknkhgkejkpkaa
open Go.ChangeShapes Go.WideShapes Go.ChangeAt Go.RowKit

attribute [local go_sem ↓] run_same_inst
set_option maxHeartbeats 16000000 in
set_option maxRecDepth 100000 in
theorem others_law (p : Int) (m : M.Msg) (i1 i2 : Int) (w : World) {v va vb : Value} {X : List Rv} (h : Rows w v X) (_hq : Sqs X) (hm : Txt w ⟨m.r, va, vb⟩) :
    Calls Try.prog 4 #[v, .int .i64 p, .agg #[.int .i64 m.k, .int .i64 m.fr, .int .i64 m.to, .int .i64 m.bn, .int .i64 m.br, .int .i64 m.r.ir, .int .i64 m.r.is, .int .i64 m.r.st, .int .i64 m.r.pn, .int .i64 m.r.pr, .int .i64 m.r.bn, .int .i64 m.r.br, .int .i64 m.r.c.k, .int .i64 m.r.c.tc, .int .i64 m.r.c.tn, .int .i64 m.r.c.tt, .int .i64 m.r.c.tk, .int .i64 m.r.c.sh, va, vb, .bool m.r.c.cm, .int .i64 m.r.sq, .int .i64 m.r.d0, .int .i64 m.r.d1, .int .i64 m.r.d2, .int .i64 m.r.d3, .int .i64 m.r.d4, .int .i64 m.r.d5, .int .i64 m.r.d6, .bool m.r.kp], .agg #[.int .i64 i1, .int .i64 i2]] w fun e w' => e = .returned (.bool true) ∧ Below w.heap.size w w' := by
  obtain ⟨A, cc, rfl⟩ := rowN_sliceOf h.row
  have H0 := Lib.hid (show Hold ((w.alloc (.cells #[.int .i64 m.k, .int .i64 m.fr, .int .i64 m.to, .int .i64 m.bn, .int .i64 m.br, .int .i64 m.r.ir, .int .i64 m.r.is, .int .i64 m.r.st, .int .i64 m.r.pn, .int .i64 m.r.pr, .int .i64 m.r.bn, .int .i64 m.r.br, .int .i64 m.r.c.k, .int .i64 m.r.c.tc, .int .i64 m.r.c.tn, .int .i64 m.r.c.tt, .int .i64 m.r.c.tk, .int .i64 m.r.c.sh, va, vb, .bool m.r.c.cm, .int .i64 m.r.sq, .int .i64 m.r.d0, .int .i64 m.r.d1, .int .i64 m.r.d2, .int .i64 m.r.d3, .int .i64 m.r.d4, .int .i64 m.r.d5, .int .i64 m.r.d6, .bool m.r.kp] 40)).alloc (.cells #[.int .i64 i1, .int .i64 i2] 26)) w.heap.size 40 [.int .i64 m.k, .int .i64 m.fr, .int .i64 m.to, .int .i64 m.bn, .int .i64 m.br, .int .i64 m.r.ir, .int .i64 m.r.is, .int .i64 m.r.st, .int .i64 m.r.pn, .int .i64 m.r.pr, .int .i64 m.r.bn, .int .i64 m.r.br, .int .i64 m.r.c.k, .int .i64 m.r.c.tc, .int .i64 m.r.c.tn, .int .i64 m.r.c.tt, .int .i64 m.r.c.tk, .int .i64 m.r.c.sh, va, vb, .bool m.r.c.cm, .int .i64 m.r.sq, .int .i64 m.r.d0, .int .i64 m.r.d1, .int .i64 m.r.d2, .int .i64 m.r.d3, .int .i64 m.r.d4, .int .i64 m.r.d5, .int .i64 m.r.d6, .bool m.r.kp] from (Hold.new w [.int .i64 m.k, .int .i64 m.fr, .int .i64 m.to, .int .i64 m.bn, .int .i64 m.br, .int .i64 m.r.ir, .int .i64 m.r.is, .int .i64 m.r.st, .int .i64 m.r.pn, .int .i64 m.r.pr, .int .i64 m.r.bn, .int .i64 m.r.br, .int .i64 m.r.c.k, .int .i64 m.r.c.tc, .int .i64 m.r.c.tn, .int .i64 m.r.c.tt, .int .i64 m.r.c.tk, .int .i64 m.r.c.sh, va, vb, .bool m.r.c.cm, .int .i64 m.r.sq, .int .i64 m.r.d0, .int .i64 m.r.d1, .int .i64 m.r.d2, .int .i64 m.r.d3, .int .i64 m.r.d4, .int .i64 m.r.d5, .int .i64 m.r.d6, .bool m.r.kp] 40).on (below_new (o := .cells #[.int .i64 i1, .int .i64 i2] 26) (Below.refl _ _)))
  have H1 := Lib.hid (show Hold ((w.alloc (.cells #[.int .i64 m.k, .int .i64 m.fr, .int .i64 m.to, .int .i64 m.bn, .int .i64 m.br, .int .i64 m.r.ir, .int .i64 m.r.is, .int .i64 m.r.st, .int .i64 m.r.pn, .int .i64 m.r.pr, .int .i64 m.r.bn, .int .i64 m.r.br, .int .i64 m.r.c.k, .int .i64 m.r.c.tc, .int .i64 m.r.c.tn, .int .i64 m.r.c.tt, .int .i64 m.r.c.tk, .int .i64 m.r.c.sh, va, vb, .bool m.r.c.cm, .int .i64 m.r.sq, .int .i64 m.r.d0, .int .i64 m.r.d1, .int .i64 m.r.d2, .int .i64 m.r.d3, .int .i64 m.r.d4, .int .i64 m.r.d5, .int .i64 m.r.d6, .bool m.r.kp] 40)).alloc (.cells #[.int .i64 i1, .int .i64 i2] 26)) (w.heap.size + 1) 26 [.int .i64 i1, .int .i64 i2] from by
    have := Hold.new (w.alloc (.cells #[.int .i64 m.k, .int .i64 m.fr, .int .i64 m.to, .int .i64 m.bn, .int .i64 m.br, .int .i64 m.r.ir, .int .i64 m.r.is, .int .i64 m.r.st, .int .i64 m.r.pn, .int .i64 m.r.pr, .int .i64 m.r.bn, .int .i64 m.r.br, .int .i64 m.r.c.k, .int .i64 m.r.c.tc, .int .i64 m.r.c.tn, .int .i64 m.r.c.tt, .int .i64 m.r.c.tk, .int .i64 m.r.c.sh, va, vb, .bool m.r.c.cm, .int .i64 m.r.sq, .int .i64 m.r.d0, .int .i64 m.r.d1, .int .i64 m.r.d2, .int .i64 m.r.d3, .int .i64 m.r.d4, .int .i64 m.r.d5, .int .i64 m.r.d6, .bool m.r.kp] 40)) [.int .i64 i1, .int .i64 i2] 26
    rwa [show (w.alloc (.cells #[.int .i64 m.k, .int .i64 m.fr, .int .i64 m.to, .int .i64 m.bn, .int .i64 m.br, .int .i64 m.r.ir, .int .i64 m.r.is, .int .i64 m.r.st, .int .i64 m.r.pn, .int .i64 m.r.pr, .int .i64 m.r.bn, .int .i64 m.r.br, .int .i64 m.r.c.k, .int .i64 m.r.c.tc, .int .i64 m.r.c.tn, .int .i64 m.r.c.tt, .int .i64 m.r.c.tk, .int .i64 m.r.c.sh, va, vb, .bool m.r.c.cm, .int .i64 m.r.sq, .int .i64 m.r.d0, .int .i64 m.r.d1, .int .i64 m.r.d2, .int .i64 m.r.d3, .int .i64 m.r.d4, .int .i64 m.r.d5, .int .i64 m.r.d6, .bool m.r.kp] 40)).heap.size = w.heap.size + 1 by simp] at this)
  have HB := Lib.hid (show Below w.heap.size w ((w.alloc (.cells #[.int .i64 m.k, .int .i64 m.fr, .int .i64 m.to, .int .i64 m.bn, .int .i64 m.br, .int .i64 m.r.ir, .int .i64 m.r.is, .int .i64 m.r.st, .int .i64 m.r.pn, .int .i64 m.r.pr, .int .i64 m.r.bn, .int .i64 m.r.br, .int .i64 m.r.c.k, .int .i64 m.r.c.tc, .int .i64 m.r.c.tn, .int .i64 m.r.c.tt, .int .i64 m.r.c.tk, .int .i64 m.r.c.sh, va, vb, .bool m.r.c.cm, .int .i64 m.r.sq, .int .i64 m.r.d0, .int .i64 m.r.d1, .int .i64 m.r.d2, .int .i64 m.r.d3, .int .i64 m.r.d4, .int .i64 m.r.d5, .int .i64 m.r.d6, .bool m.r.kp] 40)).alloc (.cells #[.int .i64 i1, .int .i64 i2] 26)) from below_new (below_new (Below.refl _ _)))
  have HX := Lib.hid h
  have HM := Lib.hid hm
  have HF := few12_any (h.below HB.out) m (hm.below HB.out)
  clear h _hq hm
  rcases hf : (fewX X && M.modB m.r.c) with _ | _
  · rw [hf] at HF
    have HFW := Lib.hid HF
    clear HF hf
    go_enter Try.func4, Try.ntmps4
    go_wp2_with (first
    | (with_reducible refine wpList_load_mid rfl 40 _ rfl w.heap.size 0 rfl [.int .i64 m.k, .int .i64 m.fr, .int .i64 m.to, .int .i64 m.bn, .int .i64 m.br, .int .i64 m.r.ir, .int .i64 m.r.is, .int .i64 m.r.st, .int .i64 m.r.pn, .int .i64 m.r.pr, .int .i64 m.r.bn, .int .i64 m.r.br, .int .i64 m.r.c.k, .int .i64 m.r.c.tc, .int .i64 m.r.c.tn, .int .i64 m.r.c.tt, .int .i64 m.r.c.tk, .int .i64 m.r.c.sh, va, vb, .bool m.r.c.cm, .int .i64 m.r.sq, .int .i64 m.r.d0, .int .i64 m.r.d1, .int .i64 m.r.d2, .int .i64 m.r.d3, .int .i64 m.r.d4, .int .i64 m.r.d5, .int .i64 m.r.d6, .bool m.r.kp] _ H0.out.cel.whole Try.underlying40 rfl (by kernel_rfl) ?_)
    | (go_at_call 5
       refine HFW.out.mono ?_
       rintro e w1 ⟨rfl, hb⟩
       have HB1 := Lib.hid (below_on HB.out hb)
       have KM1 := Lib.hid (H0.out.on hb)
       have KI1 := Lib.hid (H1.out.on hb)
       have i0 : w1.cell? ⟨w.heap.size + 1, 0, none⟩ = some (.int .i64 i1) := hold_cell KI1.out 0 rfl
       have i1' : w1.cell? ⟨w.heap.size + 1, 1, none⟩ = some (.int .i64 i2) := hold_cell KI1.out 1 rfl
       have m5 : w1.cell? ⟨w.heap.size, 5, none⟩ = some (.int .i64 m.r.ir) := hold_cell KM1.out 5 rfl
       have m6 : w1.cell? ⟨w.heap.size, 6, none⟩ = some (.int .i64 m.r.is) := hold_cell KM1.out 6 rfl
       have M1w := KM1.out.cel.whole
       clear hb)
    | (go_at_call 8
       refine (awake_any _).mono ?_
       rintro e wz ⟨rfl, hb⟩
       have HBZ := Lib.hid (below_on HB1.out hb)
       clear hb)
    | fail)
    go_ret
    exact ⟨rfl, HBZ.out⟩
  rw [hf] at HF
  have HFW := Lib.hid HF
  obtain ⟨hf1, hf2⟩ := (Bool.and_eq_true _ _).mp hf
  have hX := fewX_mod hf1
  have hl20 := Lib.hid (fewX_len hf1)
  have hl : X.length ≤ 1000 := Nat.le_trans (fewX_len hf1) (by decide)
  have F := M.modB_iff.1 hf2
  clear HF hf hf1 hf2
  rcases hi : M.eq2 i1 i2 m.r.ir m.r.is with _ | _
  rotate_left
  · skip
    go_enter Try.func4, Try.ntmps4
    go_wp2_with (first
    | (with_reducible refine wpList_load_mid rfl 40 _ rfl w.heap.size 0 rfl [.int .i64 m.k, .int .i64 m.fr, .int .i64 m.to, .int .i64 m.bn, .int .i64 m.br, .int .i64 m.r.ir, .int .i64 m.r.is, .int .i64 m.r.st, .int .i64 m.r.pn, .int .i64 m.r.pr, .int .i64 m.r.bn, .int .i64 m.r.br, .int .i64 m.r.c.k, .int .i64 m.r.c.tc, .int .i64 m.r.c.tn, .int .i64 m.r.c.tt, .int .i64 m.r.c.tk, .int .i64 m.r.c.sh, va, vb, .bool m.r.c.cm, .int .i64 m.r.sq, .int .i64 m.r.d0, .int .i64 m.r.d1, .int .i64 m.r.d2, .int .i64 m.r.d3, .int .i64 m.r.d4, .int .i64 m.r.d5, .int .i64 m.r.d6, .bool m.r.kp] _ H0.out.cel.whole Try.underlying40 rfl (by kernel_rfl) ?_)
    | (go_at_call 5
       refine HFW.out.mono ?_
       rintro e w1 ⟨rfl, hb⟩
       have HB1 := Lib.hid (below_on HB.out hb)
       have KM1 := Lib.hid (H0.out.on hb)
       have KI1 := Lib.hid (H1.out.on hb)
       have i0 : w1.cell? ⟨w.heap.size + 1, 0, none⟩ = some (.int .i64 i1) := hold_cell KI1.out 0 rfl
       have i1' : w1.cell? ⟨w.heap.size + 1, 1, none⟩ = some (.int .i64 i2) := hold_cell KI1.out 1 rfl
       have m5 : w1.cell? ⟨w.heap.size, 5, none⟩ = some (.int .i64 m.r.ir) := hold_cell KM1.out 5 rfl
       have m6 : w1.cell? ⟨w.heap.size, 6, none⟩ = some (.int .i64 m.r.is) := hold_cell KM1.out 6 rfl
       have M1w := KM1.out.cel.whole
       clear hb)
    | (go_at_call 8
       refine (awake_any _).mono ?_
       rintro e wz ⟨rfl, hb⟩
       have HBZ := Lib.hid (below_on HB1.out hb)
       clear hb)
    | fail)
    go_ret
    exact ⟨rfl, HBZ.out⟩
  obtain ⟨s, hs⟩ : ∃ s, s = M.handle X p m := ⟨_, rfl⟩
  obtain ⟨st, er⟩ := s
  have hs1 : (M.handle X p m).1 = st := by rw [← hs]
  have HS := Lib.hid hs
  clear hs
  have hcm := M.handle_cmd M.Mod M.zero_mod (self := p) hX F
  rw [hs1] at hcm
  have HC := Lib.hid hcm.1
  clear hcm
  obtain ⟨k, hk⟩ : ∃ k, k = M.knowL (rcs X) i1 i2 := ⟨_, rfl⟩
  have HK0 := hk.symm
  have HK := Lib.hid HK0
  have HKM := Lib.hid (show M.Mod k.c by rw [hk]; exact M.know_cmd M.Mod M.zero_mod hX i1 i2)
  rcases hn : st.new with _ | _
  · clear hs1 hk
    go_enter Try.func4, Try.ntmps4
    go_wp2_with (first
    | (with_reducible refine wpList_load_mid rfl 40 _ rfl w.heap.size 0 rfl [.int .i64 m.k, .int .i64 m.fr, .int .i64 m.to, .int .i64 m.bn, .int .i64 m.br, .int .i64 m.r.ir, .int .i64 m.r.is, .int .i64 m.r.st, .int .i64 m.r.pn, .int .i64 m.r.pr, .int .i64 m.r.bn, .int .i64 m.r.br, .int .i64 m.r.c.k, .int .i64 m.r.c.tc, .int .i64 m.r.c.tn, .int .i64 m.r.c.tt, .int .i64 m.r.c.tk, .int .i64 m.r.c.sh, va, vb, .bool m.r.c.cm, .int .i64 m.r.sq, .int .i64 m.r.d0, .int .i64 m.r.d1, .int .i64 m.r.d2, .int .i64 m.r.d3, .int .i64 m.r.d4, .int .i64 m.r.d5, .int .i64 m.r.d6, .bool m.r.kp] _ H0.out.cel.whole Try.underlying40 rfl (by kernel_rfl) ?_)
    | (go_at_call 5
       refine HFW.out.mono ?_
       rintro e w1 ⟨rfl, hb⟩
       have HB1 := Lib.hid (below_on HB.out hb)
       have KM1 := Lib.hid (H0.out.on hb)
       have KI1 := Lib.hid (H1.out.on hb)
       have i0 : w1.cell? ⟨w.heap.size + 1, 0, none⟩ = some (.int .i64 i1) := hold_cell KI1.out 0 rfl
       have i1' : w1.cell? ⟨w.heap.size + 1, 1, none⟩ = some (.int .i64 i2) := hold_cell KI1.out 1 rfl
       have m5 : w1.cell? ⟨w.heap.size, 5, none⟩ = some (.int .i64 m.r.ir) := hold_cell KM1.out 5 rfl
       have m6 : w1.cell? ⟨w.heap.size, 6, none⟩ = some (.int .i64 m.r.is) := hold_cell KM1.out 6 rfl
       have M1w := KM1.out.cel.whole
       clear hb)
    | (with_reducible refine wpList_load_mid rfl 40 _ rfl w.heap.size 0 rfl [.int .i64 m.k, .int .i64 m.fr, .int .i64 m.to, .int .i64 m.bn, .int .i64 m.br, .int .i64 m.r.ir, .int .i64 m.r.is, .int .i64 m.r.st, .int .i64 m.r.pn, .int .i64 m.r.pr, .int .i64 m.r.bn, .int .i64 m.r.br, .int .i64 m.r.c.k, .int .i64 m.r.c.tc, .int .i64 m.r.c.tn, .int .i64 m.r.c.tt, .int .i64 m.r.c.tk, .int .i64 m.r.c.sh, va, vb, .bool m.r.c.cm, .int .i64 m.r.sq, .int .i64 m.r.d0, .int .i64 m.r.d1, .int .i64 m.r.d2, .int .i64 m.r.d3, .int .i64 m.r.d4, .int .i64 m.r.d5, .int .i64 m.r.d6, .bool m.r.kp] _ M1w Try.underlying40 rfl (by kernel_rfl) ?_)
    | (go_at_call 9
       have HA := handle_any (HX.out.below HB1.out) hl hX p m (HM.out.below HB1.out) F
       rw [← HS.out] at HA
       refine HA.mono ?_
       clear HA HS
       rintro e w4 ⟨xa, xb, ya, yb, rfl, t1, t2, hb⟩
       have HB4 := Lib.hid (below_on HB1.out hb)
       have KM4 := Lib.hid (KM1.out.on hb)
       have KI4 := Lib.hid (KI1.out.on hb)
       have T14 := Lib.hid t1
       have o5 : (stc st xa xb ya yb).all (·.oneCell') = true := stc_one (rds_one t1.rs) (wrs_one t1.ws) (rds_one t2.rs) (wrs_one t2.ws)
       clear hb t1 t2)
    | (with_reducible refine store_freshA rfl 46 _ _ rfl w4.heap.size rfl 46 _ (stc st xa xb ya yb) rfl rfl rfl (stc_size _ _ _ _ _) o5 ?_
       intro w7 S7 b7
       have HB7 := Lib.hid (below_on HB4.out b7)
       have KM7 := Lib.hid (KM4.out.on b7)
       have KI7 := Lib.hid (KI4.out.on b7)
       have T17 := Lib.hid (T14.out.below b7)
       have KS7 := Lib.hid S7
       clear b7 S7
       obtain ⟨v8, w8, hr8, ho8, hb8⟩ := copy_recs (HX.out.below HB7.out) hl
       obtain ⟨A8, c8, ev8⟩ := ownsRow_slice ho8
       subst ev8
       have KS8 := Lib.hid (KS7.out.on hb8)
       have n25 : w8.cell? ⟨w4.heap.size, 25, none⟩ = some (.bool st.new) := hold_cell KS8.out 25 rfl
       have HBE := Lib.hid (below_on HB7.out hb8)
       have KME := Lib.hid (KM7.out.on hb8)
       have KIE := Lib.hid (KI7.out.on hb8)
       have KSE := KS8
       have HYE := Lib.hid (show Rows w8 (.slice A8 X.length c8) X from ⟨RowN.of_owns ho8, (HX.out.below HBE.out).tx⟩)
       have HKY := Lib.hid HK0
       have hXY := hX
       have hlY := hl
       clear ho8 hb8)
    | (at_builtin
       refine Lib.wpList_append_run _ rfl _ _ _ _ rfl _ _ rfl rfl _ _ hr8 ?_
       clear hr8)
    | fail)
    have hbd : Below w8.heap.size w8 w8.drew := (Below.refl _ _).drew
    have HBD := Lib.hid (below_on HBE.out hbd)
    have KMD := Lib.hid (KME.out.on hbd)
    have KID := Lib.hid (KIE.out.on hbd)
    have KSD := Lib.hid (KSE.out.on hbd)
    have HYD := Lib.hid (HYE.out.below hbd)
    clear hbd
    have mrD := hold_range KMD.out 5 [.int .i64 m.r.ir, .int .i64 m.r.is] (fun j v hj => by
      match j, hj with
      | 0, hj => exact hj
      | 1, hj => exact hj)
    have srD := hold_range KSD.out 0 [.int .i64 st.r.ir, .int .i64 st.r.is] (fun j v hj => by
      match j, hj with
      | 0, hj => exact hj
      | 1, hj => exact hj)
    have snD := hold_cell KSD.out 25 (v := .bool st.new) rfl
    refine wp_region_held_drew (S := fun w' => w'.rangeAt (w.heap.size + 1) 0 [.int .i64 i1, .int .i64 i2] ∧ w'.cell? ⟨w4.heap.size, 25, none⟩ = some (.bool st.new) ∧ w'.rangeAt w4.heap.size 0 [.int .i64 st.r.ir, .int .i64 st.r.is] ∧ w'.rangeAt w.heap.size 5 [.int .i64 m.r.ir, .int .i64 m.r.is]) (by kernel_rfl) (by exact ⟨KID.out.cel.whole, snD, srD, mrD⟩) (fun hHeld => ?_)
    refine wpAnyH_take (i := 0) (oi := ⟨some 41, .move (.tmp 11), 22, _, _, none⟩) (v := ?_) rfl (by kernel_rfl) (by kernel_rfl) (by kernel_rfl) (fun _ _ _ h => h) (Or.inl ⟨by rfl, ?_⟩) (by assumption) ?_
    rotate_left
    · (intro w hSw; (try dsimp only at hSw); go_split_ands; go_simp; (try with_reducible rfl))
    (try simp only [Act.put]); (try simp only [List.setIfInBounds_toArray]); (try simp only [List.set_cons_succ]); (try simp only [List.set_cons_zero])
    refine wpAnyH_take (i := 1) (oi := ⟨some 42, .load 26 (.tmp 7), 26, _, _, none⟩) (v := .agg ([.int .i64 i1, .int .i64 i2] : List Value).toArray) rfl (by kernel_rfl) (by kernel_rfl) (by kernel_rfl) (fun _ _ _ h => h) (yieldsIf_load_mid (by rfl) 26 _ rfl (w.heap.size + 1) 0 rfl [.int .i64 i1, .int .i64 i2] _ (fun w hSw => hSw.1) Try.underlying26 rfl (by kernel_rfl)) (by assumption) ?_
    (try simp only [Act.put]); (try simp only [List.setIfInBounds_toArray]); (try simp only [List.set_cons_succ]); (try simp only [List.set_cons_zero])
    refine wpAnyH_take (i := 3) (oi := ⟨some 44, .move (.tmp 0), 22, _, _, none⟩) (v := ?_) rfl (by kernel_rfl) (by kernel_rfl) (by kernel_rfl) (fun _ _ _ h => h) (Or.inl ⟨by rfl, ?_⟩) (by assumption) ?_
    rotate_left
    · (intro w hSw; (try dsimp only at hSw); go_split_ands; go_simp; (try with_reducible rfl))
    (try simp only [Act.put]); (try simp only [List.setIfInBounds_toArray]); (try simp only [List.set_cons_succ]); (try simp only [List.set_cons_zero])
    refine wpAnyH_take (i := 4) (oi := ⟨some 45, .load 26 (.tmp 7), 26, _, _, none⟩) (v := .agg ([.int .i64 i1, .int .i64 i2] : List Value).toArray) rfl (by kernel_rfl) (by kernel_rfl) (by kernel_rfl) (fun _ _ _ h => h) (yieldsIf_load_mid (by rfl) 26 _ rfl (w.heap.size + 1) 0 rfl [.int .i64 i1, .int .i64 i2] _ (fun w hSw => hSw.1) Try.underlying26 rfl (by kernel_rfl)) (by assumption) ?_
    (try simp only [Act.put]); (try simp only [List.setIfInBounds_toArray]); (try simp only [List.set_cons_succ]); (try simp only [List.set_cons_zero])
    refine wpAnyH_ready (rs := [2]) (by kernel_rfl) (by simp) ?_
    refine AllReadyH.cons (o := ⟨some 43, .call { callee := .value (.func 12), args := #[.tmp 41, .tmp 42], argTypes := #[22, 26] }, 38, _, _, none⟩) rfl (fun K hK => ?_) AllReadyH.nil
    try go_simp
    have HA := know_any HYD.out hlY (fun x hx => ⟨(hXY x hx).l, (hXY x hx).l'⟩) i1 i2
    rw [HKY.out] at HA
    refine HA.mono ?_
    clear HA
    rintro e wa ⟨ga, gb, rfl, tk, hb⟩
    have TA := Lib.hid tk
    have HBA := Lib.hid (below_on HBD.out hb)
    have KMA := Lib.hid (KMD.out.on hb)
    have KIA := Lib.hid (KID.out.on hb)
    have KSA := Lib.hid (KSD.out.on hb)
    have mrA := hold_range KMA.out 5 [.int .i64 m.r.ir, .int .i64 m.r.is] (fun j v hj => by
      match j, hj with
      | 0, hj => exact hj
      | 1, hj => exact hj)
    have srA := hold_range KSA.out 0 [.int .i64 st.r.ir, .int .i64 st.r.is] (fun j v hj => by
      match j, hj with
      | 0, hj => exact hj
      | 1, hj => exact hj)
    have snA := hold_cell KSA.out 25 (v := .bool st.new) rfl
    clear hb tk mrD srD snD
    try go_simp
    refine hK.out _ _ (by exact ⟨KIA.out.cel.whole, snA, srA, mrA⟩) (fun hHeld => ?_)
    clear hK K
    (try simp only [Act.put]); (try simp only [List.setIfInBounds_toArray]); (try simp only [List.set_cons_succ]); (try simp only [List.set_cons_zero])
    refine wpAnyH_ready (rs := [5]) (by kernel_rfl) (by simp) ?_
    refine AllReadyH.cons (o := ⟨some 46, .call { callee := .value (.func 13), args := #[.tmp 44, .tmp 45], argTypes := #[22, 26] }, 38, _, _, none⟩) rfl (fun K hK => ?_) AllReadyH.nil
    try go_simp
    have HA := dknow_any (HX.out.below HBA.out) hl i1 i2
    rw [HK.out] at HA
    refine HA.mono ?_
    clear HA
    rintro e wb ⟨ha, hb', rfl, tk, hb⟩
    have TB := Lib.hid tk
    have TA2 := Lib.hid (TA.out.below hb)
    have HBB := Lib.hid (below_on HBA.out hb)
    have KMB := Lib.hid (KMA.out.on hb)
    have KIB := Lib.hid (KIA.out.on hb)
    have KSB := Lib.hid (KSA.out.on hb)
    have mrB := hold_range KMB.out 5 [.int .i64 m.r.ir, .int .i64 m.r.is] (fun j v hj => by
      match j, hj with
      | 0, hj => exact hj
      | 1, hj => exact hj)
    have srB := hold_range KSB.out 0 [.int .i64 st.r.ir, .int .i64 st.r.is] (fun j v hj => by
      match j, hj with
      | 0, hj => exact hj
      | 1, hj => exact hj)
    have snB := hold_cell KSB.out 25 (v := .bool st.new) rfl
    clear hb tk mrA srA snA
    try go_simp
    refine hK.out _ _ (by exact ⟨KIB.out.cel.whole, snB, srB, mrB⟩) (fun hHeld => ?_)
    clear hK K
    (try simp only [Act.put]); (try simp only [List.setIfInBounds_toArray]); (try simp only [List.set_cons_succ]); (try simp only [List.set_cons_zero])
    refine wpAnyH_ready (rs := [6]) (by kernel_rfl) (by simp) ?_
    refine AllReadyH.cons (o := ⟨some 47, .call { callee := .value (.func 11), args := #[.tmp 43, .tmp 46], argTypes := #[38, 38] }, 4, _, _, none⟩) rfl (fun K hK => ?_) AllReadyH.nil
    try go_simp
    have HA := dsame_rec k k TA2.out.rs TA2.out.ws TB.out.rs TB.out.ws HKM.out.l HKM.out.l'
    rw [M.sameRec_self] at HA
    refine HA.mono ?_
    clear HA
    rintro e wc ⟨rfl, hb⟩
    have HBC := Lib.hid (below_on HBB.out hb)
    have KMC := Lib.hid (KMB.out.on hb)
    have KIC := Lib.hid (KIB.out.on hb)
    have KSC := Lib.hid (KSB.out.on hb)
    have mrC := hold_range KMC.out 5 [.int .i64 m.r.ir, .int .i64 m.r.is] (fun j v hj => by
      match j, hj with
      | 0, hj => exact hj
      | 1, hj => exact hj)
    have srC := hold_range KSC.out 0 [.int .i64 st.r.ir, .int .i64 st.r.is] (fun j v hj => by
      match j, hj with
      | 0, hj => exact hj
      | 1, hj => exact hj)
    have snC := hold_cell KSC.out 25 (v := .bool st.new) rfl
    clear hb mrB srB snB
    try go_simp
    refine hK.out _ _ (by exact ⟨KIC.out.cel.whole, snC, srC, mrC⟩) (fun hHeld => ?_)
    clear hK K
    (try simp only [Act.put]); (try simp only [List.setIfInBounds_toArray]); (try simp only [List.set_cons_succ]); (try simp only [List.set_cons_zero])
    refine wpAnyH_take (i := 7) (oi := ⟨some 48, .move (.tmp 47), 4, _, _, none⟩) (v := ?_) rfl (by kernel_rfl) (by kernel_rfl) (by kernel_rfl) (fun _ _ _ h => h) (Or.inl ⟨by rfl, ?_⟩) (by assumption) ?_
    rotate_left
    · (intro w hSw; (try dsimp only at hSw); go_split_ands; go_simp; (try with_reducible rfl))
    (try simp only [Act.put]); (try simp only [List.setIfInBounds_toArray]); (try simp only [List.set_cons_succ]); (try simp only [List.set_cons_zero])
    refine wpAnyH_take (i := 8) (oi := ⟨some 49, .fieldAddr 46 (.tmp 9) 1, 0, _, _, some (7, true)⟩) (v := ?_) rfl (by kernel_rfl) (by kernel_rfl) (by kernel_rfl) (fun _ _ _ h => h) (Or.inl ⟨by rfl, ?_⟩) (by assumption) ?_
    rotate_left
    · (intro w hSw; (try dsimp only at hSw); go_split_ands; go_simp; (try with_reducible rfl))
    (try simp only [Act.put]); (try simp only [List.setIfInBounds_toArray]); (try simp only [List.set_cons_succ]); (try simp only [List.set_cons_zero])
    refine wpAnyH_take (i := 9) (oi := ⟨some 50, .load 4 (.tmp 49), 4, _, _, some (7, true)⟩) (v := ?_) rfl (by kernel_rfl) (by kernel_rfl) (by kernel_rfl) (fun _ _ _ h => h) (Or.inl ⟨by rfl, ?_⟩) (by assumption) ?_
    rotate_left
    · (intro w hSw; (try dsimp only at hSw); go_split_ands; go_simp; (try with_reducible rfl))
    (try simp only [Act.put]); (try simp only [List.setIfInBounds_toArray]); (try simp only [List.set_cons_succ]); (try simp only [List.set_cons_zero])
    refine wpAnyH_take (i := 10) (oi := ⟨some 51, .unOp .not 4 (.tmp 50), 4, _, _, some (7, true)⟩) (v := ?_) rfl (by kernel_rfl) (by kernel_rfl) (by kernel_rfl) (fun _ _ _ h => h) (Or.inl ⟨by rfl, ?_⟩) (by assumption) ?_
    rotate_left
    · (intro w hSw; (try dsimp only at hSw); go_split_ands; go_simp; (try with_reducible rfl))
    (try simp only [Act.put]); (try simp only [List.setIfInBounds_toArray]); (try simp only [List.set_cons_succ]); (try simp only [List.set_cons_zero])
    refine wpAnyH_take (i := 11) (oi := ⟨some 52, .move (.tmp 51), 4, _, _, some (7, true)⟩) (v := ?_) rfl (by kernel_rfl) (by kernel_rfl) (by kernel_rfl) (fun _ _ _ h => h) (Or.inl ⟨by rfl, ?_⟩) (by assumption) ?_
    rotate_left
    · (intro w hSw; (try dsimp only at hSw); go_split_ands; go_simp; (try with_reducible rfl))
    (try simp only [Act.put]); (try simp only [List.setIfInBounds_toArray]); (try simp only [List.set_cons_succ]); (try simp only [List.set_cons_zero])
    refine wpAnyH_take (i := 12) (oi := ⟨some 53, .fieldAddr 46 (.tmp 9) 0, 0, _, _, some (11, false)⟩) (v := undef) rfl (by kernel_rfl) (by kernel_rfl) (by kernel_rfl) (fun _ _ _ h => h) (Or.inr ⟨by rfl, rfl⟩) (by assumption) ?_
    (try simp only [Act.put]); (try simp only [List.setIfInBounds_toArray]); (try simp only [List.set_cons_succ]); (try simp only [List.set_cons_zero])
    refine wpAnyH_take (i := 13) (oi := ⟨some 54, .fieldAddr 38 (.tmp 53) 0, 0, _, _, some (11, false)⟩) (v := undef) rfl (by kernel_rfl) (by kernel_rfl) (by kernel_rfl) (fun _ _ _ h => h) (Or.inr ⟨by rfl, rfl⟩) (by assumption) ?_
    (try simp only [Act.put]); (try simp only [List.setIfInBounds_toArray]); (try simp only [List.set_cons_succ]); (try simp only [List.set_cons_zero])
    refine wpAnyH_take (i := 14) (oi := ⟨some 55, .load 26 (.tmp 54), 26, _, _, some (11, false)⟩) (v := undef) rfl (by kernel_rfl) (by kernel_rfl) (by kernel_rfl) (fun _ _ _ h => h) (Or.inr ⟨by rfl, rfl⟩) (by assumption) ?_
    (try simp only [Act.put]); (try simp only [List.setIfInBounds_toArray]); (try simp only [List.set_cons_succ]); (try simp only [List.set_cons_zero])
    refine wpAnyH_take (i := 15) (oi := ⟨some 56, .fieldAddr 40 (.tmp 6) 4, 0, _, _, some (11, false)⟩) (v := undef) rfl (by kernel_rfl) (by kernel_rfl) (by kernel_rfl) (fun _ _ _ h => h) (Or.inr ⟨by rfl, rfl⟩) (by assumption) ?_
    (try simp only [Act.put]); (try simp only [List.setIfInBounds_toArray]); (try simp only [List.set_cons_succ]); (try simp only [List.set_cons_zero])
    refine wpAnyH_take (i := 16) (oi := ⟨some 57, .fieldAddr 38 (.tmp 56) 0, 0, _, _, some (11, false)⟩) (v := undef) rfl (by kernel_rfl) (by kernel_rfl) (by kernel_rfl) (fun _ _ _ h => h) (Or.inr ⟨by rfl, rfl⟩) (by assumption) ?_
    (try simp only [Act.put]); (try simp only [List.setIfInBounds_toArray]); (try simp only [List.set_cons_succ]); (try simp only [List.set_cons_zero])
    refine wpAnyH_take (i := 17) (oi := ⟨some 58, .load 26 (.tmp 57), 26, _, _, some (11, false)⟩) (v := undef) rfl (by kernel_rfl) (by kernel_rfl) (by kernel_rfl) (fun _ _ _ h => h) (Or.inr ⟨by rfl, rfl⟩) (by assumption) ?_
    (try simp only [Act.put]); (try simp only [List.setIfInBounds_toArray]); (try simp only [List.set_cons_succ]); (try simp only [List.set_cons_zero])
    refine wpAnyH_take (i := 18) (oi := ⟨some 59, .binOp .eql 26 (.tmp 55) (.tmp 58) 26, 4, _, _, some (11, false)⟩) (v := undef) rfl (by kernel_rfl) (by kernel_rfl) (by kernel_rfl) (fun _ _ _ h => h) (Or.inr ⟨by rfl, rfl⟩) (by assumption) ?_
    (try simp only [Act.put]); (try simp only [List.setIfInBounds_toArray]); (try simp only [List.set_cons_succ]); (try simp only [List.set_cons_zero])
    refine wpAnyH_take (i := 19) (oi := ⟨some 60, .pick (.tmp 52) (.const (.bool true)) (.tmp 59), 4, _, _, some (7, true)⟩) (v := ?_) rfl (by kernel_rfl) (by kernel_rfl) (by kernel_rfl) (fun _ _ _ h => h) (Or.inl ⟨by rfl, ?_⟩) (by assumption) ?_
    rotate_left
    · (intro w hSw; (try dsimp only at hSw); go_split_ands; go_simp; (try with_reducible rfl))
    (try simp only [Act.put]); (try simp only [List.setIfInBounds_toArray]); (try simp only [List.set_cons_succ]); (try simp only [List.set_cons_zero])
    refine wpAnyH_take (i := 20) (oi := ⟨some 61, .pick (.tmp 48) (.tmp 60) (.const (.bool false)), 4, _, _, none⟩) (v := ?_) rfl (by kernel_rfl) (by kernel_rfl) (by kernel_rfl) (fun _ _ _ h => h) (Or.inl ⟨by rfl, ?_⟩) (by assumption) ?_
    rotate_left
    · (intro w hSw; (try dsimp only at hSw); go_split_ands; go_simp; (try with_reducible rfl))
    (try simp only [Act.put]); (try simp only [List.setIfInBounds_toArray]); (try simp only [List.set_cons_succ]); (try simp only [List.set_cons_zero])
    refine wpAnyH_take (i := 21) (oi := ⟨some 62, .move (.tmp 61), 4, _, _, none⟩) (v := ?_) rfl (by kernel_rfl) (by kernel_rfl) (by kernel_rfl) (fun _ _ _ h => h) (Or.inl ⟨by rfl, ?_⟩) (by assumption) ?_
    rotate_left
    · (intro w hSw; (try dsimp only at hSw); go_split_ands; go_simp; (try with_reducible rfl))
    (try simp only [Act.put]); (try simp only [List.setIfInBounds_toArray]); (try simp only [List.set_cons_succ]); (try simp only [List.set_cons_zero])
    refine wpAnyH_ready (rs := [22]) (by kernel_rfl) (by simp) ?_
    refine AllReadyH.cons (o := ⟨some 63, .call { callee := .value (.func 8), args := #[], argTypes := #[] }, 4, _, _, some (21, true)⟩) rfl (fun K hK => ?_) AllReadyH.nil
    try go_simp
    refine (awake_any _).mono ?_
    rintro e wd ⟨rfl, hb⟩
    have HBE2 := Lib.hid (below_on HBC.out hb)
    have KME2 := Lib.hid (KMC.out.on hb)
    have KIE2 := Lib.hid (KIC.out.on hb)
    have KSE2 := Lib.hid (KSC.out.on hb)
    have mrE2 := hold_range KME2.out 5 [.int .i64 m.r.ir, .int .i64 m.r.is] (fun j v hj => by
      match j, hj with
      | 0, hj => exact hj
      | 1, hj => exact hj)
    have srE2 := hold_range KSE2.out 0 [.int .i64 st.r.ir, .int .i64 st.r.is] (fun j v hj => by
      match j, hj with
      | 0, hj => exact hj
      | 1, hj => exact hj)
    have snE2 := hold_cell KSE2.out 25 (v := .bool st.new) rfl
    clear hb mrC srC snC
    try go_simp
    refine hK.out _ _ (by exact ⟨KIE2.out.cel.whole, snE2, srE2, mrE2⟩) (fun hHeld => ?_)
    clear hK K
    (try simp only [Act.put]); (try simp only [List.setIfInBounds_toArray]); (try simp only [List.set_cons_succ]); (try simp only [List.set_cons_zero])
    refine wpAnyH_take (i := 23) (oi := ⟨some 64, .pick (.tmp 62) (.tmp 63) (.const (.bool false)), 4, _, _, none⟩) (v := ?_) rfl (by kernel_rfl) (by kernel_rfl) (by kernel_rfl) (fun _ _ _ h => h) (Or.inl ⟨by rfl, ?_⟩) (by assumption) ?_
    rotate_left
    · (intro w hSw; (try dsimp only at hSw); go_split_ands; go_simp; (try with_reducible rfl))
    (try simp only [Act.put]); (try simp only [List.setIfInBounds_toArray]); (try simp only [List.set_cons_succ]); (try simp only [List.set_cons_zero])
    refine wpAnyH_take (i := 24) (oi := ⟨some 8, .assign (.tmp 64), 4, _, _, none⟩) (v := ?_) rfl (by kernel_rfl) (by kernel_rfl) (by kernel_rfl) (fun _ _ _ h => h) (Or.inl ⟨by rfl, ?_⟩) (by assumption) ?_
    rotate_left
    · (intro w hSw; (try dsimp only at hSw); go_split_ands; go_simp; (try with_reducible rfl))
    (try simp only [Act.put]); (try simp only [List.setIfInBounds_toArray]); (try simp only [List.set_cons_succ]); (try simp only [List.set_cons_zero])
    refine wpAnyH_done (by kernel_rfl) ?_ _
    clear hHeld mrE2 srE2 snE2
    go_wp2
    go_ret
    exact ⟨rfl, HBE2.out⟩
  · have hin := M.handle_inst (X := X) (self := p) (m := m) (by rw [hs1]; exact hn)
    rw [hs1] at hin
    have he1 : M.eq2 st.r.ir st.r.is m.r.ir m.r.is = true := by rw [hin.1, hin.2]; exact M.eq2_self _ _
    have HK1 : ∀ xa xb, M.knowL (rcs (X ++ [⟨st.r, xa, xb⟩])) i1 i2 = k := fun xa xb => by
      have : rcs (X ++ [⟨st.r, xa, xb⟩]) = rcs X ++ [st.r] := by simp [rcs]
      rw [this, M.know_snoc, if_neg, ← hk]
      rw [hin.1, hin.2, M.eq2_comm, hi]
      decide
    clear hs1 hk hin HK0
    go_enter Try.func4, Try.ntmps4
    go_wp2_with (first
    | (with_reducible refine wpList_load_mid rfl 40 _ rfl w.heap.size 0 rfl [.int .i64 m.k, .int .i64 m.fr, .int .i64 m.to, .int .i64 m.bn, .int .i64 m.br, .int .i64 m.r.ir, .int .i64 m.r.is, .int .i64 m.r.st, .int .i64 m.r.pn, .int .i64 m.r.pr, .int .i64 m.r.bn, .int .i64 m.r.br, .int .i64 m.r.c.k, .int .i64 m.r.c.tc, .int .i64 m.r.c.tn, .int .i64 m.r.c.tt, .int .i64 m.r.c.tk, .int .i64 m.r.c.sh, va, vb, .bool m.r.c.cm, .int .i64 m.r.sq, .int .i64 m.r.d0, .int .i64 m.r.d1, .int .i64 m.r.d2, .int .i64 m.r.d3, .int .i64 m.r.d4, .int .i64 m.r.d5, .int .i64 m.r.d6, .bool m.r.kp] _ H0.out.cel.whole Try.underlying40 rfl (by kernel_rfl) ?_)
    | (go_at_call 5
       refine HFW.out.mono ?_
       rintro e w1 ⟨rfl, hb⟩
       have HB1 := Lib.hid (below_on HB.out hb)
       have KM1 := Lib.hid (H0.out.on hb)
       have KI1 := Lib.hid (H1.out.on hb)
       have i0 : w1.cell? ⟨w.heap.size + 1, 0, none⟩ = some (.int .i64 i1) := hold_cell KI1.out 0 rfl
       have i1' : w1.cell? ⟨w.heap.size + 1, 1, none⟩ = some (.int .i64 i2) := hold_cell KI1.out 1 rfl
       have m5 : w1.cell? ⟨w.heap.size, 5, none⟩ = some (.int .i64 m.r.ir) := hold_cell KM1.out 5 rfl
       have m6 : w1.cell? ⟨w.heap.size, 6, none⟩ = some (.int .i64 m.r.is) := hold_cell KM1.out 6 rfl
       have M1w := KM1.out.cel.whole
       clear hb)
    | (with_reducible refine wpList_load_mid rfl 40 _ rfl w.heap.size 0 rfl [.int .i64 m.k, .int .i64 m.fr, .int .i64 m.to, .int .i64 m.bn, .int .i64 m.br, .int .i64 m.r.ir, .int .i64 m.r.is, .int .i64 m.r.st, .int .i64 m.r.pn, .int .i64 m.r.pr, .int .i64 m.r.bn, .int .i64 m.r.br, .int .i64 m.r.c.k, .int .i64 m.r.c.tc, .int .i64 m.r.c.tn, .int .i64 m.r.c.tt, .int .i64 m.r.c.tk, .int .i64 m.r.c.sh, va, vb, .bool m.r.c.cm, .int .i64 m.r.sq, .int .i64 m.r.d0, .int .i64 m.r.d1, .int .i64 m.r.d2, .int .i64 m.r.d3, .int .i64 m.r.d4, .int .i64 m.r.d5, .int .i64 m.r.d6, .bool m.r.kp] _ M1w Try.underlying40 rfl (by kernel_rfl) ?_)
    | (go_at_call 9
       have HA := handle_any (HX.out.below HB1.out) hl hX p m (HM.out.below HB1.out) F
       rw [← HS.out] at HA
       refine HA.mono ?_
       clear HA HS
       rintro e w4 ⟨xa, xb, ya, yb, rfl, t1, t2, hb⟩
       have HB4 := Lib.hid (below_on HB1.out hb)
       have KM4 := Lib.hid (KM1.out.on hb)
       have KI4 := Lib.hid (KI1.out.on hb)
       have T14 := Lib.hid t1
       have o5 : (stc st xa xb ya yb).all (·.oneCell') = true := stc_one (rds_one t1.rs) (wrs_one t1.ws) (rds_one t2.rs) (wrs_one t2.ws)
       clear hb t1 t2)
    | (with_reducible refine store_freshA rfl 46 _ _ rfl w4.heap.size rfl 46 _ (stc st xa xb ya yb) rfl rfl rfl (stc_size _ _ _ _ _) o5 ?_
       intro w7 S7 b7
       have HB7 := Lib.hid (below_on HB4.out b7)
       have KM7 := Lib.hid (KM4.out.on b7)
       have KI7 := Lib.hid (KI4.out.on b7)
       have T17 := Lib.hid (T14.out.below b7)
       have KS7 := Lib.hid S7
       clear b7 S7
       obtain ⟨v8, w8, hr8, ho8, hb8⟩ := copy_recs (HX.out.below HB7.out) hl
       obtain ⟨A8, c8, ev8⟩ := ownsRow_slice ho8
       subst ev8
       have KS8 := Lib.hid (KS7.out.on hb8)
       have n25 : w8.cell? ⟨w4.heap.size, 25, none⟩ = some (.bool st.new) := hold_cell KS8.out 25 rfl
       have T18 := Lib.hid (T17.out.below hb8)
       have sr8 := stc_rec KS8.out
       obtain ⟨v9, w9, hr9, ho9, hb9⟩ := more_recs (x := ⟨st.r, xa, xb⟩) ho8 hb8.size T18.out hl
       obtain ⟨A9, c9, ev9⟩ := ownsRow_slice ho9
       subst ev9
       have hb79 := hb9 w7.heap.size w7 (Nat.le_refl _) hb8
       have HBE := Lib.hid (below_on HB7.out hb79)
       have KME := Lib.hid (KM7.out.on hb79)
       have KIE := Lib.hid (KI7.out.on hb79)
       have KSE := Lib.hid (KS7.out.on hb79)
       have HYE := Lib.hid (show Rows w9 (.slice A9 (X.length + 1) c9) (X ++ [⟨st.r, xa, xb⟩]) from by
         have := rows_snoc ho9 (HX.out.below HBE.out).tx (T17.out.below hb79)
         rwa [List.length_append, List.length_singleton] at this)
       have HKY := Lib.hid (HK1 xa xb)
       have hXY := mem_snoc (P := fun x : Rv => M.Mod x.r.c) (y := ⟨st.r, xa, xb⟩) hX HC.out
       have hlY : (X ++ [(⟨st.r, xa, xb⟩ : Rv)]).length ≤ 1000 := by rw [List.length_append]; have := hl20.out; simp; omega
       clear ho8 hb8 ho9 hb79 hb9)
    | (at_builtin
       refine Lib.wpList_append_run _ rfl _ _ _ _ rfl _ _ rfl rfl _ _ hr8 ?_
       clear hr8)
    | (with_reducible refine wpList_load_mid rfl 38 _ rfl w4.heap.size 0 rfl [.int .i64 st.r.ir, .int .i64 st.r.is, .int .i64 st.r.st, .int .i64 st.r.pn, .int .i64 st.r.pr, .int .i64 st.r.bn, .int .i64 st.r.br, .int .i64 st.r.c.k, .int .i64 st.r.c.tc, .int .i64 st.r.c.tn, .int .i64 st.r.c.tt, .int .i64 st.r.c.tk, .int .i64 st.r.c.sh, xa, xb, .bool st.r.c.cm, .int .i64 st.r.sq, .int .i64 st.r.d0, .int .i64 st.r.d1, .int .i64 st.r.d2, .int .i64 st.r.d3, .int .i64 st.r.d4, .int .i64 st.r.d5, .int .i64 st.r.d6, .bool st.r.kp] _ sr8 Try.underlying38 rfl (by kernel_rfl) ?_)
    | (with_reducible refine wpList_build44 rfl _ rfl ⟨st.r, xa, xb⟩ rfl ?_)
    | (at_builtin
       refine Lib.wpList_append_run _ rfl _ _ _ _ rfl _ _ rfl rfl _ _ hr9 ?_
       clear hr9)
    | fail)
    have hbd : Below w9.heap.size w9 w9.drew := (Below.refl _ _).drew
    have HBD := Lib.hid (below_on HBE.out hbd)
    have KMD := Lib.hid (KME.out.on hbd)
    have KID := Lib.hid (KIE.out.on hbd)
    have KSD := Lib.hid (KSE.out.on hbd)
    have HYD := Lib.hid (HYE.out.below hbd)
    clear hbd
    have mrD := hold_range KMD.out 5 [.int .i64 m.r.ir, .int .i64 m.r.is] (fun j v hj => by
      match j, hj with
      | 0, hj => exact hj
      | 1, hj => exact hj)
    have srD := hold_range KSD.out 0 [.int .i64 st.r.ir, .int .i64 st.r.is] (fun j v hj => by
      match j, hj with
      | 0, hj => exact hj
      | 1, hj => exact hj)
    have snD := hold_cell KSD.out 25 (v := .bool st.new) rfl
    refine wp_region_held_drew (S := fun w' => w'.rangeAt (w.heap.size + 1) 0 [.int .i64 i1, .int .i64 i2] ∧ w'.cell? ⟨w4.heap.size, 25, none⟩ = some (.bool st.new) ∧ w'.rangeAt w4.heap.size 0 [.int .i64 st.r.ir, .int .i64 st.r.is] ∧ w'.rangeAt w.heap.size 5 [.int .i64 m.r.ir, .int .i64 m.r.is]) (by kernel_rfl) (by exact ⟨KID.out.cel.whole, snD, srD, mrD⟩) (fun hHeld => ?_)
    refine wpAnyH_take (i := 0) (oi := ⟨some 41, .move (.tmp 11), 22, _, _, none⟩) (v := ?_) rfl (by kernel_rfl) (by kernel_rfl) (by kernel_rfl) (fun _ _ _ h => h) (Or.inl ⟨by rfl, ?_⟩) (by assumption) ?_
    rotate_left
    · (intro w hSw; (try dsimp only at hSw); go_split_ands; go_simp; (try with_reducible rfl))
    (try simp only [Act.put]); (try simp only [List.setIfInBounds_toArray]); (try simp only [List.set_cons_succ]); (try simp only [List.set_cons_zero])
    refine wpAnyH_take (i := 1) (oi := ⟨some 42, .load 26 (.tmp 7), 26, _, _, none⟩) (v := .agg ([.int .i64 i1, .int .i64 i2] : List Value).toArray) rfl (by kernel_rfl) (by kernel_rfl) (by kernel_rfl) (fun _ _ _ h => h) (yieldsIf_load_mid (by rfl) 26 _ rfl (w.heap.size + 1) 0 rfl [.int .i64 i1, .int .i64 i2] _ (fun w hSw => hSw.1) Try.underlying26 rfl (by kernel_rfl)) (by assumption) ?_
    (try simp only [Act.put]); (try simp only [List.setIfInBounds_toArray]); (try simp only [List.set_cons_succ]); (try simp only [List.set_cons_zero])
    refine wpAnyH_take (i := 3) (oi := ⟨some 44, .move (.tmp 0), 22, _, _, none⟩) (v := ?_) rfl (by kernel_rfl) (by kernel_rfl) (by kernel_rfl) (fun _ _ _ h => h) (Or.inl ⟨by rfl, ?_⟩) (by assumption) ?_
    rotate_left
    · (intro w hSw; (try dsimp only at hSw); go_split_ands; go_simp; (try with_reducible rfl))
    (try simp only [Act.put]); (try simp only [List.setIfInBounds_toArray]); (try simp only [List.set_cons_succ]); (try simp only [List.set_cons_zero])
    refine wpAnyH_take (i := 4) (oi := ⟨some 45, .load 26 (.tmp 7), 26, _, _, none⟩) (v := .agg ([.int .i64 i1, .int .i64 i2] : List Value).toArray) rfl (by kernel_rfl) (by kernel_rfl) (by kernel_rfl) (fun _ _ _ h => h) (yieldsIf_load_mid (by rfl) 26 _ rfl (w.heap.size + 1) 0 rfl [.int .i64 i1, .int .i64 i2] _ (fun w hSw => hSw.1) Try.underlying26 rfl (by kernel_rfl)) (by assumption) ?_
    (try simp only [Act.put]); (try simp only [List.setIfInBounds_toArray]); (try simp only [List.set_cons_succ]); (try simp only [List.set_cons_zero])
    refine wpAnyH_ready (rs := [2]) (by kernel_rfl) (by simp) ?_
    refine AllReadyH.cons (o := ⟨some 43, .call { callee := .value (.func 12), args := #[.tmp 41, .tmp 42], argTypes := #[22, 26] }, 38, _, _, none⟩) rfl (fun K hK => ?_) AllReadyH.nil
    try go_simp
    have HA := know_any HYD.out hlY (fun x hx => ⟨(hXY x hx).l, (hXY x hx).l'⟩) i1 i2
    rw [HKY.out] at HA
    refine HA.mono ?_
    clear HA
    rintro e wa ⟨ga, gb, rfl, tk, hb⟩
    have TA := Lib.hid tk
    have HBA := Lib.hid (below_on HBD.out hb)
    have KMA := Lib.hid (KMD.out.on hb)
    have KIA := Lib.hid (KID.out.on hb)
    have KSA := Lib.hid (KSD.out.on hb)
    have mrA := hold_range KMA.out 5 [.int .i64 m.r.ir, .int .i64 m.r.is] (fun j v hj => by
      match j, hj with
      | 0, hj => exact hj
      | 1, hj => exact hj)
    have srA := hold_range KSA.out 0 [.int .i64 st.r.ir, .int .i64 st.r.is] (fun j v hj => by
      match j, hj with
      | 0, hj => exact hj
      | 1, hj => exact hj)
    have snA := hold_cell KSA.out 25 (v := .bool st.new) rfl
    clear hb tk mrD srD snD
    try go_simp
    refine hK.out _ _ (by exact ⟨KIA.out.cel.whole, snA, srA, mrA⟩) (fun hHeld => ?_)
    clear hK K
    (try simp only [Act.put]); (try simp only [List.setIfInBounds_toArray]); (try simp only [List.set_cons_succ]); (try simp only [List.set_cons_zero])
    refine wpAnyH_ready (rs := [5]) (by kernel_rfl) (by simp) ?_
    refine AllReadyH.cons (o := ⟨some 46, .call { callee := .value (.func 13), args := #[.tmp 44, .tmp 45], argTypes := #[22, 26] }, 38, _, _, none⟩) rfl (fun K hK => ?_) AllReadyH.nil
    try go_simp
    have HA := dknow_any (HX.out.below HBA.out) hl i1 i2
    rw [HK.out] at HA
    refine HA.mono ?_
    clear HA
    rintro e wb ⟨ha, hb', rfl, tk, hb⟩
    have TB := Lib.hid tk
    have TA2 := Lib.hid (TA.out.below hb)
    have HBB := Lib.hid (below_on HBA.out hb)
    have KMB := Lib.hid (KMA.out.on hb)
    have KIB := Lib.hid (KIA.out.on hb)
    have KSB := Lib.hid (KSA.out.on hb)
    have mrB := hold_range KMB.out 5 [.int .i64 m.r.ir, .int .i64 m.r.is] (fun j v hj => by
      match j, hj with
      | 0, hj => exact hj
      | 1, hj => exact hj)
    have srB := hold_range KSB.out 0 [.int .i64 st.r.ir, .int .i64 st.r.is] (fun j v hj => by
      match j, hj with
      | 0, hj => exact hj
      | 1, hj => exact hj)
    have snB := hold_cell KSB.out 25 (v := .bool st.new) rfl
    clear hb tk mrA srA snA
    try go_simp
    refine hK.out _ _ (by exact ⟨KIB.out.cel.whole, snB, srB, mrB⟩) (fun hHeld => ?_)
    clear hK K
    (try simp only [Act.put]); (try simp only [List.setIfInBounds_toArray]); (try simp only [List.set_cons_succ]); (try simp only [List.set_cons_zero])
    refine wpAnyH_ready (rs := [6]) (by kernel_rfl) (by simp) ?_
    refine AllReadyH.cons (o := ⟨some 47, .call { callee := .value (.func 11), args := #[.tmp 43, .tmp 46], argTypes := #[38, 38] }, 4, _, _, none⟩) rfl (fun K hK => ?_) AllReadyH.nil
    try go_simp
    have HA := dsame_rec k k TA2.out.rs TA2.out.ws TB.out.rs TB.out.ws HKM.out.l HKM.out.l'
    rw [M.sameRec_self] at HA
    refine HA.mono ?_
    clear HA
    rintro e wc ⟨rfl, hb⟩
    have HBC := Lib.hid (below_on HBB.out hb)
    have KMC := Lib.hid (KMB.out.on hb)
    have KIC := Lib.hid (KIB.out.on hb)
    have KSC := Lib.hid (KSB.out.on hb)
    have mrC := hold_range KMC.out 5 [.int .i64 m.r.ir, .int .i64 m.r.is] (fun j v hj => by
      match j, hj with
      | 0, hj => exact hj
      | 1, hj => exact hj)
    have srC := hold_range KSC.out 0 [.int .i64 st.r.ir, .int .i64 st.r.is] (fun j v hj => by
      match j, hj with
      | 0, hj => exact hj
      | 1, hj => exact hj)
    have snC := hold_cell KSC.out 25 (v := .bool st.new) rfl
    clear hb mrB srB snB
    try go_simp
    refine hK.out _ _ (by exact ⟨KIC.out.cel.whole, snC, srC, mrC⟩) (fun hHeld => ?_)
    clear hK K
    (try simp only [Act.put]); (try simp only [List.setIfInBounds_toArray]); (try simp only [List.set_cons_succ]); (try simp only [List.set_cons_zero])
    refine wpAnyH_take (i := 7) (oi := ⟨some 48, .move (.tmp 47), 4, _, _, none⟩) (v := ?_) rfl (by kernel_rfl) (by kernel_rfl) (by kernel_rfl) (fun _ _ _ h => h) (Or.inl ⟨by rfl, ?_⟩) (by assumption) ?_
    rotate_left
    · (intro w hSw; (try dsimp only at hSw); go_split_ands; go_simp; (try with_reducible rfl))
    (try simp only [Act.put]); (try simp only [List.setIfInBounds_toArray]); (try simp only [List.set_cons_succ]); (try simp only [List.set_cons_zero])
    refine wpAnyH_take (i := 8) (oi := ⟨some 49, .fieldAddr 46 (.tmp 9) 1, 0, _, _, some (7, true)⟩) (v := ?_) rfl (by kernel_rfl) (by kernel_rfl) (by kernel_rfl) (fun _ _ _ h => h) (Or.inl ⟨by rfl, ?_⟩) (by assumption) ?_
    rotate_left
    · (intro w hSw; (try dsimp only at hSw); go_split_ands; go_simp; (try with_reducible rfl))
    (try simp only [Act.put]); (try simp only [List.setIfInBounds_toArray]); (try simp only [List.set_cons_succ]); (try simp only [List.set_cons_zero])
    refine wpAnyH_take (i := 9) (oi := ⟨some 50, .load 4 (.tmp 49), 4, _, _, some (7, true)⟩) (v := ?_) rfl (by kernel_rfl) (by kernel_rfl) (by kernel_rfl) (fun _ _ _ h => h) (Or.inl ⟨by rfl, ?_⟩) (by assumption) ?_
    rotate_left
    · (intro w hSw; (try dsimp only at hSw); go_split_ands; go_simp; (try with_reducible rfl))
    (try simp only [Act.put]); (try simp only [List.setIfInBounds_toArray]); (try simp only [List.set_cons_succ]); (try simp only [List.set_cons_zero])
    refine wpAnyH_take (i := 10) (oi := ⟨some 51, .unOp .not 4 (.tmp 50), 4, _, _, some (7, true)⟩) (v := ?_) rfl (by kernel_rfl) (by kernel_rfl) (by kernel_rfl) (fun _ _ _ h => h) (Or.inl ⟨by rfl, ?_⟩) (by assumption) ?_
    rotate_left
    · (intro w hSw; (try dsimp only at hSw); go_split_ands; go_simp; (try with_reducible rfl))
    (try simp only [Act.put]); (try simp only [List.setIfInBounds_toArray]); (try simp only [List.set_cons_succ]); (try simp only [List.set_cons_zero])
    refine wpAnyH_take (i := 11) (oi := ⟨some 52, .move (.tmp 51), 4, _, _, some (7, true)⟩) (v := ?_) rfl (by kernel_rfl) (by kernel_rfl) (by kernel_rfl) (fun _ _ _ h => h) (Or.inl ⟨by rfl, ?_⟩) (by assumption) ?_
    rotate_left
    · (intro w hSw; (try dsimp only at hSw); go_split_ands; go_simp; (try with_reducible rfl))
    (try simp only [Act.put]); (try simp only [List.setIfInBounds_toArray]); (try simp only [List.set_cons_succ]); (try simp only [List.set_cons_zero])
    refine wpAnyH_take (i := 12) (oi := ⟨some 53, .fieldAddr 46 (.tmp 9) 0, 0, _, _, some (11, false)⟩) (v := ?_) rfl (by kernel_rfl) (by kernel_rfl) (by kernel_rfl) (fun _ _ _ h => h) (Or.inl ⟨by rfl, ?_⟩) (by assumption) ?_
    rotate_left
    · (intro w hSw; (try dsimp only at hSw); go_split_ands; go_simp; (try with_reducible rfl))
    (try simp only [Act.put]); (try simp only [List.setIfInBounds_toArray]); (try simp only [List.set_cons_succ]); (try simp only [List.set_cons_zero])
    refine wpAnyH_take (i := 13) (oi := ⟨some 54, .fieldAddr 38 (.tmp 53) 0, 0, _, _, some (11, false)⟩) (v := ?_) rfl (by kernel_rfl) (by kernel_rfl) (by kernel_rfl) (fun _ _ _ h => h) (Or.inl ⟨by rfl, ?_⟩) (by assumption) ?_
    rotate_left
    · (intro w hSw; (try dsimp only at hSw); go_split_ands; go_simp; (try with_reducible rfl))
    (try simp only [Act.put]); (try simp only [List.setIfInBounds_toArray]); (try simp only [List.set_cons_succ]); (try simp only [List.set_cons_zero])
    refine wpAnyH_take (i := 14) (oi := ⟨some 55, .load 26 (.tmp 54), 26, _, _, some (11, false)⟩) (v := .agg ([.int .i64 st.r.ir, .int .i64 st.r.is] : List Value).toArray) rfl (by kernel_rfl) (by kernel_rfl) (by kernel_rfl) (fun _ _ _ h => h) (yieldsIf_load_mid (by rfl) 26 _ rfl w4.heap.size 0 rfl [.int .i64 st.r.ir, .int .i64 st.r.is] _ (fun w hSw => hSw.2.2.1) Try.underlying26 rfl (by kernel_rfl)) (by assumption) ?_
    (try simp only [Act.put]); (try simp only [List.setIfInBounds_toArray]); (try simp only [List.set_cons_succ]); (try simp only [List.set_cons_zero])
    refine wpAnyH_take (i := 15) (oi := ⟨some 56, .fieldAddr 40 (.tmp 6) 4, 0, _, _, some (11, false)⟩) (v := ?_) rfl (by kernel_rfl) (by kernel_rfl) (by kernel_rfl) (fun _ _ _ h => h) (Or.inl ⟨by rfl, ?_⟩) (by assumption) ?_
    rotate_left
    · (intro w hSw; (try dsimp only at hSw); go_split_ands; go_simp; (try with_reducible rfl))
    (try simp only [Act.put]); (try simp only [List.setIfInBounds_toArray]); (try simp only [List.set_cons_succ]); (try simp only [List.set_cons_zero])
    refine wpAnyH_take (i := 16) (oi := ⟨some 57, .fieldAddr 38 (.tmp 56) 0, 0, _, _, some (11, false)⟩) (v := ?_) rfl (by kernel_rfl) (by kernel_rfl) (by kernel_rfl) (fun _ _ _ h => h) (Or.inl ⟨by rfl, ?_⟩) (by assumption) ?_
    rotate_left
    · (intro w hSw; (try dsimp only at hSw); go_split_ands; go_simp; (try with_reducible rfl))
    (try simp only [Act.put]); (try simp only [List.setIfInBounds_toArray]); (try simp only [List.set_cons_succ]); (try simp only [List.set_cons_zero])
    refine wpAnyH_take (i := 17) (oi := ⟨some 58, .load 26 (.tmp 57), 26, _, _, some (11, false)⟩) (v := .agg ([.int .i64 m.r.ir, .int .i64 m.r.is] : List Value).toArray) rfl (by kernel_rfl) (by kernel_rfl) (by kernel_rfl) (fun _ _ _ h => h) (yieldsIf_load_mid (by rfl) 26 _ rfl w.heap.size 5 rfl [.int .i64 m.r.ir, .int .i64 m.r.is] _ (fun w hSw => hSw.2.2.2) Try.underlying26 rfl (by kernel_rfl)) (by assumption) ?_
    (try simp only [Act.put]); (try simp only [List.setIfInBounds_toArray]); (try simp only [List.set_cons_succ]); (try simp only [List.set_cons_zero])
    refine wpAnyH_take (i := 18) (oi := ⟨some 59, .binOp .eql 26 (.tmp 55) (.tmp 58) 26, 4, _, _, some (11, false)⟩) (v := ?_) rfl (by kernel_rfl) (by kernel_rfl) (by kernel_rfl) (fun _ _ _ h => h) (Or.inl ⟨by rfl, ?_⟩) (by assumption) ?_
    rotate_left
    · (intro w hSw; (try dsimp only at hSw); go_split_ands; go_simp; (try with_reducible rfl))
    (try simp only [Act.put]); (try simp only [List.setIfInBounds_toArray]); (try simp only [List.set_cons_succ]); (try simp only [List.set_cons_zero])
    refine wpAnyH_take (i := 19) (oi := ⟨some 60, .pick (.tmp 52) (.const (.bool true)) (.tmp 59), 4, _, _, some (7, true)⟩) (v := ?_) rfl (by kernel_rfl) (by kernel_rfl) (by kernel_rfl) (fun _ _ _ h => h) (Or.inl ⟨by rfl, ?_⟩) (by assumption) ?_
    rotate_left
    · (intro w hSw; (try dsimp only at hSw); go_split_ands; go_simp; (try with_reducible rfl))
    (try simp only [Act.put]); (try simp only [List.setIfInBounds_toArray]); (try simp only [List.set_cons_succ]); (try simp only [List.set_cons_zero])
    refine wpAnyH_take (i := 20) (oi := ⟨some 61, .pick (.tmp 48) (.tmp 60) (.const (.bool false)), 4, _, _, none⟩) (v := ?_) rfl (by kernel_rfl) (by kernel_rfl) (by kernel_rfl) (fun _ _ _ h => h) (Or.inl ⟨by rfl, ?_⟩) (by assumption) ?_
    rotate_left
    · (intro w hSw; (try dsimp only at hSw); go_split_ands; go_simp; (try with_reducible rfl))
    (try simp only [Act.put]); (try simp only [List.setIfInBounds_toArray]); (try simp only [List.set_cons_succ]); (try simp only [List.set_cons_zero])
    refine wpAnyH_take (i := 21) (oi := ⟨some 62, .move (.tmp 61), 4, _, _, none⟩) (v := ?_) rfl (by kernel_rfl) (by kernel_rfl) (by kernel_rfl) (fun _ _ _ h => h) (Or.inl ⟨by rfl, ?_⟩) (by assumption) ?_
    rotate_left
    · (intro w hSw; (try dsimp only at hSw); go_split_ands; go_simp; (try with_reducible rfl))
    (try simp only [Act.put]); (try simp only [List.setIfInBounds_toArray]); (try simp only [List.set_cons_succ]); (try simp only [List.set_cons_zero])
    refine wpAnyH_ready (rs := [22]) (by kernel_rfl) (by simp) ?_
    refine AllReadyH.cons (o := ⟨some 63, .call { callee := .value (.func 8), args := #[], argTypes := #[] }, 4, _, _, some (21, true)⟩) rfl (fun K hK => ?_) AllReadyH.nil
    try go_simp
    refine (awake_any _).mono ?_
    rintro e wd ⟨rfl, hb⟩
    have HBE2 := Lib.hid (below_on HBC.out hb)
    have KME2 := Lib.hid (KMC.out.on hb)
    have KIE2 := Lib.hid (KIC.out.on hb)
    have KSE2 := Lib.hid (KSC.out.on hb)
    have mrE2 := hold_range KME2.out 5 [.int .i64 m.r.ir, .int .i64 m.r.is] (fun j v hj => by
      match j, hj with
      | 0, hj => exact hj
      | 1, hj => exact hj)
    have srE2 := hold_range KSE2.out 0 [.int .i64 st.r.ir, .int .i64 st.r.is] (fun j v hj => by
      match j, hj with
      | 0, hj => exact hj
      | 1, hj => exact hj)
    have snE2 := hold_cell KSE2.out 25 (v := .bool st.new) rfl
    clear hb mrC srC snC
    try go_simp
    refine hK.out _ _ (by exact ⟨KIE2.out.cel.whole, snE2, srE2, mrE2⟩) (fun hHeld => ?_)
    clear hK K
    (try simp only [Act.put]); (try simp only [List.setIfInBounds_toArray]); (try simp only [List.set_cons_succ]); (try simp only [List.set_cons_zero])
    refine wpAnyH_take (i := 23) (oi := ⟨some 64, .pick (.tmp 62) (.tmp 63) (.const (.bool false)), 4, _, _, none⟩) (v := ?_) rfl (by kernel_rfl) (by kernel_rfl) (by kernel_rfl) (fun _ _ _ h => h) (Or.inl ⟨by rfl, ?_⟩) (by assumption) ?_
    rotate_left
    · (intro w hSw; (try dsimp only at hSw); go_split_ands; go_simp; (try with_reducible rfl))
    (try simp only [Act.put]); (try simp only [List.setIfInBounds_toArray]); (try simp only [List.set_cons_succ]); (try simp only [List.set_cons_zero])
    refine wpAnyH_take (i := 24) (oi := ⟨some 8, .assign (.tmp 64), 4, _, _, none⟩) (v := ?_) rfl (by kernel_rfl) (by kernel_rfl) (by kernel_rfl) (fun _ _ _ h => h) (Or.inl ⟨by rfl, ?_⟩) (by assumption) ?_
    rotate_left
    · (intro w hSw; (try dsimp only at hSw); go_split_ands; go_simp; (try with_reducible rfl))
    (try simp only [Act.put]); (try simp only [List.setIfInBounds_toArray]); (try simp only [List.set_cons_succ]); (try simp only [List.set_cons_zero])
    refine wpAnyH_done (by kernel_rfl) ?_ _
    clear hHeld mrE2 srE2 snE2
    go_wp2
    go_ret
    exact ⟨rfl, HBE2.out⟩
end Go.Proofs.Ytpknkhgkejkpkaa
