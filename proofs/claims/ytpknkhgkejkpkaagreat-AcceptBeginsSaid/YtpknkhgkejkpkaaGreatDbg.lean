/- Contract of the document's Begin; no conditions but those that it names. -/
import Derived.Test.YtpknkhgkejkpkaaGreatBeg
import Derived.Test.YtpknkhgkejkpkaaGreatDat
namespace Go.Proofs.YtpknkhgkejkpkaaGreat
open Go.ChangeShapes Go.WideShapes Go.ChangeAt Go.RowKit

set_option maxHeartbeats 16000000 in
set_option maxRecDepth 100000 in
theorem dbegin_any {w : World} {v : Value} {X : List Rv} (h : Rows w v X) (hl : X.length ≤ 1000) (hX : ∀ x ∈ X, M.Mod x.r.c) (p : Int) (c : M.Cmd) {va vb : Value} (hc : Rds w va c.rs) (hc' : Wrs w vb c.ws) (F : M.Mod c) :
    Calls Tryz.prog 12 #[v, .int .i64 p, .agg #[.int .i64 c.k, .int .i64 c.tc, .int .i64 c.tn, .int .i64 c.tt, .int .i64 c.tk, .int .i64 c.sh, va, vb, .bool c.cm]] w (Begun (begX X p c) w) := by
  obtain ⟨A, cc, rfl⟩ := rowN_sliceOf h.row
  have O3 : va.oneCell' = true := rds_one hc
  have O4 : vb.oneCell' = true := wrs_one hc'
  have H0 := Lib.hid (show Hold ((w.alloc (.cells #[.int .i64 c.k, .int .i64 c.tc, .int .i64 c.tn, .int .i64 c.tt, .int .i64 c.tk, .int .i64 c.sh, va, vb, .bool c.cm] 30)).alloc (.cells #[.int .i64 0, .int .i64 0, .int .i64 0, .int .i64 0, .int .i64 0, .int .i64 0, .int .i64 0, .int .i64 0, .int .i64 0, .int .i64 0, .int .i64 0, .int .i64 0, .int .i64 0, .slice none 0 0, .slice none 0 0, .bool false, .int .i64 0, .int .i64 0, .int .i64 0, .int .i64 0, .int .i64 0, .int .i64 0, .int .i64 0, .int .i64 0, .bool false] 41)) w.heap.size 30 [.int .i64 c.k, .int .i64 c.tc, .int .i64 c.tn, .int .i64 c.tt, .int .i64 c.tk, .int .i64 c.sh, va, vb, .bool c.cm] from (Hold.new w [.int .i64 c.k, .int .i64 c.tc, .int .i64 c.tn, .int .i64 c.tt, .int .i64 c.tk, .int .i64 c.sh, va, vb, .bool c.cm] 30).on (below_new (o := .cells #[.int .i64 0, .int .i64 0, .int .i64 0, .int .i64 0, .int .i64 0, .int .i64 0, .int .i64 0, .int .i64 0, .int .i64 0, .int .i64 0, .int .i64 0, .int .i64 0, .int .i64 0, .slice none 0 0, .slice none 0 0, .bool false, .int .i64 0, .int .i64 0, .int .i64 0, .int .i64 0, .int .i64 0, .int .i64 0, .int .i64 0, .int .i64 0, .bool false] 41) (Below.refl _ _)))
  have H1 := Lib.hid (show Hold ((w.alloc (.cells #[.int .i64 c.k, .int .i64 c.tc, .int .i64 c.tn, .int .i64 c.tt, .int .i64 c.tk, .int .i64 c.sh, va, vb, .bool c.cm] 30)).alloc (.cells #[.int .i64 0, .int .i64 0, .int .i64 0, .int .i64 0, .int .i64 0, .int .i64 0, .int .i64 0, .int .i64 0, .int .i64 0, .int .i64 0, .int .i64 0, .int .i64 0, .int .i64 0, .slice none 0 0, .slice none 0 0, .bool false, .int .i64 0, .int .i64 0, .int .i64 0, .int .i64 0, .int .i64 0, .int .i64 0, .int .i64 0, .int .i64 0, .bool false] 41)) (w.heap.size + 1) 41 [.int .i64 0, .int .i64 0, .int .i64 0, .int .i64 0, .int .i64 0, .int .i64 0, .int .i64 0, .int .i64 0, .int .i64 0, .int .i64 0, .int .i64 0, .int .i64 0, .int .i64 0, .slice none 0 0, .slice none 0 0, .bool false, .int .i64 0, .int .i64 0, .int .i64 0, .int .i64 0, .int .i64 0, .int .i64 0, .int .i64 0, .int .i64 0, .bool false] from by
    have := Hold.new (w.alloc (.cells #[.int .i64 c.k, .int .i64 c.tc, .int .i64 c.tn, .int .i64 c.tt, .int .i64 c.tk, .int .i64 c.sh, va, vb, .bool c.cm] 30)) [.int .i64 0, .int .i64 0, .int .i64 0, .int .i64 0, .int .i64 0, .int .i64 0, .int .i64 0, .int .i64 0, .int .i64 0, .int .i64 0, .int .i64 0, .int .i64 0, .int .i64 0, .slice none 0 0, .slice none 0 0, .bool false, .int .i64 0, .int .i64 0, .int .i64 0, .int .i64 0, .int .i64 0, .int .i64 0, .int .i64 0, .int .i64 0, .bool false] 41
    rwa [show (w.alloc (.cells #[.int .i64 c.k, .int .i64 c.tc, .int .i64 c.tn, .int .i64 c.tt, .int .i64 c.tk, .int .i64 c.sh, va, vb, .bool c.cm] 30)).heap.size = w.heap.size + 1 by simp] at this)
  have HB := Lib.hid (show Below w.heap.size w ((w.alloc (.cells #[.int .i64 c.k, .int .i64 c.tc, .int .i64 c.tn, .int .i64 c.tt, .int .i64 c.tk, .int .i64 c.sh, va, vb, .bool c.cm] 30)).alloc (.cells #[.int .i64 0, .int .i64 0, .int .i64 0, .int .i64 0, .int .i64 0, .int .i64 0, .int .i64 0, .int .i64 0, .int .i64 0, .int .i64 0, .int .i64 0, .int .i64 0, .int .i64 0, .slice none 0 0, .slice none 0 0, .bool false, .int .i64 0, .int .i64 0, .int .i64 0, .int .i64 0, .int .i64 0, .int .i64 0, .int .i64 0, .int .i64 0, .bool false] 41)) from below_new (below_new (Below.refl _ _)))
  have HQ := Lib.hid (drightC c (hc.below HB.out) (hc'.below HB.out) F)
  have HC := Lib.hid hc
  have HC' := Lib.hid hc'
  have HX := Lib.hid h
  have O5 : (Rv.cells ⟨M.zrec, NS, NS⟩).all (·.oneCell') = true := rv_one rfl rfl
  clear hc hc' h
  by_cases h1 : p < 0
  · have d1 : decide (p < 0) = true := decide_eq_true h1
    have HE := Lib.hid (show begX X p c = (M.zrec, 1) by unfold begX; rw [if_pos (.inl h1)])
    rw [HE.out]
    clear h1
    go_enter Tryz.func12, Tryz.ntmps12
    go_wp2_with (first
    | (with_reducible refine wpList_buildTo rfl 41 _ rfl _ rfl (Rv.cells ⟨M.zrec, NS, NS⟩).toArray (by kernel_rfl) ?_)
    | (with_reducible refine store_hold rfl 41 _ _ rfl (w.heap.size + 1) 0 rfl 41 (Rv.cells ⟨M.zrec, NS, NS⟩) [.int .i64 0, .int .i64 0, .int .i64 0, .int .i64 0, .int .i64 0, .int .i64 0, .int .i64 0, .int .i64 0, .int .i64 0, .int .i64 0, .int .i64 0, .int .i64 0, .int .i64 0, .slice none 0 0, .slice none 0 0, .bool false, .int .i64 0, .int .i64 0, .int .i64 0, .int .i64 0, .int .i64 0, .int .i64 0, .int .i64 0, .int .i64 0, .bool false] (Rv.cells ⟨M.zrec, NS, NS⟩) rfl H1.out (by kernel_rfl) (of_decide_eq_true (by kernel_rfl)) (by kernel_rfl) O5 ?_; intro w6 H6 K6; have HB6 := Lib.hid (K6.below w.heap.size w (by omega) HB.out))
    | fail)
    refine bodyPost_ret (results_cv rfl rfl rfl H6.cel.whole _ Tryz.underlying41 rfl (rv_size _)) rfl ?_
    exact ⟨NS, NS, rfl, txt_none _, HB6.out⟩
  have d1 : decide (p < 0) = false := decide_eq_false h1
  by_cases h2 : 6 < p
  · have d2 : decide (6 < p) = true := decide_eq_true h2
    have HE := Lib.hid (show begX X p c = (M.zrec, 1) by unfold begX; rw [if_pos (.inr (.inl (by omega)))])
    rw [HE.out]
    clear h1 h2
    go_enter Tryz.func12, Tryz.ntmps12
    go_wp2_with (first
    | (with_reducible refine wpList_buildTo rfl 41 _ rfl _ rfl (Rv.cells ⟨M.zrec, NS, NS⟩).toArray (by kernel_rfl) ?_)
    | (with_reducible refine store_hold rfl 41 _ _ rfl (w.heap.size + 1) 0 rfl 41 (Rv.cells ⟨M.zrec, NS, NS⟩) [.int .i64 0, .int .i64 0, .int .i64 0, .int .i64 0, .int .i64 0, .int .i64 0, .int .i64 0, .int .i64 0, .int .i64 0, .int .i64 0, .int .i64 0, .int .i64 0, .int .i64 0, .slice none 0 0, .slice none 0 0, .bool false, .int .i64 0, .int .i64 0, .int .i64 0, .int .i64 0, .int .i64 0, .int .i64 0, .int .i64 0, .int .i64 0, .bool false] (Rv.cells ⟨M.zrec, NS, NS⟩) rfl H1.out (by kernel_rfl) (of_decide_eq_true (by kernel_rfl)) (by kernel_rfl) O5 ?_; intro w6 H6 K6; have HB6 := Lib.hid (K6.below w.heap.size w (by omega) HB.out))
    | fail)
    refine bodyPost_ret (results_cv rfl rfl rfl H6.cel.whole _ Tryz.underlying41 rfl (rv_size _)) rfl ?_
    exact ⟨NS, NS, rfl, txt_none _, HB6.out⟩
  have d2 : decide (6 < p) = false := decide_eq_false h2
  rcases h3 : M.rightC c with _ | _
  · rw [h3] at HQ
    have HE := Lib.hid (show begX X p c = (M.zrec, 1) by unfold begX; rw [if_pos (.inr (.inr h3))])
    rw [HE.out]
    clear h1 h2
    go_enter Tryz.func12, Tryz.ntmps12
    go_wp2_with (first
    | (with_reducible refine wpList_load_mid_g ?_ 30 _ rfl w.heap.size 0 rfl [.int .i64 c.k, .int .i64 c.tc, .int .i64 c.tn, .int .i64 c.tt, .int .i64 c.tk, .int .i64 c.sh, va, vb, .bool c.cm] _ H0.out.cel.whole Tryz.underlying30 rfl (by kernel_rfl) ?_; kernel_rfl)
    | (go_at_call 30
       refine HQ.out.mono ?_
       rintro e w1 ⟨rfl, hb⟩
       have HB1 := Lib.hid (below_on HB.out hb)
       have Z1 := H1.out.on hb
       clear hb)
    | (with_reducible refine wpList_buildTo rfl 41 _ rfl _ rfl (Rv.cells ⟨M.zrec, NS, NS⟩).toArray (by kernel_rfl) ?_)
    | (with_reducible refine store_hold rfl 41 _ _ rfl (w.heap.size + 1) 0 rfl 41 (Rv.cells ⟨M.zrec, NS, NS⟩) [.int .i64 0, .int .i64 0, .int .i64 0, .int .i64 0, .int .i64 0, .int .i64 0, .int .i64 0, .int .i64 0, .int .i64 0, .int .i64 0, .int .i64 0, .int .i64 0, .int .i64 0, .slice none 0 0, .slice none 0 0, .bool false, .int .i64 0, .int .i64 0, .int .i64 0, .int .i64 0, .int .i64 0, .int .i64 0, .int .i64 0, .int .i64 0, .bool false] (Rv.cells ⟨M.zrec, NS, NS⟩) rfl Z1 (by kernel_rfl) (of_decide_eq_true (by kernel_rfl)) (by kernel_rfl) O5 ?_; intro w6 H6 K6; have HB6 := Lib.hid (K6.below w.heap.size w (by omega) HB1.out))
    | fail)
    refine bodyPost_ret (results_cv rfl rfl rfl H6.cel.whole _ Tryz.underlying41 rfl (rv_size _)) rfl ?_
    exact ⟨NS, NS, rfl, txt_none _, HB6.out⟩
  rw [h3] at HQ
  have hn3 : ¬ (p < 0 ∨ 7 ≤ p ∨ M.rightC c = false) := fun h => by
    rcases h with h | h | h
    · exact h1 h
    · omega
    · rw [h3] at h; cases h
  clear h1 h2 h3
  go_enter Tryz.func12, Tryz.ntmps12
  go_wp2_with (first
  | (with_reducible refine wpList_load_mid_g ?_ 30 _ rfl w.heap.size 0 rfl [.int .i64 c.k, .int .i64 c.tc, .int .i64 c.tn, .int .i64 c.tt, .int .i64 c.tk, .int .i64 c.sh, va, vb, .bool c.cm] _ H0.out.cel.whole Tryz.underlying30 rfl (by kernel_rfl) ?_; kernel_rfl)
  | (go_at_call 30
     refine HQ.out.mono ?_
     rintro e w1 ⟨rfl, hb⟩
     have HB1 := Lib.hid (below_on HB.out hb)
     have Z1 := Lib.hid (H1.out.on hb)
     have C1 := Lib.hid (H0.out.on hb)
     clear hb)
  | fail)
  refine (dslot_any p (HX.out.below HB1.out) hl).mono ?_
  rintro e w2 ⟨rfl, hb⟩
  have HB2 := Lib.hid (below_on HB1.out hb)
  have Z2 := Lib.hid (Z1.out.on hb)
  have C2 := Lib.hid (C1.out.on hb)
  have hz2 := Lib.hid (show w.heap.size + 1 + 1 ≤ w2.heap.size by have := hold_lt Z2.out; omega)
  clear hb HQ H0 H1 Z1 C1 HB1
  obtain ⟨sl, hsl⟩ : ∃ sl, sl = nextSlot p (rcs X) := ⟨_, rfl⟩
  rw [← hsl]
  have HSL := Lib.hid hsl
  clear hsl
  by_cases h4 : 1048576 < sl
  · have d4 : decide (1048576 < sl) = true := decide_eq_true h4
    have HE := Lib.hid (show begX X p c = (M.zrec, 2) by unfold begX; rw [if_neg hn3, if_pos (by rw [← HSL.out]; exact h4)])
    clear h4 hn3
    have Z2w := Z2.out
    go_wp2_with (first
    | (with_reducible refine wpList_buildTo rfl 41 _ rfl _ rfl (Rv.cells ⟨M.zrec, NS, NS⟩).toArray (by kernel_rfl) ?_)
    | (with_reducible refine store_hold rfl 41 _ _ rfl (w.heap.size + 1) 0 rfl 41 (Rv.cells ⟨M.zrec, NS, NS⟩) [.int .i64 0, .int .i64 0, .int .i64 0, .int .i64 0, .int .i64 0, .int .i64 0, .int .i64 0, .int .i64 0, .int .i64 0, .int .i64 0, .int .i64 0, .int .i64 0, .int .i64 0, .slice none 0 0, .slice none 0 0, .bool false, .int .i64 0, .int .i64 0, .int .i64 0, .int .i64 0, .int .i64 0, .int .i64 0, .int .i64 0, .int .i64 0, .bool false] (Rv.cells ⟨M.zrec, NS, NS⟩) rfl Z2w (by kernel_rfl) (of_decide_eq_true (by kernel_rfl)) (by kernel_rfl) O5 ?_; intro w6 H6 K6; have HB6 := Lib.hid (K6.below w.heap.size w (by omega) HB2.out))
    | fail)
    refine bodyPost_ret (results_cv rfl rfl rfl H6.cel.whole _ Tryz.underlying41 rfl (rv_size _)) rfl ?_
    rw [HE.out]
    exact ⟨NS, NS, rfl, txt_none _, HB6.out⟩
  have d4 : decide (1048576 < sl) = false := decide_eq_false h4
  obtain ⟨n, hn⟩ : ∃ n, n = atS X (p, sl) c 1 := ⟨_, rfl⟩
  obtain ⟨d, hd⟩ : ∃ d, d = atD X (p, sl) c (fun _ => 0) := ⟨_, rfl⟩
  have HE := Lib.hid (show begX X p c = (M.withA (M.Rec.mk p sl 1 0 0 0 0 c 0 0 0 0 0 0 0 0 true) n d true, 0) by unfold begX begR; rw [if_neg hn3, if_neg (by rw [← HSL.out]; exact h4), ← HSL.out, hn, hd])
  have HN := Lib.hid hn
  have HD := Lib.hid hd
  clear h4 hn3 hn hd
  have OF : ([.int .i64 (M.withA (M.Rec.mk p sl 1 0 0 0 0 c 0 0 0 0 0 0 0 0 true) n d true).ir, .int .i64 (M.withA (M.Rec.mk p sl 1 0 0 0 0 c 0 0 0 0 0 0 0 0 true) n d true).is, .int .i64 (M.withA (M.Rec.mk p sl 1 0 0 0 0 c 0 0 0 0 0 0 0 0 true) n d true).st, .int .i64 (M.withA (M.Rec.mk p sl 1 0 0 0 0 c 0 0 0 0 0 0 0 0 true) n d true).pn, .int .i64 (M.withA (M.Rec.mk p sl 1 0 0 0 0 c 0 0 0 0 0 0 0 0 true) n d true).pr, .int .i64 (M.withA (M.Rec.mk p sl 1 0 0 0 0 c 0 0 0 0 0 0 0 0 true) n d true).bn, .int .i64 (M.withA (M.Rec.mk p sl 1 0 0 0 0 c 0 0 0 0 0 0 0 0 true) n d true).br, .int .i64 (M.withA (M.Rec.mk p sl 1 0 0 0 0 c 0 0 0 0 0 0 0 0 true) n d true).c.k, .int .i64 (M.withA (M.Rec.mk p sl 1 0 0 0 0 c 0 0 0 0 0 0 0 0 true) n d true).c.tc, .int .i64 (M.withA (M.Rec.mk p sl 1 0 0 0 0 c 0 0 0 0 0 0 0 0 true) n d true).c.tn, .int .i64 (M.withA (M.Rec.mk p sl 1 0 0 0 0 c 0 0 0 0 0 0 0 0 true) n d true).c.tt, .int .i64 (M.withA (M.Rec.mk p sl 1 0 0 0 0 c 0 0 0 0 0 0 0 0 true) n d true).c.tk, .int .i64 (M.withA (M.Rec.mk p sl 1 0 0 0 0 c 0 0 0 0 0 0 0 0 true) n d true).c.sh, va, vb, .bool (M.withA (M.Rec.mk p sl 1 0 0 0 0 c 0 0 0 0 0 0 0 0 true) n d true).c.cm, .int .i64 (M.withA (M.Rec.mk p sl 1 0 0 0 0 c 0 0 0 0 0 0 0 0 true) n d true).sq, .int .i64 (M.withA (M.Rec.mk p sl 1 0 0 0 0 c 0 0 0 0 0 0 0 0 true) n d true).d0, .int .i64 (M.withA (M.Rec.mk p sl 1 0 0 0 0 c 0 0 0 0 0 0 0 0 true) n d true).d1, .int .i64 (M.withA (M.Rec.mk p sl 1 0 0 0 0 c 0 0 0 0 0 0 0 0 true) n d true).d2, .int .i64 (M.withA (M.Rec.mk p sl 1 0 0 0 0 c 0 0 0 0 0 0 0 0 true) n d true).d3, .int .i64 (M.withA (M.Rec.mk p sl 1 0 0 0 0 c 0 0 0 0 0 0 0 0 true) n d true).d4, .int .i64 (M.withA (M.Rec.mk p sl 1 0 0 0 0 c 0 0 0 0 0 0 0 0 true) n d true).d5, .int .i64 (M.withA (M.Rec.mk p sl 1 0 0 0 0 c 0 0 0 0 0 0 0 0 true) n d true).d6, .bool (M.withA (M.Rec.mk p sl 1 0 0 0 0 c 0 0 0 0 0 0 0 0 true) n d true).kp] : List Value).all (·.oneCell') = true := rv_one (x := ⟨M.withA (M.Rec.mk p sl 1 0 0 0 0 c 0 0 0 0 0 0 0 0 true) n d true, va, vb⟩) O3 O4
  go_wp2_with (first
  | (with_reducible refine store_freshA rfl 32 _ _ rfl w2.heap.size rfl 32 _ [.int .i64 p, .int .i64 sl] rfl rfl rfl (by kernel_rfl) rfl ?_
     intro w3 I3 b3
     have Z3 := Lib.hid (Z2.out.on b3)
     have C3 := Lib.hid (C2.out.on b3)
     have HB3 := Lib.hid (below_on HB2.out b3)
     have HI3 := Lib.hid I3
     have I3w := I3.cel.whole
     have C3w := C3.out.cel.whole
     have HA := dattrs_any (HX.out.below HB3.out) hl hX p sl c (HC.out.below HB3.out) (HC'.out.below HB3.out) F 1 (fun _ => 0)
     rw [← HN.out, ← HD.out] at HA
     have HAT := Lib.hid HA
     clear b3 I3 HA)
  | (with_reducible refine wpList_load_mid rfl 32 _ rfl w2.heap.size 0 rfl [.int .i64 p, .int .i64 sl] _ I3w Tryz.underlying32 rfl (by kernel_rfl) ?_)
  | (with_reducible refine wpList_load_mid rfl 30 _ rfl w.heap.size 0 rfl [.int .i64 c.k, .int .i64 c.tc, .int .i64 c.tn, .int .i64 c.tt, .int .i64 c.tk, .int .i64 c.sh, va, vb, .bool c.cm] _ C3w Tryz.underlying30 rfl (by kernel_rfl) ?_)
  | (with_reducible refine wpList_buildTo rfl 39 _ rfl _ rfl #[.int .i64 0, .int .i64 0, .int .i64 0, .int .i64 0, .int .i64 0, .int .i64 0, .int .i64 0] (by kernel_rfl) ?_)
  | (go_at_call 32
     refine HAT.out.mono ?_
     rintro e w5 ⟨rfl, hb⟩
     have Z5 := Lib.hid (Z3.out.on hb)
     have C5 := Lib.hid (C3.out.on hb)
     have I5 := Lib.hid (HI3.out.on hb)
     have HB5 := Lib.hid (below_on HB3.out hb)
     clear hb)
  | (with_reducible refine store_freshA rfl 39 _ _ rfl w5.heap.size rfl 39 _ [.int .i64 (d 0), .int .i64 (d 1), .int .i64 (d 2), .int .i64 (d 3), .int .i64 (d 4), .int .i64 (d 5), .int .i64 (d 6)] rfl rfl rfl (by kernel_rfl) rfl ?_
     intro w7 D7a b7
     have Z7b := Z5.out.on b7
     have C7 := (C5.out.on b7).cel.whole
     have I7 := (I5.out.on b7).cel.whole
     have D7w := D7a.cel.whole
     have HB7 := Lib.hid (below_on HB5.out b7)
     clear b7)
  | (with_reducible refine wpList_load_mid rfl 32 _ rfl w2.heap.size 0 rfl [.int .i64 p, .int .i64 sl] _ I7 Tryz.underlying32 rfl (by kernel_rfl) ?_)
  | (with_reducible refine wpList_load_mid rfl 30 _ rfl w.heap.size 0 rfl [.int .i64 c.k, .int .i64 c.tc, .int .i64 c.tn, .int .i64 c.tt, .int .i64 c.tk, .int .i64 c.sh, va, vb, .bool c.cm] _ C7 Tryz.underlying30 rfl (by kernel_rfl) ?_)
  | (with_reducible refine wpList_load_mid rfl 39 _ rfl w5.heap.size 0 rfl [.int .i64 (d 0), .int .i64 (d 1), .int .i64 (d 2), .int .i64 (d 3), .int .i64 (d 4), .int .i64 (d 5), .int .i64 (d 6)] _ D7w Tryz.underlying39 rfl (by kernel_rfl) ?_)
  | (with_reducible refine wpList_buildTo rfl 41 _ rfl _ rfl #[.int .i64 (M.withA (M.Rec.mk p sl 1 0 0 0 0 c 0 0 0 0 0 0 0 0 true) n d true).ir, .int .i64 (M.withA (M.Rec.mk p sl 1 0 0 0 0 c 0 0 0 0 0 0 0 0 true) n d true).is, .int .i64 (M.withA (M.Rec.mk p sl 1 0 0 0 0 c 0 0 0 0 0 0 0 0 true) n d true).st, .int .i64 (M.withA (M.Rec.mk p sl 1 0 0 0 0 c 0 0 0 0 0 0 0 0 true) n d true).pn, .int .i64 (M.withA (M.Rec.mk p sl 1 0 0 0 0 c 0 0 0 0 0 0 0 0 true) n d true).pr, .int .i64 (M.withA (M.Rec.mk p sl 1 0 0 0 0 c 0 0 0 0 0 0 0 0 true) n d true).bn, .int .i64 (M.withA (M.Rec.mk p sl 1 0 0 0 0 c 0 0 0 0 0 0 0 0 true) n d true).br, .int .i64 (M.withA (M.Rec.mk p sl 1 0 0 0 0 c 0 0 0 0 0 0 0 0 true) n d true).c.k, .int .i64 (M.withA (M.Rec.mk p sl 1 0 0 0 0 c 0 0 0 0 0 0 0 0 true) n d true).c.tc, .int .i64 (M.withA (M.Rec.mk p sl 1 0 0 0 0 c 0 0 0 0 0 0 0 0 true) n d true).c.tn, .int .i64 (M.withA (M.Rec.mk p sl 1 0 0 0 0 c 0 0 0 0 0 0 0 0 true) n d true).c.tt, .int .i64 (M.withA (M.Rec.mk p sl 1 0 0 0 0 c 0 0 0 0 0 0 0 0 true) n d true).c.tk, .int .i64 (M.withA (M.Rec.mk p sl 1 0 0 0 0 c 0 0 0 0 0 0 0 0 true) n d true).c.sh, va, vb, .bool (M.withA (M.Rec.mk p sl 1 0 0 0 0 c 0 0 0 0 0 0 0 0 true) n d true).c.cm, .int .i64 (M.withA (M.Rec.mk p sl 1 0 0 0 0 c 0 0 0 0 0 0 0 0 true) n d true).sq, .int .i64 (M.withA (M.Rec.mk p sl 1 0 0 0 0 c 0 0 0 0 0 0 0 0 true) n d true).d0, .int .i64 (M.withA (M.Rec.mk p sl 1 0 0 0 0 c 0 0 0 0 0 0 0 0 true) n d true).d1, .int .i64 (M.withA (M.Rec.mk p sl 1 0 0 0 0 c 0 0 0 0 0 0 0 0 true) n d true).d2, .int .i64 (M.withA (M.Rec.mk p sl 1 0 0 0 0 c 0 0 0 0 0 0 0 0 true) n d true).d3, .int .i64 (M.withA (M.Rec.mk p sl 1 0 0 0 0 c 0 0 0 0 0 0 0 0 true) n d true).d4, .int .i64 (M.withA (M.Rec.mk p sl 1 0 0 0 0 c 0 0 0 0 0 0 0 0 true) n d true).d5, .int .i64 (M.withA (M.Rec.mk p sl 1 0 0 0 0 c 0 0 0 0 0 0 0 0 true) n d true).d6, .bool (M.withA (M.Rec.mk p sl 1 0 0 0 0 c 0 0 0 0 0 0 0 0 true) n d true).kp] (by kernel_rfl) ?_)
  | (with_reducible refine store_hold rfl 41 _ _ rfl (w.heap.size + 1) 0 rfl 41 [.int .i64 (M.withA (M.Rec.mk p sl 1 0 0 0 0 c 0 0 0 0 0 0 0 0 true) n d true).ir, .int .i64 (M.withA (M.Rec.mk p sl 1 0 0 0 0 c 0 0 0 0 0 0 0 0 true) n d true).is, .int .i64 (M.withA (M.Rec.mk p sl 1 0 0 0 0 c 0 0 0 0 0 0 0 0 true) n d true).st, .int .i64 (M.withA (M.Rec.mk p sl 1 0 0 0 0 c 0 0 0 0 0 0 0 0 true) n d true).pn, .int .i64 (M.withA (M.Rec.mk p sl 1 0 0 0 0 c 0 0 0 0 0 0 0 0 true) n d true).pr, .int .i64 (M.withA (M.Rec.mk p sl 1 0 0 0 0 c 0 0 0 0 0 0 0 0 true) n d true).bn, .int .i64 (M.withA (M.Rec.mk p sl 1 0 0 0 0 c 0 0 0 0 0 0 0 0 true) n d true).br, .int .i64 (M.withA (M.Rec.mk p sl 1 0 0 0 0 c 0 0 0 0 0 0 0 0 true) n d true).c.k, .int .i64 (M.withA (M.Rec.mk p sl 1 0 0 0 0 c 0 0 0 0 0 0 0 0 true) n d true).c.tc, .int .i64 (M.withA (M.Rec.mk p sl 1 0 0 0 0 c 0 0 0 0 0 0 0 0 true) n d true).c.tn, .int .i64 (M.withA (M.Rec.mk p sl 1 0 0 0 0 c 0 0 0 0 0 0 0 0 true) n d true).c.tt, .int .i64 (M.withA (M.Rec.mk p sl 1 0 0 0 0 c 0 0 0 0 0 0 0 0 true) n d true).c.tk, .int .i64 (M.withA (M.Rec.mk p sl 1 0 0 0 0 c 0 0 0 0 0 0 0 0 true) n d true).c.sh, va, vb, .bool (M.withA (M.Rec.mk p sl 1 0 0 0 0 c 0 0 0 0 0 0 0 0 true) n d true).c.cm, .int .i64 (M.withA (M.Rec.mk p sl 1 0 0 0 0 c 0 0 0 0 0 0 0 0 true) n d true).sq, .int .i64 (M.withA (M.Rec.mk p sl 1 0 0 0 0 c 0 0 0 0 0 0 0 0 true) n d true).d0, .int .i64 (M.withA (M.Rec.mk p sl 1 0 0 0 0 c 0 0 0 0 0 0 0 0 true) n d true).d1, .int .i64 (M.withA (M.Rec.mk p sl 1 0 0 0 0 c 0 0 0 0 0 0 0 0 true) n d true).d2, .int .i64 (M.withA (M.Rec.mk p sl 1 0 0 0 0 c 0 0 0 0 0 0 0 0 true) n d true).d3, .int .i64 (M.withA (M.Rec.mk p sl 1 0 0 0 0 c 0 0 0 0 0 0 0 0 true) n d true).d4, .int .i64 (M.withA (M.Rec.mk p sl 1 0 0 0 0 c 0 0 0 0 0 0 0 0 true) n d true).d5, .int .i64 (M.withA (M.Rec.mk p sl 1 0 0 0 0 c 0 0 0 0 0 0 0 0 true) n d true).d6, .bool (M.withA (M.Rec.mk p sl 1 0 0 0 0 c 0 0 0 0 0 0 0 0 true) n d true).kp] [.int .i64 0, .int .i64 0, .int .i64 0, .int .i64 0, .int .i64 0, .int .i64 0, .int .i64 0, .int .i64 0, .int .i64 0, .int .i64 0, .int .i64 0, .int .i64 0, .int .i64 0, .slice none 0 0, .slice none 0 0, .bool false, .int .i64 0, .int .i64 0, .int .i64 0, .int .i64 0, .int .i64 0, .int .i64 0, .int .i64 0, .int .i64 0, .bool false] [.int .i64 (M.withA (M.Rec.mk p sl 1 0 0 0 0 c 0 0 0 0 0 0 0 0 true) n d true).ir, .int .i64 (M.withA (M.Rec.mk p sl 1 0 0 0 0 c 0 0 0 0 0 0 0 0 true) n d true).is, .int .i64 (M.withA (M.Rec.mk p sl 1 0 0 0 0 c 0 0 0 0 0 0 0 0 true) n d true).st, .int .i64 (M.withA (M.Rec.mk p sl 1 0 0 0 0 c 0 0 0 0 0 0 0 0 true) n d true).pn, .int .i64 (M.withA (M.Rec.mk p sl 1 0 0 0 0 c 0 0 0 0 0 0 0 0 true) n d true).pr, .int .i64 (M.withA (M.Rec.mk p sl 1 0 0 0 0 c 0 0 0 0 0 0 0 0 true) n d true).bn, .int .i64 (M.withA (M.Rec.mk p sl 1 0 0 0 0 c 0 0 0 0 0 0 0 0 true) n d true).br, .int .i64 (M.withA (M.Rec.mk p sl 1 0 0 0 0 c 0 0 0 0 0 0 0 0 true) n d true).c.k, .int .i64 (M.withA (M.Rec.mk p sl 1 0 0 0 0 c 0 0 0 0 0 0 0 0 true) n d true).c.tc, .int .i64 (M.withA (M.Rec.mk p sl 1 0 0 0 0 c 0 0 0 0 0 0 0 0 true) n d true).c.tn, .int .i64 (M.withA (M.Rec.mk p sl 1 0 0 0 0 c 0 0 0 0 0 0 0 0 true) n d true).c.tt, .int .i64 (M.withA (M.Rec.mk p sl 1 0 0 0 0 c 0 0 0 0 0 0 0 0 true) n d true).c.tk, .int .i64 (M.withA (M.Rec.mk p sl 1 0 0 0 0 c 0 0 0 0 0 0 0 0 true) n d true).c.sh, va, vb, .bool (M.withA (M.Rec.mk p sl 1 0 0 0 0 c 0 0 0 0 0 0 0 0 true) n d true).c.cm, .int .i64 (M.withA (M.Rec.mk p sl 1 0 0 0 0 c 0 0 0 0 0 0 0 0 true) n d true).sq, .int .i64 (M.withA (M.Rec.mk p sl 1 0 0 0 0 c 0 0 0 0 0 0 0 0 true) n d true).d0, .int .i64 (M.withA (M.Rec.mk p sl 1 0 0 0 0 c 0 0 0 0 0 0 0 0 true) n d true).d1, .int .i64 (M.withA (M.Rec.mk p sl 1 0 0 0 0 c 0 0 0 0 0 0 0 0 true) n d true).d2, .int .i64 (M.withA (M.Rec.mk p sl 1 0 0 0 0 c 0 0 0 0 0 0 0 0 true) n d true).d3, .int .i64 (M.withA (M.Rec.mk p sl 1 0 0 0 0 c 0 0 0 0 0 0 0 0 true) n d true).d4, .int .i64 (M.withA (M.Rec.mk p sl 1 0 0 0 0 c 0 0 0 0 0 0 0 0 true) n d true).d5, .int .i64 (M.withA (M.Rec.mk p sl 1 0 0 0 0 c 0 0 0 0 0 0 0 0 true) n d true).d6, .bool (M.withA (M.Rec.mk p sl 1 0 0 0 0 c 0 0 0 0 0 0 0 0 true) n d true).kp] rfl Z7b (by kernel_rfl) (of_decide_eq_true (by kernel_rfl)) (by kernel_rfl) OF ?_; intro w6 H6 K6; have HB6 := Lib.hid (K6.below w.heap.size w (by omega) HB7.out))
  | fail)
  refine bodyPost_ret (results_cv rfl rfl rfl H6.cel.whole _ Tryz.underlying41 rfl (by kernel_rfl)) rfl ?_
  rw [HE.out]
  exact ⟨va, vb, rfl, ⟨HC.out.below HB6.out, HC'.out.below HB6.out⟩, HB6.out⟩
end Go.Proofs.YtpknkhgkejkpkaaGreat
