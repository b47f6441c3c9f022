/- The walk of AcceptOrders; no conditions. -/
import Derived.Test.YtpknkhgkejkpkaaGreatAwk
import Derived.Test.YtpknkhgkejkpkaaGreatSmn
import Derived.Test.YtpknkhgkejkpkaaGreatMor
import Derived.Test.YtpknkhgkejkpkaaGreatNol
import Derived.Test.YtpknkhgkejkpkaaGreatPd
import Derived.Test.YtpknkhgkejkpkaaGreatIfr
import Derived.Test.YtpknkhgkejkpkaaGreatPc
namespace Go.Proofs.YtpknkhgkejkpkaaGreat
open Go.ChangeShapes Go.WideShapes Go.ChangeAt Go.RowKit

attribute [local go_sem ↓] run_same_inst run_same7
section
variable {w : World} {b : Nat} {st : M.Stp} {xa xb ya yb : Value}
theorem lor_rec (h : Hold w b 52 (stc st xa xb ya yb)) : w.rangeAt b 0 [.int .i64 st.r.ir, .int .i64 st.r.is, .int .i64 st.r.st, .int .i64 st.r.pn, .int .i64 st.r.pr, .int .i64 st.r.bn, .int .i64 st.r.br, .int .i64 st.r.c.k, .int .i64 st.r.c.tc, .int .i64 st.r.c.tn, .int .i64 st.r.c.tt, .int .i64 st.r.c.tk, .int .i64 st.r.c.sh, xa, xb, .bool st.r.c.cm, .int .i64 st.r.sq, .int .i64 st.r.d0, .int .i64 st.r.d1, .int .i64 st.r.d2, .int .i64 st.r.d3, .int .i64 st.r.d4, .int .i64 st.r.d5, .int .i64 st.r.d6, .bool st.r.kp] := hold_range h 0 _ (fun j v hj => by rw [Nat.zero_add]; revert hj; match j with
    | 0 | 1 | 2 | 3 | 4 | 5 | 6 | 7 | 8 | 9 | 10 | 11 | 12 | 13 | 14 | 15 | 16 | 17 | 18 | 19 | 20 | 21 | 22 | 23 | 24 => exact fun hj => hj
    | _ + 25 => intro hj; cases hj)
theorem lor_cmd (h : Hold w b 52 (stc st xa xb ya yb)) : w.rangeAt b 7 [.int .i64 st.r.c.k, .int .i64 st.r.c.tc, .int .i64 st.r.c.tn, .int .i64 st.r.c.tt, .int .i64 st.r.c.tk, .int .i64 st.r.c.sh, xa, xb, .bool st.r.c.cm] := hold_range h 7 _ (fun j v hj => by revert hj; match j with
    | 0 | 1 | 2 | 3 | 4 | 5 | 6 | 7 | 8 => exact fun hj => hj
    | _ + 9 => intro hj; cases hj)
theorem stc_deps (h : Hold w b 52 (stc st xa xb ya yb)) : w.rangeAt b 17 [.int .i64 st.r.d0, .int .i64 st.r.d1, .int .i64 st.r.d2, .int .i64 st.r.d3, .int .i64 st.r.d4, .int .i64 st.r.d5, .int .i64 st.r.d6] := hold_range h 17 _ (fun j v hj => by revert hj; match j with
    | 0 | 1 | 2 | 3 | 4 | 5 | 6 => exact fun hj => hj
    | _ + 7 => intro hj; cases hj)
theorem stc_dep (h : Hold w b 52 (stc st xa xb ya yb)) : ∀ i, i < 7 → w.cell? ⟨b, 17 + i, none⟩ = some (.int .i64 (M.dep st.r i))
  | 0, _ => hold_cell h 17 rfl
  | 1, _ => hold_cell h 18 rfl
  | 2, _ => hold_cell h 19 rfl
  | 3, _ => hold_cell h 20 rfl
  | 4, _ => hold_cell h 21 rfl
  | 5, _ => hold_cell h 22 rfl
  | 6, _ => hold_cell h 23 rfl
  | _ + 7, h => by omega
end
theorem msg_deps {w : World} {b : Nat} {m : M.Msg} {va vb : Value} (h : Hold w b 49 [.int .i64 m.k, .int .i64 m.fr, .int .i64 m.to, .int .i64 m.bn, .int .i64 m.br, .int .i64 m.r.ir, .int .i64 m.r.is, .int .i64 m.r.st, .int .i64 m.r.pn, .int .i64 m.r.pr, .int .i64 m.r.bn, .int .i64 m.r.br, .int .i64 m.r.c.k, .int .i64 m.r.c.tc, .int .i64 m.r.c.tn, .int .i64 m.r.c.tt, .int .i64 m.r.c.tk, .int .i64 m.r.c.sh, va, vb, .bool m.r.c.cm, .int .i64 m.r.sq, .int .i64 m.r.d0, .int .i64 m.r.d1, .int .i64 m.r.d2, .int .i64 m.r.d3, .int .i64 m.r.d4, .int .i64 m.r.d5, .int .i64 m.r.d6, .bool m.r.kp]) : w.rangeAt b 22 [.int .i64 m.r.d0, .int .i64 m.r.d1, .int .i64 m.r.d2, .int .i64 m.r.d3, .int .i64 m.r.d4, .int .i64 m.r.d5, .int .i64 m.r.d6] := hold_range h 22 _ (fun j v hj => by revert hj; match j with
    | 0 | 1 | 2 | 3 | 4 | 5 | 6 => exact fun hj => hj
    | _ + 7 => intro hj; cases hj)
set_option maxHeartbeats 16000000 in
set_option maxRecDepth 100000 in
theorem orders_law (p : Int) (m : M.Msg) (w : World) {v va vb : Value} {X : List Rv} (h : Rows w v X) (_hq : Sqs X) (hm : Txt w ⟨m.r, va, vb⟩) :
    Calls Tryz.prog 6 #[v, .int .i64 p, .agg #[.int .i64 m.k, .int .i64 m.fr, .int .i64 m.to, .int .i64 m.bn, .int .i64 m.br, .int .i64 m.r.ir, .int .i64 m.r.is, .int .i64 m.r.st, .int .i64 m.r.pn, .int .i64 m.r.pr, .int .i64 m.r.bn, .int .i64 m.r.br, .int .i64 m.r.c.k, .int .i64 m.r.c.tc, .int .i64 m.r.c.tn, .int .i64 m.r.c.tt, .int .i64 m.r.c.tk, .int .i64 m.r.c.sh, va, vb, .bool m.r.c.cm, .int .i64 m.r.sq, .int .i64 m.r.d0, .int .i64 m.r.d1, .int .i64 m.r.d2, .int .i64 m.r.d3, .int .i64 m.r.d4, .int .i64 m.r.d5, .int .i64 m.r.d6, .bool m.r.kp]] w fun e w' => e = .returned (.bool true) ∧ Below w.heap.size w w' := by
  obtain ⟨A, cc, rfl⟩ := rowN_sliceOf h.row
  have H0 := Lib.hid (show Hold (w.alloc (.cells #[.int .i64 m.k, .int .i64 m.fr, .int .i64 m.to, .int .i64 m.bn, .int .i64 m.br, .int .i64 m.r.ir, .int .i64 m.r.is, .int .i64 m.r.st, .int .i64 m.r.pn, .int .i64 m.r.pr, .int .i64 m.r.bn, .int .i64 m.r.br, .int .i64 m.r.c.k, .int .i64 m.r.c.tc, .int .i64 m.r.c.tn, .int .i64 m.r.c.tt, .int .i64 m.r.c.tk, .int .i64 m.r.c.sh, va, vb, .bool m.r.c.cm, .int .i64 m.r.sq, .int .i64 m.r.d0, .int .i64 m.r.d1, .int .i64 m.r.d2, .int .i64 m.r.d3, .int .i64 m.r.d4, .int .i64 m.r.d5, .int .i64 m.r.d6, .bool m.r.kp] 49)) w.heap.size 49 [.int .i64 m.k, .int .i64 m.fr, .int .i64 m.to, .int .i64 m.bn, .int .i64 m.br, .int .i64 m.r.ir, .int .i64 m.r.is, .int .i64 m.r.st, .int .i64 m.r.pn, .int .i64 m.r.pr, .int .i64 m.r.bn, .int .i64 m.r.br, .int .i64 m.r.c.k, .int .i64 m.r.c.tc, .int .i64 m.r.c.tn, .int .i64 m.r.c.tt, .int .i64 m.r.c.tk, .int .i64 m.r.c.sh, va, vb, .bool m.r.c.cm, .int .i64 m.r.sq, .int .i64 m.r.d0, .int .i64 m.r.d1, .int .i64 m.r.d2, .int .i64 m.r.d3, .int .i64 m.r.d4, .int .i64 m.r.d5, .int .i64 m.r.d6, .bool m.r.kp] from Hold.new w [.int .i64 m.k, .int .i64 m.fr, .int .i64 m.to, .int .i64 m.bn, .int .i64 m.br, .int .i64 m.r.ir, .int .i64 m.r.is, .int .i64 m.r.st, .int .i64 m.r.pn, .int .i64 m.r.pr, .int .i64 m.r.bn, .int .i64 m.r.br, .int .i64 m.r.c.k, .int .i64 m.r.c.tc, .int .i64 m.r.c.tn, .int .i64 m.r.c.tt, .int .i64 m.r.c.tk, .int .i64 m.r.c.sh, va, vb, .bool m.r.c.cm, .int .i64 m.r.sq, .int .i64 m.r.d0, .int .i64 m.r.d1, .int .i64 m.r.d2, .int .i64 m.r.d3, .int .i64 m.r.d4, .int .i64 m.r.d5, .int .i64 m.r.d6, .bool m.r.kp] 49)
  have HB := Lib.hid (show Below w.heap.size w (w.alloc (.cells #[.int .i64 m.k, .int .i64 m.fr, .int .i64 m.to, .int .i64 m.bn, .int .i64 m.br, .int .i64 m.r.ir, .int .i64 m.r.is, .int .i64 m.r.st, .int .i64 m.r.pn, .int .i64 m.r.pr, .int .i64 m.r.bn, .int .i64 m.r.br, .int .i64 m.r.c.k, .int .i64 m.r.c.tc, .int .i64 m.r.c.tn, .int .i64 m.r.c.tt, .int .i64 m.r.c.tk, .int .i64 m.r.c.sh, va, vb, .bool m.r.c.cm, .int .i64 m.r.sq, .int .i64 m.r.d0, .int .i64 m.r.d1, .int .i64 m.r.d2, .int .i64 m.r.d3, .int .i64 m.r.d4, .int .i64 m.r.d5, .int .i64 m.r.d6, .bool m.r.kp] 49)) from below_new (Below.refl _ _))
  have HX := Lib.hid (h.below HB.out)
  have HM := Lib.hid (hm.below HB.out)
  have HF := few12_any HX.out m HM.out
  clear h _hq hm
  rcases hf : (fewX X && M.modB m.r.c) with _ | _
  · rw [hf] at HF
    have HFW := Lib.hid HF
    clear HF hf
    go_enter Tryz.func6, Tryz.ntmps6
    go_wp2_with (first
    | (with_reducible refine wpList_load_mid rfl 49 _ rfl w.heap.size 0 rfl [.int .i64 m.k, .int .i64 m.fr, .int .i64 m.to, .int .i64 m.bn, .int .i64 m.br, .int .i64 m.r.ir, .int .i64 m.r.is, .int .i64 m.r.st, .int .i64 m.r.pn, .int .i64 m.r.pr, .int .i64 m.r.bn, .int .i64 m.r.br, .int .i64 m.r.c.k, .int .i64 m.r.c.tc, .int .i64 m.r.c.tn, .int .i64 m.r.c.tt, .int .i64 m.r.c.tk, .int .i64 m.r.c.sh, va, vb, .bool m.r.c.cm, .int .i64 m.r.sq, .int .i64 m.r.d0, .int .i64 m.r.d1, .int .i64 m.r.d2, .int .i64 m.r.d3, .int .i64 m.r.d4, .int .i64 m.r.d5, .int .i64 m.r.d6, .bool m.r.kp] _ H0.out.cel.whole Tryz.underlying49 rfl (by kernel_rfl) ?_)
    | (go_at_call 16
       refine HFW.out.mono ?_
       rintro e w1 ⟨rfl, hb⟩
       have HB1 := Lib.hid (below_on HB.out hb)
       have HX1 := Lib.hid (HX.out.below hb)
       have HM1 := Lib.hid (HM.out.below hb)
       have M1 := Lib.hid (H0.out.on hb)
       clear hb)
    | (go_at_call 10
       refine (awake_any _).mono ?_
       rintro e wz ⟨rfl, hb⟩
       have HBZ := Lib.hid (below_on HB1.out hb)
       clear hb)
    | fail)
    go_ret
    exact ⟨rfl, HBZ.out⟩
  rw [hf] at HF
  have HFW := Lib.hid HF
  obtain ⟨hf1, hf2⟩ := (Bool.and_eq_true _ _).mp hf
  have hX := fewX_mod hf1
  have hl : X.length ≤ 1000 := Nat.le_trans (fewX_len hf1) (by decide)
  have F := M.modB_iff.1 hf2
  clear HF hf hf1 hf2
  rcases hr : rightsX X with _ | _
  · have HRX := Lib.hid hr
    clear hr
    go_enter Tryz.func6, Tryz.ntmps6
    go_wp2_with (first
    | (with_reducible refine wpList_load_mid rfl 49 _ rfl w.heap.size 0 rfl [.int .i64 m.k, .int .i64 m.fr, .int .i64 m.to, .int .i64 m.bn, .int .i64 m.br, .int .i64 m.r.ir, .int .i64 m.r.is, .int .i64 m.r.st, .int .i64 m.r.pn, .int .i64 m.r.pr, .int .i64 m.r.bn, .int .i64 m.r.br, .int .i64 m.r.c.k, .int .i64 m.r.c.tc, .int .i64 m.r.c.tn, .int .i64 m.r.c.tt, .int .i64 m.r.c.tk, .int .i64 m.r.c.sh, va, vb, .bool m.r.c.cm, .int .i64 m.r.sq, .int .i64 m.r.d0, .int .i64 m.r.d1, .int .i64 m.r.d2, .int .i64 m.r.d3, .int .i64 m.r.d4, .int .i64 m.r.d5, .int .i64 m.r.d6, .bool m.r.kp] _ H0.out.cel.whole Tryz.underlying49 rfl (by kernel_rfl) ?_)
    | (go_at_call 16
       refine HFW.out.mono ?_
       rintro e w1 ⟨rfl, hb⟩
       have HB1 := Lib.hid (below_on HB.out hb)
       have HX1 := Lib.hid (HX.out.below hb)
       have HM1 := Lib.hid (HM.out.below hb)
       have M1 := Lib.hid (H0.out.on hb)
       clear hb)
    | (go_at_call 17
       refine (rightsX_any HX1.out hX hl).mono ?_
       rintro e w2 ⟨rfl, hb⟩
       rw [HRX.out]
       have HB2 := Lib.hid (below_on HB1.out hb)
       have HX2 := Lib.hid (HX1.out.below hb)
       have HM2 := Lib.hid (HM1.out.below hb)
       have M2 := Lib.hid (M1.out.on hb)
       have M2w := M2.out.cel.whole
       have mk2 : w2.cell? ⟨w.heap.size, 0, none⟩ = some (.int .i64 m.k) := hold_cell M2.out 0 rfl
       clear hb)
    | (go_at_call 10
       refine (awake_any _).mono ?_
       rintro e wz ⟨rfl, hb⟩
       have HBZ := Lib.hid (below_on HB2.out hb)
       clear hb)
    | fail)
    go_ret
    exact ⟨rfl, HBZ.out⟩
  have HRX := Lib.hid hr
  have R := rights_of hr
  clear hr
  by_cases h1 : m.k = 1
  rotate_left
  · obtain ⟨g1, g2⟩ := neI h1
    clear h1 R
    go_enter Tryz.func6, Tryz.ntmps6
    go_wp2_with (first
    | (with_reducible refine wpList_load_mid rfl 49 _ rfl w.heap.size 0 rfl [.int .i64 m.k, .int .i64 m.fr, .int .i64 m.to, .int .i64 m.bn, .int .i64 m.br, .int .i64 m.r.ir, .int .i64 m.r.is, .int .i64 m.r.st, .int .i64 m.r.pn, .int .i64 m.r.pr, .int .i64 m.r.bn, .int .i64 m.r.br, .int .i64 m.r.c.k, .int .i64 m.r.c.tc, .int .i64 m.r.c.tn, .int .i64 m.r.c.tt, .int .i64 m.r.c.tk, .int .i64 m.r.c.sh, va, vb, .bool m.r.c.cm, .int .i64 m.r.sq, .int .i64 m.r.d0, .int .i64 m.r.d1, .int .i64 m.r.d2, .int .i64 m.r.d3, .int .i64 m.r.d4, .int .i64 m.r.d5, .int .i64 m.r.d6, .bool m.r.kp] _ H0.out.cel.whole Tryz.underlying49 rfl (by kernel_rfl) ?_)
    | (go_at_call 16
       refine HFW.out.mono ?_
       rintro e w1 ⟨rfl, hb⟩
       have HB1 := Lib.hid (below_on HB.out hb)
       have HX1 := Lib.hid (HX.out.below hb)
       have HM1 := Lib.hid (HM.out.below hb)
       have M1 := Lib.hid (H0.out.on hb)
       clear hb)
    | (go_at_call 17
       refine (rightsX_any HX1.out hX hl).mono ?_
       rintro e w2 ⟨rfl, hb⟩
       rw [HRX.out]
       have HB2 := Lib.hid (below_on HB1.out hb)
       have HX2 := Lib.hid (HX1.out.below hb)
       have HM2 := Lib.hid (HM1.out.below hb)
       have M2 := Lib.hid (M1.out.on hb)
       have M2w := M2.out.cel.whole
       have mk2 : w2.cell? ⟨w.heap.size, 0, none⟩ = some (.int .i64 m.k) := hold_cell M2.out 0 rfl
       clear hb)
    | (go_at_call 10
       refine (awake_any _).mono ?_
       rintro e wz ⟨rfl, hb⟩
       have HBZ := Lib.hid (below_on HB2.out hb)
       clear hb)
    | fail)
    go_ret
    exact ⟨rfl, HBZ.out⟩
  obtain ⟨g1, g2⟩ := eqI h1
  obtain ⟨s, hs⟩ : ∃ s, s = M.handle X p m := ⟨_, rfl⟩
  obtain ⟨st, er⟩ := s
  have hs1 : (M.handle X p m).1 = st := by rw [← hs]
  have hs2 : (M.handle X p m).2 = er := by rw [← hs]
  have HS := Lib.hid hs
  clear hs
  by_cases he : er = 0
  rotate_left
  · obtain ⟨q1, q2⟩ := neI he
    clear hs1 hs2 he R h1
    go_enter Tryz.func6, Tryz.ntmps6
    go_wp2_with (first
    | (with_reducible refine wpList_load_mid rfl 49 _ rfl w.heap.size 0 rfl [.int .i64 m.k, .int .i64 m.fr, .int .i64 m.to, .int .i64 m.bn, .int .i64 m.br, .int .i64 m.r.ir, .int .i64 m.r.is, .int .i64 m.r.st, .int .i64 m.r.pn, .int .i64 m.r.pr, .int .i64 m.r.bn, .int .i64 m.r.br, .int .i64 m.r.c.k, .int .i64 m.r.c.tc, .int .i64 m.r.c.tn, .int .i64 m.r.c.tt, .int .i64 m.r.c.tk, .int .i64 m.r.c.sh, va, vb, .bool m.r.c.cm, .int .i64 m.r.sq, .int .i64 m.r.d0, .int .i64 m.r.d1, .int .i64 m.r.d2, .int .i64 m.r.d3, .int .i64 m.r.d4, .int .i64 m.r.d5, .int .i64 m.r.d6, .bool m.r.kp] _ H0.out.cel.whole Tryz.underlying49 rfl (by kernel_rfl) ?_)
    | (go_at_call 16
       refine HFW.out.mono ?_
       rintro e w1 ⟨rfl, hb⟩
       have HB1 := Lib.hid (below_on HB.out hb)
       have HX1 := Lib.hid (HX.out.below hb)
       have HM1 := Lib.hid (HM.out.below hb)
       have M1 := Lib.hid (H0.out.on hb)
       clear hb)
    | (go_at_call 17
       refine (rightsX_any HX1.out hX hl).mono ?_
       rintro e w2 ⟨rfl, hb⟩
       rw [HRX.out]
       have HB2 := Lib.hid (below_on HB1.out hb)
       have HX2 := Lib.hid (HX1.out.below hb)
       have HM2 := Lib.hid (HM1.out.below hb)
       have M2 := Lib.hid (M1.out.on hb)
       have M2w := M2.out.cel.whole
       have mk2 : w2.cell? ⟨w.heap.size, 0, none⟩ = some (.int .i64 m.k) := hold_cell M2.out 0 rfl
       clear hb)
    | (with_reducible refine wpList_load_mid rfl 49 _ rfl w.heap.size 0 rfl [.int .i64 m.k, .int .i64 m.fr, .int .i64 m.to, .int .i64 m.bn, .int .i64 m.br, .int .i64 m.r.ir, .int .i64 m.r.is, .int .i64 m.r.st, .int .i64 m.r.pn, .int .i64 m.r.pr, .int .i64 m.r.bn, .int .i64 m.r.br, .int .i64 m.r.c.k, .int .i64 m.r.c.tc, .int .i64 m.r.c.tn, .int .i64 m.r.c.tt, .int .i64 m.r.c.tk, .int .i64 m.r.c.sh, va, vb, .bool m.r.c.cm, .int .i64 m.r.sq, .int .i64 m.r.d0, .int .i64 m.r.d1, .int .i64 m.r.d2, .int .i64 m.r.d3, .int .i64 m.r.d4, .int .i64 m.r.d5, .int .i64 m.r.d6, .bool m.r.kp] _ M2w Tryz.underlying49 rfl (by kernel_rfl) ?_)
    | (go_at_call 18
       have HA := handle_any HX2.out hl hX p m HM2.out F
       rw [← HS.out] at HA
       refine HA.mono ?_
       clear HA
       rintro e w3 ⟨xa, xb, ya, yb, rfl, t1, t2, hb⟩
       have HB3 := Lib.hid (below_on HB2.out hb)
       have HX3 := Lib.hid (HX2.out.below hb)
       have M3 := Lib.hid (M2.out.on hb)
       have T1 := Lib.hid t1
       have o5 : (stc st xa xb ya yb).all (·.oneCell') = true := stc_one (rds_one t1.rs) (wrs_one t1.ws) (rds_one t2.rs) (wrs_one t2.ws)
       clear hb t1 t2)
    | (with_reducible refine store_freshA rfl 52 _ _ rfl w3.heap.size rfl 52 _ (stc st xa xb ya yb) rfl rfl rfl (stc_size _ _ _ _ _) o5 ?_
       intro w4 S4 b4
       have HB4 := Lib.hid (below_on HB3.out b4)
       have HX4 := Lib.hid (HX3.out.below b4)
       have M4 := Lib.hid (M3.out.on b4)
       have T4 := Lib.hid (T1.out.below b4)
       have KS4 := Lib.hid S4
       have sn4 : w4.cell? ⟨w3.heap.size, 25, none⟩ = some (.bool st.new) := hold_cell S4 25 rfl
       clear b4 S4)
    | (go_at_call 10
       refine (awake_any _).mono ?_
       rintro e wz ⟨rfl, hb⟩
       have HBZ := Lib.hid (below_on HB4.out hb)
       clear hb)
    | fail)
    go_ret
    exact ⟨rfl, HBZ.out⟩
  obtain ⟨q1, q2⟩ := eqI he
  rcases hn : st.new with _ | _
  · clear hs1 hs2 he R h1
    go_enter Tryz.func6, Tryz.ntmps6
    go_wp2_with (first
    | (with_reducible refine wpList_load_mid rfl 49 _ rfl w.heap.size 0 rfl [.int .i64 m.k, .int .i64 m.fr, .int .i64 m.to, .int .i64 m.bn, .int .i64 m.br, .int .i64 m.r.ir, .int .i64 m.r.is, .int .i64 m.r.st, .int .i64 m.r.pn, .int .i64 m.r.pr, .int .i64 m.r.bn, .int .i64 m.r.br, .int .i64 m.r.c.k, .int .i64 m.r.c.tc, .int .i64 m.r.c.tn, .int .i64 m.r.c.tt, .int .i64 m.r.c.tk, .int .i64 m.r.c.sh, va, vb, .bool m.r.c.cm, .int .i64 m.r.sq, .int .i64 m.r.d0, .int .i64 m.r.d1, .int .i64 m.r.d2, .int .i64 m.r.d3, .int .i64 m.r.d4, .int .i64 m.r.d5, .int .i64 m.r.d6, .bool m.r.kp] _ H0.out.cel.whole Tryz.underlying49 rfl (by kernel_rfl) ?_)
    | (go_at_call 16
       refine HFW.out.mono ?_
       rintro e w1 ⟨rfl, hb⟩
       have HB1 := Lib.hid (below_on HB.out hb)
       have HX1 := Lib.hid (HX.out.below hb)
       have HM1 := Lib.hid (HM.out.below hb)
       have M1 := Lib.hid (H0.out.on hb)
       clear hb)
    | (go_at_call 17
       refine (rightsX_any HX1.out hX hl).mono ?_
       rintro e w2 ⟨rfl, hb⟩
       rw [HRX.out]
       have HB2 := Lib.hid (below_on HB1.out hb)
       have HX2 := Lib.hid (HX1.out.below hb)
       have HM2 := Lib.hid (HM1.out.below hb)
       have M2 := Lib.hid (M1.out.on hb)
       have M2w := M2.out.cel.whole
       have mk2 : w2.cell? ⟨w.heap.size, 0, none⟩ = some (.int .i64 m.k) := hold_cell M2.out 0 rfl
       clear hb)
    | (with_reducible refine wpList_load_mid rfl 49 _ rfl w.heap.size 0 rfl [.int .i64 m.k, .int .i64 m.fr, .int .i64 m.to, .int .i64 m.bn, .int .i64 m.br, .int .i64 m.r.ir, .int .i64 m.r.is, .int .i64 m.r.st, .int .i64 m.r.pn, .int .i64 m.r.pr, .int .i64 m.r.bn, .int .i64 m.r.br, .int .i64 m.r.c.k, .int .i64 m.r.c.tc, .int .i64 m.r.c.tn, .int .i64 m.r.c.tt, .int .i64 m.r.c.tk, .int .i64 m.r.c.sh, va, vb, .bool m.r.c.cm, .int .i64 m.r.sq, .int .i64 m.r.d0, .int .i64 m.r.d1, .int .i64 m.r.d2, .int .i64 m.r.d3, .int .i64 m.r.d4, .int .i64 m.r.d5, .int .i64 m.r.d6, .bool m.r.kp] _ M2w Tryz.underlying49 rfl (by kernel_rfl) ?_)
    | (go_at_call 18
       have HA := handle_any HX2.out hl hX p m HM2.out F
       rw [← HS.out] at HA
       refine HA.mono ?_
       clear HA
       rintro e w3 ⟨xa, xb, ya, yb, rfl, t1, t2, hb⟩
       have HB3 := Lib.hid (below_on HB2.out hb)
       have HX3 := Lib.hid (HX2.out.below hb)
       have M3 := Lib.hid (M2.out.on hb)
       have T1 := Lib.hid t1
       have o5 : (stc st xa xb ya yb).all (·.oneCell') = true := stc_one (rds_one t1.rs) (wrs_one t1.ws) (rds_one t2.rs) (wrs_one t2.ws)
       clear hb t1 t2)
    | (with_reducible refine store_freshA rfl 52 _ _ rfl w3.heap.size rfl 52 _ (stc st xa xb ya yb) rfl rfl rfl (stc_size _ _ _ _ _) o5 ?_
       intro w4 S4 b4
       have HB4 := Lib.hid (below_on HB3.out b4)
       have HX4 := Lib.hid (HX3.out.below b4)
       have M4 := Lib.hid (M3.out.on b4)
       have T4 := Lib.hid (T1.out.below b4)
       have KS4 := Lib.hid S4
       have sn4 : w4.cell? ⟨w3.heap.size, 25, none⟩ = some (.bool st.new) := hold_cell S4 25 rfl
       clear b4 S4)
    | (go_at_call 10
       refine (awake_any _).mono ?_
       rintro e wz ⟨rfl, hb⟩
       have HBZ := Lib.hid (below_on HB4.out hb)
       clear hb)
    | fail)
    go_ret
    exact ⟨rfl, HBZ.out⟩
  have K := M.handle_kept (self := p) (m := m) R (by rw [hs2]; exact he)
  rw [hs1] at K
  have HRR := Lib.hid (K.new hn).2.2.2.2
  have hcm := M.handle_cmd M.Mod M.zero_mod (self := p) hX F
  rw [hs1] at hcm
  have HMD := Lib.hid hcm.1
  have hp := (M.handle_pre (self := p) h1 (by rw [hs1]; exact hn)).1
  rw [hs1] at hp
  have hdep : ∀ i, i < 7 → M.dep st.r i = atD X (m.r.ir, m.r.is) m.r.c (M.dep m.r) i := fun i hi => by
    rw [hp, M.dep_withP]; unfold preR; rw [dep_withA _ _ _ _ i hi]; rfl
  have hsc : st.r.c = m.r.c := by rw [hp]; rfl
  have hsi : st.r.ir = m.r.ir := by rw [hp]; rfl
  have hss : st.r.is = m.r.is := by rw [hp]; rfl
  have HKP := Lib.hid (show st.r.kp = (decide (st.r.sq = m.r.sq) && V7.same7 st.r.d0 st.r.d1 st.r.d2 st.r.d3 st.r.d4 st.r.d5 st.r.d6 m.r.d0 m.r.d1 m.r.d2 m.r.d3 m.r.d4 m.r.d5 m.r.d6) by rw [hp]; rfl)
  have HDP := Lib.hid (show ∀ (k : Nat) (x : Rv), X[k]? = some x → lastB (keysOf X) k = true → M.eq2 x.r.ir x.r.is st.r.ir st.r.is = false → x.r.st ≠ 0 → M.interB x.r.c st.r.c = true → x.r.is ≤ M.dep st.r x.r.ir.toNat from fun k x hx h1 h2 h3 h4 => by
    have hxm : x ∈ X := List.mem_of_getElem? hx
    have hi := (M.pairB_iff.1 (M.rightR_iff.1 (R x hxm)).inst).1
    rw [hdep _ (by omega)]
    rw [hsi, hss] at h2
    rw [hsc] at h4
    exact at_dep (m.r.ir, m.r.is) m.r.c _ hx h1 h2 h3 h4 (R x hxm))
  have HRT := Lib.hid (show ∀ x ∈ X, 0 ≤ x.r.ir ∧ x.r.ir ≤ 6 from fun x hx => (M.pairB_iff.1 (M.rightR_iff.1 (R x hx)).inst).1)
  clear hs1 hs2 he h1 K hcm hp hdep hsc hsi hss R
  go_enter Tryz.func6, Tryz.ntmps6
  go_wp2_with (first
  | (with_reducible refine wpList_load_mid rfl 49 _ rfl w.heap.size 0 rfl [.int .i64 m.k, .int .i64 m.fr, .int .i64 m.to, .int .i64 m.bn, .int .i64 m.br, .int .i64 m.r.ir, .int .i64 m.r.is, .int .i64 m.r.st, .int .i64 m.r.pn, .int .i64 m.r.pr, .int .i64 m.r.bn, .int .i64 m.r.br, .int .i64 m.r.c.k, .int .i64 m.r.c.tc, .int .i64 m.r.c.tn, .int .i64 m.r.c.tt, .int .i64 m.r.c.tk, .int .i64 m.r.c.sh, va, vb, .bool m.r.c.cm, .int .i64 m.r.sq, .int .i64 m.r.d0, .int .i64 m.r.d1, .int .i64 m.r.d2, .int .i64 m.r.d3, .int .i64 m.r.d4, .int .i64 m.r.d5, .int .i64 m.r.d6, .bool m.r.kp] _ H0.out.cel.whole Tryz.underlying49 rfl (by kernel_rfl) ?_)
  | (go_at_call 16
     refine HFW.out.mono ?_
     rintro e w1 ⟨rfl, hb⟩
     have HB1 := Lib.hid (below_on HB.out hb)
     have HX1 := Lib.hid (HX.out.below hb)
     have HM1 := Lib.hid (HM.out.below hb)
     have M1 := Lib.hid (H0.out.on hb)
     clear hb)
  | (go_at_call 17
     refine (rightsX_any HX1.out hX hl).mono ?_
     rintro e w2 ⟨rfl, hb⟩
     rw [HRX.out]
     have HB2 := Lib.hid (below_on HB1.out hb)
     have HX2 := Lib.hid (HX1.out.below hb)
     have HM2 := Lib.hid (HM1.out.below hb)
     have M2 := Lib.hid (M1.out.on hb)
     have M2w := M2.out.cel.whole
     have mk2 : w2.cell? ⟨w.heap.size, 0, none⟩ = some (.int .i64 m.k) := hold_cell M2.out 0 rfl
     clear hb)
  | (with_reducible refine wpList_load_mid rfl 49 _ rfl w.heap.size 0 rfl [.int .i64 m.k, .int .i64 m.fr, .int .i64 m.to, .int .i64 m.bn, .int .i64 m.br, .int .i64 m.r.ir, .int .i64 m.r.is, .int .i64 m.r.st, .int .i64 m.r.pn, .int .i64 m.r.pr, .int .i64 m.r.bn, .int .i64 m.r.br, .int .i64 m.r.c.k, .int .i64 m.r.c.tc, .int .i64 m.r.c.tn, .int .i64 m.r.c.tt, .int .i64 m.r.c.tk, .int .i64 m.r.c.sh, va, vb, .bool m.r.c.cm, .int .i64 m.r.sq, .int .i64 m.r.d0, .int .i64 m.r.d1, .int .i64 m.r.d2, .int .i64 m.r.d3, .int .i64 m.r.d4, .int .i64 m.r.d5, .int .i64 m.r.d6, .bool m.r.kp] _ M2w Tryz.underlying49 rfl (by kernel_rfl) ?_)
  | (go_at_call 18
     have HA := handle_any HX2.out hl hX p m HM2.out F
     rw [← HS.out] at HA
     refine HA.mono ?_
     clear HA
     rintro e w3 ⟨xa, xb, ya, yb, rfl, t1, t2, hb⟩
     have HB3 := Lib.hid (below_on HB2.out hb)
     have HX3 := Lib.hid (HX2.out.below hb)
     have M3 := Lib.hid (M2.out.on hb)
     have T1 := Lib.hid t1
     have o5 : (stc st xa xb ya yb).all (·.oneCell') = true := stc_one (rds_one t1.rs) (wrs_one t1.ws) (rds_one t2.rs) (wrs_one t2.ws)
     clear hb t1 t2)
  | (with_reducible refine store_freshA rfl 52 _ _ rfl w3.heap.size rfl 52 _ (stc st xa xb ya yb) rfl rfl rfl (stc_size _ _ _ _ _) o5 ?_
     intro w4 S4 b4
     have HB4 := Lib.hid (below_on HB3.out b4)
     have HX4 := Lib.hid (HX3.out.below b4)
     have M4 := Lib.hid (M3.out.on b4)
     have T4 := Lib.hid (T1.out.below b4)
     have KS4 := Lib.hid S4
     have sn4 : w4.cell? ⟨w3.heap.size, 25, none⟩ = some (.bool st.new) := hold_cell S4 25 rfl
     clear b4 S4)
  | fail)
  go_loopw [46] (fun i wr => ∃ k : Nat, i = .int .i64 k ∧ k ≤ X.length ∧ Hid (Below w4.heap.size w4 wr)) (fun i _ => X.length - (intOf i).toNat)
  case atStart => exact ⟨0, rfl, Nat.zero_le _, Lib.hid (Below.refl _ _)⟩
  case round =>
    obtain ⟨k, rfl, hk, HW⟩ := hrel
    obtain ⟨wq, hwq⟩ : ∃ wq, wq = wr := ⟨_, rfl⟩
    subst hwq
    by_cases hlt : k < X.length
    rotate_left
    · obtain rfl : k = X.length := by omega
      go_wp2
      by_cases hsq : st.r.sq = m.r.sq
      · rcases h7 : V7.same7 st.r.d0 st.r.d1 st.r.d2 st.r.d3 st.r.d4 st.r.d5 st.r.d6 m.r.d0 m.r.d1 m.r.d2 m.r.d3 m.r.d4 m.r.d5 m.r.d6 with _ | _
        · have HKQ := Lib.hid (show st.r.kp = false by rw [HKP.out, h7, Bool.and_false])
          obtain ⟨s1, s2⟩ := eqI hsq
          clear hsq
          have hbd : Below wq.heap.size wq wq.drew := (Below.refl _ _).drew
          have KSD := Lib.hid ((KS4.out.on HW.out).on hbd)
          have KMD := Lib.hid ((M4.out.on HW.out).on hbd)
          have HBD := Lib.hid (below_on HW.out hbd)
          clear hbd
          refine wp_region_held_drew (S := fun w' => w'.cell? ⟨w3.heap.size, 24, none⟩ = some (.bool false) ∧ w'.cell? ⟨w3.heap.size, 16, none⟩ = some (.int .i64 st.r.sq) ∧ w'.rangeAt w3.heap.size 17 [.int .i64 st.r.d0, .int .i64 st.r.d1, .int .i64 st.r.d2, .int .i64 st.r.d3, .int .i64 st.r.d4, .int .i64 st.r.d5, .int .i64 st.r.d6] ∧ w'.rangeAt w3.heap.size 0 [.int .i64 st.r.ir, .int .i64 st.r.is, .int .i64 st.r.st, .int .i64 st.r.pn, .int .i64 st.r.pr, .int .i64 st.r.bn, .int .i64 st.r.br, .int .i64 st.r.c.k, .int .i64 st.r.c.tc, .int .i64 st.r.c.tn, .int .i64 st.r.c.tt, .int .i64 st.r.c.tk, .int .i64 st.r.c.sh, xa, xb, .bool st.r.c.cm, .int .i64 st.r.sq, .int .i64 st.r.d0, .int .i64 st.r.d1, .int .i64 st.r.d2, .int .i64 st.r.d3, .int .i64 st.r.d4, .int .i64 st.r.d5, .int .i64 st.r.d6, .bool st.r.kp] ∧ w'.cell? ⟨w.heap.size, 21, none⟩ = some (.int .i64 m.r.sq) ∧ w'.rangeAt w.heap.size 22 [.int .i64 m.r.d0, .int .i64 m.r.d1, .int .i64 m.r.d2, .int .i64 m.r.d3, .int .i64 m.r.d4, .int .i64 m.r.d5, .int .i64 m.r.d6]) (by kernel_rfl) (by exact ⟨(hold_cell KSD.out 24 rfl).trans (by rw [HKQ.out]), hold_cell KSD.out 16 rfl, stc_deps KSD.out, lor_rec KSD.out, hold_cell KMD.out 21 rfl, msg_deps KMD.out⟩) (fun hHeld => ?_)
          refine wpAnyH_take (i := 0) (oi := ⟨some 105, .fieldAddr 52 (.tmp 7) 0, 0, _, _, none⟩) (v := ?_) rfl (by kernel_rfl) (by kernel_rfl) (by kernel_rfl) (fun _ _ _ h => h) (Or.inl ⟨by rfl, ?_⟩) (by assumption) ?_
          rotate_left
          · (intro w hSw; (try dsimp only at hSw); go_split_ands; go_simp; (try with_reducible rfl))
          (try simp only [Act.put]); (try simp only [List.setIfInBounds_toArray]); (try simp only [List.set_cons_succ]); (try simp only [List.set_cons_zero])
          refine wpAnyH_take (i := 1) (oi := ⟨some 106, .fieldAddr 41 (.tmp 105) 7, 0, _, _, none⟩) (v := ?_) rfl (by kernel_rfl) (by kernel_rfl) (by kernel_rfl) (fun _ _ _ h => h) (Or.inl ⟨by rfl, ?_⟩) (by assumption) ?_
          rotate_left
          · (intro w hSw; (try dsimp only at hSw); go_split_ands; go_simp; (try with_reducible rfl))
          (try simp only [Act.put]); (try simp only [List.setIfInBounds_toArray]); (try simp only [List.set_cons_succ]); (try simp only [List.set_cons_zero])
          refine wpAnyH_take (i := 2) (oi := ⟨some 107, .load 4 (.tmp 106), 4, _, _, none⟩) (v := ?_) rfl (by kernel_rfl) (by kernel_rfl) (by kernel_rfl) (fun _ _ _ h => h) (Or.inl ⟨by rfl, ?_⟩) (by assumption) ?_
          rotate_left
          · (intro w hSw; (try dsimp only at hSw); go_split_ands; go_simp; (try with_reducible rfl))
          (try simp only [Act.put]); (try simp only [List.setIfInBounds_toArray]); (try simp only [List.set_cons_succ]); (try simp only [List.set_cons_zero])
          refine wpAnyH_take (i := 3) (oi := ⟨some 108, .fieldAddr 52 (.tmp 7) 0, 0, _, _, none⟩) (v := ?_) rfl (by kernel_rfl) (by kernel_rfl) (by kernel_rfl) (fun _ _ _ h => h) (Or.inl ⟨by rfl, ?_⟩) (by assumption) ?_
          rotate_left
          · (intro w hSw; (try dsimp only at hSw); go_split_ands; go_simp; (try with_reducible rfl))
          (try simp only [Act.put]); (try simp only [List.setIfInBounds_toArray]); (try simp only [List.set_cons_succ]); (try simp only [List.set_cons_zero])
          refine wpAnyH_take (i := 4) (oi := ⟨some 109, .fieldAddr 41 (.tmp 108) 5, 0, _, _, none⟩) (v := ?_) rfl (by kernel_rfl) (by kernel_rfl) (by kernel_rfl) (fun _ _ _ h => h) (Or.inl ⟨by rfl, ?_⟩) (by assumption) ?_
          rotate_left
          · (intro w hSw; (try dsimp only at hSw); go_split_ands; go_simp; (try with_reducible rfl))
          (try simp only [Act.put]); (try simp only [List.setIfInBounds_toArray]); (try simp only [List.set_cons_succ]); (try simp only [List.set_cons_zero])
          refine wpAnyH_take (i := 5) (oi := ⟨some 110, .load 3 (.tmp 109), 3, _, _, none⟩) (v := ?_) rfl (by kernel_rfl) (by kernel_rfl) (by kernel_rfl) (fun _ _ _ h => h) (Or.inl ⟨by rfl, ?_⟩) (by assumption) ?_
          rotate_left
          · (intro w hSw; (try dsimp only at hSw); go_split_ands; go_simp; (try with_reducible rfl))
          (try simp only [Act.put]); (try simp only [List.setIfInBounds_toArray]); (try simp only [List.set_cons_succ]); (try simp only [List.set_cons_zero])
          refine wpAnyH_take (i := 6) (oi := ⟨some 111, .fieldAddr 49 (.tmp 5) 4, 0, _, _, none⟩) (v := ?_) rfl (by kernel_rfl) (by kernel_rfl) (by kernel_rfl) (fun _ _ _ h => h) (Or.inl ⟨by rfl, ?_⟩) (by assumption) ?_
          rotate_left
          · (intro w hSw; (try dsimp only at hSw); go_split_ands; go_simp; (try with_reducible rfl))
          (try simp only [Act.put]); (try simp only [List.setIfInBounds_toArray]); (try simp only [List.set_cons_succ]); (try simp only [List.set_cons_zero])
          refine wpAnyH_take (i := 7) (oi := ⟨some 112, .fieldAddr 41 (.tmp 111) 5, 0, _, _, none⟩) (v := ?_) rfl (by kernel_rfl) (by kernel_rfl) (by kernel_rfl) (fun _ _ _ h => h) (Or.inl ⟨by rfl, ?_⟩) (by assumption) ?_
          rotate_left
          · (intro w hSw; (try dsimp only at hSw); go_split_ands; go_simp; (try with_reducible rfl))
          (try simp only [Act.put]); (try simp only [List.setIfInBounds_toArray]); (try simp only [List.set_cons_succ]); (try simp only [List.set_cons_zero])
          refine wpAnyH_take (i := 8) (oi := ⟨some 113, .load 3 (.tmp 112), 3, _, _, none⟩) (v := ?_) rfl (by kernel_rfl) (by kernel_rfl) (by kernel_rfl) (fun _ _ _ h => h) (Or.inl ⟨by rfl, ?_⟩) (by assumption) ?_
          rotate_left
          · (intro w hSw; (try dsimp only at hSw); go_split_ands; go_simp; (try with_reducible rfl))
          (try simp only [Act.put]); (try simp only [List.setIfInBounds_toArray]); (try simp only [List.set_cons_succ]); (try simp only [List.set_cons_zero])
          refine wpAnyH_take (i := 9) (oi := ⟨some 114, .binOp .eql 3 (.tmp 110) (.tmp 113) 3, 4, _, _, none⟩) (v := ?_) rfl (by kernel_rfl) (by kernel_rfl) (by kernel_rfl) (fun _ _ _ h => h) (Or.inl ⟨by rfl, ?_⟩) (by assumption) ?_
          rotate_left
          · (intro w hSw; (try dsimp only at hSw); go_split_ands; go_simp; (try with_reducible rfl))
          (try simp only [Act.put]); (try simp only [List.setIfInBounds_toArray]); (try simp only [List.set_cons_succ]); (try simp only [List.set_cons_zero])
          refine wpAnyH_take (i := 10) (oi := ⟨some 115, .move (.tmp 114), 4, _, _, none⟩) (v := ?_) rfl (by kernel_rfl) (by kernel_rfl) (by kernel_rfl) (fun _ _ _ h => h) (Or.inl ⟨by rfl, ?_⟩) (by assumption) ?_
          rotate_left
          · (intro w hSw; (try dsimp only at hSw); go_split_ands; go_simp; (try with_reducible rfl))
          (try simp only [Act.put]); (try simp only [List.setIfInBounds_toArray]); (try simp only [List.set_cons_succ]); (try simp only [List.set_cons_zero])
          refine wpAnyH_take (i := 11) (oi := ⟨some 116, .fieldAddr 52 (.tmp 7) 0, 0, _, _, some (10, true)⟩) (v := ?_) rfl (by kernel_rfl) (by kernel_rfl) (by kernel_rfl) (fun _ _ _ h => h) (Or.inl ⟨by rfl, ?_⟩) (by assumption) ?_
          rotate_left
          · (intro w hSw; (try dsimp only at hSw); go_split_ands; go_simp; (try with_reducible rfl))
          (try simp only [Act.put]); (try simp only [List.setIfInBounds_toArray]); (try simp only [List.set_cons_succ]); (try simp only [List.set_cons_zero])
          refine wpAnyH_take (i := 12) (oi := ⟨some 117, .fieldAddr 41 (.tmp 116) 6, 0, _, _, some (10, true)⟩) (v := ?_) rfl (by kernel_rfl) (by kernel_rfl) (by kernel_rfl) (fun _ _ _ h => h) (Or.inl ⟨by rfl, ?_⟩) (by assumption) ?_
          rotate_left
          · (intro w hSw; (try dsimp only at hSw); go_split_ands; go_simp; (try with_reducible rfl))
          (try simp only [Act.put]); (try simp only [List.setIfInBounds_toArray]); (try simp only [List.set_cons_succ]); (try simp only [List.set_cons_zero])
          refine wpAnyH_take (i := 13) (oi := ⟨some 118, .load 39 (.tmp 117), 39, _, _, some (10, true)⟩) (v := .agg ([.int .i64 st.r.d0, .int .i64 st.r.d1, .int .i64 st.r.d2, .int .i64 st.r.d3, .int .i64 st.r.d4, .int .i64 st.r.d5, .int .i64 st.r.d6] : List Value).toArray) rfl (by kernel_rfl) (by kernel_rfl) (by kernel_rfl) (fun _ _ _ h => h) (yieldsIf_load_mid (by rfl) 39 _ rfl w3.heap.size 17 rfl [.int .i64 st.r.d0, .int .i64 st.r.d1, .int .i64 st.r.d2, .int .i64 st.r.d3, .int .i64 st.r.d4, .int .i64 st.r.d5, .int .i64 st.r.d6] _ (fun w hSw => hSw.2.2.1) Tryz.underlying39 rfl (by kernel_rfl)) (by assumption) ?_
          (try simp only [Act.put]); (try simp only [List.setIfInBounds_toArray]); (try simp only [List.set_cons_succ]); (try simp only [List.set_cons_zero])
          refine wpAnyH_take (i := 14) (oi := ⟨some 119, .fieldAddr 49 (.tmp 5) 4, 0, _, _, some (10, true)⟩) (v := ?_) rfl (by kernel_rfl) (by kernel_rfl) (by kernel_rfl) (fun _ _ _ h => h) (Or.inl ⟨by rfl, ?_⟩) (by assumption) ?_
          rotate_left
          · (intro w hSw; (try dsimp only at hSw); go_split_ands; go_simp; (try with_reducible rfl))
          (try simp only [Act.put]); (try simp only [List.setIfInBounds_toArray]); (try simp only [List.set_cons_succ]); (try simp only [List.set_cons_zero])
          refine wpAnyH_take (i := 15) (oi := ⟨some 120, .fieldAddr 41 (.tmp 119) 6, 0, _, _, some (10, true)⟩) (v := ?_) rfl (by kernel_rfl) (by kernel_rfl) (by kernel_rfl) (fun _ _ _ h => h) (Or.inl ⟨by rfl, ?_⟩) (by assumption) ?_
          rotate_left
          · (intro w hSw; (try dsimp only at hSw); go_split_ands; go_simp; (try with_reducible rfl))
          (try simp only [Act.put]); (try simp only [List.setIfInBounds_toArray]); (try simp only [List.set_cons_succ]); (try simp only [List.set_cons_zero])
          refine wpAnyH_take (i := 16) (oi := ⟨some 121, .load 39 (.tmp 120), 39, _, _, some (10, true)⟩) (v := .agg ([.int .i64 m.r.d0, .int .i64 m.r.d1, .int .i64 m.r.d2, .int .i64 m.r.d3, .int .i64 m.r.d4, .int .i64 m.r.d5, .int .i64 m.r.d6] : List Value).toArray) rfl (by kernel_rfl) (by kernel_rfl) (by kernel_rfl) (fun _ _ _ h => h) (yieldsIf_load_mid (by rfl) 39 _ rfl w.heap.size 22 rfl [.int .i64 m.r.d0, .int .i64 m.r.d1, .int .i64 m.r.d2, .int .i64 m.r.d3, .int .i64 m.r.d4, .int .i64 m.r.d5, .int .i64 m.r.d6] _ (fun w hSw => hSw.2.2.2.2.2) Tryz.underlying39 rfl (by kernel_rfl)) (by assumption) ?_
          (try simp only [Act.put]); (try simp only [List.setIfInBounds_toArray]); (try simp only [List.set_cons_succ]); (try simp only [List.set_cons_zero])
          refine wpAnyH_take (i := 17) (oi := ⟨some 122, .binOp .eql 39 (.tmp 118) (.tmp 121) 39, 4, _, _, some (10, true)⟩) (v := ?_) rfl (by kernel_rfl) (by kernel_rfl) (by kernel_rfl) (fun _ _ _ h => h) (Or.inl ⟨by rfl, ?_⟩) (by assumption) ?_
          rotate_left
          · (intro w hSw; (try dsimp only at hSw); go_split_ands; go_simp; (try with_reducible rfl))
          (try simp only [Act.put]); (try simp only [List.setIfInBounds_toArray]); (try simp only [List.set_cons_succ]); (try simp only [List.set_cons_zero])
          refine wpAnyH_take (i := 18) (oi := ⟨some 123, .pick (.tmp 115) (.tmp 122) (.const (.bool false)), 4, _, _, none⟩) (v := ?_) rfl (by kernel_rfl) (by kernel_rfl) (by kernel_rfl) (fun _ _ _ h => h) (Or.inl ⟨by rfl, ?_⟩) (by assumption) ?_
          rotate_left
          · (intro w hSw; (try dsimp only at hSw); go_split_ands; go_simp; (try with_reducible rfl))
          (try simp only [Act.put]); (try simp only [List.setIfInBounds_toArray]); (try simp only [List.set_cons_succ]); (try simp only [List.set_cons_zero])
          refine wpAnyH_take (i := 19) (oi := ⟨some 124, .binOp .eql 4 (.tmp 107) (.tmp 123) 4, 4, _, _, none⟩) (v := ?_) rfl (by kernel_rfl) (by kernel_rfl) (by kernel_rfl) (fun _ _ _ h => h) (Or.inl ⟨by rfl, ?_⟩) (by assumption) ?_
          rotate_left
          · (intro w hSw; (try dsimp only at hSw); go_split_ands; go_simp; (try with_reducible rfl))
          (try simp only [Act.put]); (try simp only [List.setIfInBounds_toArray]); (try simp only [List.set_cons_succ]); (try simp only [List.set_cons_zero])
          refine wpAnyH_take (i := 20) (oi := ⟨some 125, .move (.tmp 124), 4, _, _, none⟩) (v := ?_) rfl (by kernel_rfl) (by kernel_rfl) (by kernel_rfl) (fun _ _ _ h => h) (Or.inl ⟨by rfl, ?_⟩) (by assumption) ?_
          rotate_left
          · (intro w hSw; (try dsimp only at hSw); go_split_ands; go_simp; (try with_reducible rfl))
          (try simp only [Act.put]); (try simp only [List.setIfInBounds_toArray]); (try simp only [List.set_cons_succ]); (try simp only [List.set_cons_zero])
          refine wpAnyH_take (i := 21) (oi := ⟨some 126, .fieldAddr 52 (.tmp 7) 0, 0, _, _, some (20, true)⟩) (v := ?_) rfl (by kernel_rfl) (by kernel_rfl) (by kernel_rfl) (fun _ _ _ h => h) (Or.inl ⟨by rfl, ?_⟩) (by assumption) ?_
          rotate_left
          · (intro w hSw; (try dsimp only at hSw); go_split_ands; go_simp; (try with_reducible rfl))
          (try simp only [Act.put]); (try simp only [List.setIfInBounds_toArray]); (try simp only [List.set_cons_succ]); (try simp only [List.set_cons_zero])
          refine wpAnyH_take (i := 22) (oi := ⟨some 127, .load 41 (.tmp 126), 41, _, _, some (20, true)⟩) (v := .agg ([.int .i64 st.r.ir, .int .i64 st.r.is, .int .i64 st.r.st, .int .i64 st.r.pn, .int .i64 st.r.pr, .int .i64 st.r.bn, .int .i64 st.r.br, .int .i64 st.r.c.k, .int .i64 st.r.c.tc, .int .i64 st.r.c.tn, .int .i64 st.r.c.tt, .int .i64 st.r.c.tk, .int .i64 st.r.c.sh, xa, xb, .bool st.r.c.cm, .int .i64 st.r.sq, .int .i64 st.r.d0, .int .i64 st.r.d1, .int .i64 st.r.d2, .int .i64 st.r.d3, .int .i64 st.r.d4, .int .i64 st.r.d5, .int .i64 st.r.d6, .bool st.r.kp] : List Value).toArray) rfl (by kernel_rfl) (by kernel_rfl) (by kernel_rfl) (fun _ _ _ h => h) (yieldsIf_load_mid (by rfl) 41 _ rfl w3.heap.size 0 rfl [.int .i64 st.r.ir, .int .i64 st.r.is, .int .i64 st.r.st, .int .i64 st.r.pn, .int .i64 st.r.pr, .int .i64 st.r.bn, .int .i64 st.r.br, .int .i64 st.r.c.k, .int .i64 st.r.c.tc, .int .i64 st.r.c.tn, .int .i64 st.r.c.tt, .int .i64 st.r.c.tk, .int .i64 st.r.c.sh, xa, xb, .bool st.r.c.cm, .int .i64 st.r.sq, .int .i64 st.r.d0, .int .i64 st.r.d1, .int .i64 st.r.d2, .int .i64 st.r.d3, .int .i64 st.r.d4, .int .i64 st.r.d5, .int .i64 st.r.d6, .bool st.r.kp] _ (fun w hSw => hSw.2.2.2.1) Tryz.underlying41 rfl (by kernel_rfl)) (by assumption) ?_
          (try simp only [Act.put]); (try simp only [List.setIfInBounds_toArray]); (try simp only [List.set_cons_succ]); (try simp only [List.set_cons_zero])
          refine wpAnyH_ready (rs := [23]) (by kernel_rfl) (by simp) ?_
          refine AllReadyH.cons (o := ⟨some 128, .call { callee := .value (.func 25), args := #[.tmp 127], argTypes := #[41] }, 4, _, _, some (20, true)⟩) rfl (fun K hK => ?_) AllReadyH.nil
          try go_simp
          have TZ := T4.out.below HBD.out
          refine (right_rec st.r TZ.rs TZ.ws HMD.out.l HMD.out.l').mono ?_
          clear TZ
          rintro e wa ⟨rfl, hb⟩
          rw [HRR.out]
          have KSA := Lib.hid (KSD.out.on hb)
          have KMA := Lib.hid (KMD.out.on hb)
          have HBA := Lib.hid (below_on HBD.out hb)
          clear hb
          try go_simp
          refine hK.out _ _ (by exact ⟨(hold_cell KSA.out 24 rfl).trans (by rw [HKQ.out]), hold_cell KSA.out 16 rfl, stc_deps KSA.out, lor_rec KSA.out, hold_cell KMA.out 21 rfl, msg_deps KMA.out⟩) (fun hHeld => ?_)
          clear hK K
          (try simp only [Act.put]); (try simp only [List.setIfInBounds_toArray]); (try simp only [List.set_cons_succ]); (try simp only [List.set_cons_zero])
          refine wpAnyH_take (i := 24) (oi := ⟨some 129, .pick (.tmp 125) (.tmp 128) (.const (.bool false)), 4, _, _, none⟩) (v := ?_) rfl (by kernel_rfl) (by kernel_rfl) (by kernel_rfl) (fun _ _ _ h => h) (Or.inl ⟨by rfl, ?_⟩) (by assumption) ?_
          rotate_left
          · (intro w hSw; (try dsimp only at hSw); go_split_ands; go_simp; (try with_reducible rfl))
          (try simp only [Act.put]); (try simp only [List.setIfInBounds_toArray]); (try simp only [List.set_cons_succ]); (try simp only [List.set_cons_zero])
          refine wpAnyH_take (i := 25) (oi := ⟨some 130, .move (.tmp 129), 4, _, _, none⟩) (v := ?_) rfl (by kernel_rfl) (by kernel_rfl) (by kernel_rfl) (fun _ _ _ h => h) (Or.inl ⟨by rfl, ?_⟩) (by assumption) ?_
          rotate_left
          · (intro w hSw; (try dsimp only at hSw); go_split_ands; go_simp; (try with_reducible rfl))
          (try simp only [Act.put]); (try simp only [List.setIfInBounds_toArray]); (try simp only [List.set_cons_succ]); (try simp only [List.set_cons_zero])
          refine wpAnyH_ready (rs := [26]) (by kernel_rfl) (by simp) ?_
          refine AllReadyH.cons (o := ⟨some 131, .call { callee := .value (.func 10), args := #[], argTypes := #[] }, 4, _, _, some (25, true)⟩) rfl (fun K hK => ?_) AllReadyH.nil
          try go_simp
          refine (awake_any _).mono ?_
          rintro e wb ⟨rfl, hb⟩
          have KSB := Lib.hid (KSA.out.on hb)
          have KMB := Lib.hid (KMA.out.on hb)
          have HBB := Lib.hid (below_on HBA.out hb)
          clear hb
          try go_simp
          refine hK.out _ _ (by exact ⟨(hold_cell KSB.out 24 rfl).trans (by rw [HKQ.out]), hold_cell KSB.out 16 rfl, stc_deps KSB.out, lor_rec KSB.out, hold_cell KMB.out 21 rfl, msg_deps KMB.out⟩) (fun hHeld => ?_)
          clear hK K
          (try simp only [Act.put]); (try simp only [List.setIfInBounds_toArray]); (try simp only [List.set_cons_succ]); (try simp only [List.set_cons_zero])
          refine wpAnyH_take (i := 27) (oi := ⟨some 132, .pick (.tmp 130) (.tmp 131) (.const (.bool false)), 4, _, _, none⟩) (v := ?_) rfl (by kernel_rfl) (by kernel_rfl) (by kernel_rfl) (fun _ _ _ h => h) (Or.inl ⟨by rfl, ?_⟩) (by assumption) ?_
          rotate_left
          · (intro w hSw; (try dsimp only at hSw); go_split_ands; go_simp; (try with_reducible rfl))
          (try simp only [Act.put]); (try simp only [List.setIfInBounds_toArray]); (try simp only [List.set_cons_succ]); (try simp only [List.set_cons_zero])
          refine wpAnyH_take (i := 28) (oi := ⟨some 6, .assign (.tmp 132), 4, _, _, none⟩) (v := ?_) rfl (by kernel_rfl) (by kernel_rfl) (by kernel_rfl) (fun _ _ _ h => h) (Or.inl ⟨by rfl, ?_⟩) (by assumption) ?_
          rotate_left
          · (intro w hSw; (try dsimp only at hSw); go_split_ands; go_simp; (try with_reducible rfl))
          (try simp only [Act.put]); (try simp only [List.setIfInBounds_toArray]); (try simp only [List.set_cons_succ]); (try simp only [List.set_cons_zero])
          refine wpAnyH_done (by kernel_rfl) ?_ _
          clear hHeld
          go_wp2
          go_ret
          exact ⟨rfl, below_on HB4.out HBB.out⟩
        · have HKQ := Lib.hid (show st.r.kp = true by rw [HKP.out, h7, decide_eq_true hsq]; rfl)
          obtain ⟨s1, s2⟩ := eqI hsq
          clear hsq
          have hbd : Below wq.heap.size wq wq.drew := (Below.refl _ _).drew
          have KSD := Lib.hid ((KS4.out.on HW.out).on hbd)
          have KMD := Lib.hid ((M4.out.on HW.out).on hbd)
          have HBD := Lib.hid (below_on HW.out hbd)
          clear hbd
          refine wp_region_held_drew (S := fun w' => w'.cell? ⟨w3.heap.size, 24, none⟩ = some (.bool true) ∧ w'.cell? ⟨w3.heap.size, 16, none⟩ = some (.int .i64 st.r.sq) ∧ w'.rangeAt w3.heap.size 17 [.int .i64 st.r.d0, .int .i64 st.r.d1, .int .i64 st.r.d2, .int .i64 st.r.d3, .int .i64 st.r.d4, .int .i64 st.r.d5, .int .i64 st.r.d6] ∧ w'.rangeAt w3.heap.size 0 [.int .i64 st.r.ir, .int .i64 st.r.is, .int .i64 st.r.st, .int .i64 st.r.pn, .int .i64 st.r.pr, .int .i64 st.r.bn, .int .i64 st.r.br, .int .i64 st.r.c.k, .int .i64 st.r.c.tc, .int .i64 st.r.c.tn, .int .i64 st.r.c.tt, .int .i64 st.r.c.tk, .int .i64 st.r.c.sh, xa, xb, .bool st.r.c.cm, .int .i64 st.r.sq, .int .i64 st.r.d0, .int .i64 st.r.d1, .int .i64 st.r.d2, .int .i64 st.r.d3, .int .i64 st.r.d4, .int .i64 st.r.d5, .int .i64 st.r.d6, .bool st.r.kp] ∧ w'.cell? ⟨w.heap.size, 21, none⟩ = some (.int .i64 m.r.sq) ∧ w'.rangeAt w.heap.size 22 [.int .i64 m.r.d0, .int .i64 m.r.d1, .int .i64 m.r.d2, .int .i64 m.r.d3, .int .i64 m.r.d4, .int .i64 m.r.d5, .int .i64 m.r.d6]) (by kernel_rfl) (by exact ⟨(hold_cell KSD.out 24 rfl).trans (by rw [HKQ.out]), hold_cell KSD.out 16 rfl, stc_deps KSD.out, lor_rec KSD.out, hold_cell KMD.out 21 rfl, msg_deps KMD.out⟩) (fun hHeld => ?_)
          refine wpAnyH_take (i := 0) (oi := ⟨some 105, .fieldAddr 52 (.tmp 7) 0, 0, _, _, none⟩) (v := ?_) rfl (by kernel_rfl) (by kernel_rfl) (by kernel_rfl) (fun _ _ _ h => h) (Or.inl ⟨by rfl, ?_⟩) (by assumption) ?_
          rotate_left
          · (intro w hSw; (try dsimp only at hSw); go_split_ands; go_simp; (try with_reducible rfl))
          (try simp only [Act.put]); (try simp only [List.setIfInBounds_toArray]); (try simp only [List.set_cons_succ]); (try simp only [List.set_cons_zero])
          refine wpAnyH_take (i := 1) (oi := ⟨some 106, .fieldAddr 41 (.tmp 105) 7, 0, _, _, none⟩) (v := ?_) rfl (by kernel_rfl) (by kernel_rfl) (by kernel_rfl) (fun _ _ _ h => h) (Or.inl ⟨by rfl, ?_⟩) (by assumption) ?_
          rotate_left
          · (intro w hSw; (try dsimp only at hSw); go_split_ands; go_simp; (try with_reducible rfl))
          (try simp only [Act.put]); (try simp only [List.setIfInBounds_toArray]); (try simp only [List.set_cons_succ]); (try simp only [List.set_cons_zero])
          refine wpAnyH_take (i := 2) (oi := ⟨some 107, .load 4 (.tmp 106), 4, _, _, none⟩) (v := ?_) rfl (by kernel_rfl) (by kernel_rfl) (by kernel_rfl) (fun _ _ _ h => h) (Or.inl ⟨by rfl, ?_⟩) (by assumption) ?_
          rotate_left
          · (intro w hSw; (try dsimp only at hSw); go_split_ands; go_simp; (try with_reducible rfl))
          (try simp only [Act.put]); (try simp only [List.setIfInBounds_toArray]); (try simp only [List.set_cons_succ]); (try simp only [List.set_cons_zero])
          refine wpAnyH_take (i := 3) (oi := ⟨some 108, .fieldAddr 52 (.tmp 7) 0, 0, _, _, none⟩) (v := ?_) rfl (by kernel_rfl) (by kernel_rfl) (by kernel_rfl) (fun _ _ _ h => h) (Or.inl ⟨by rfl, ?_⟩) (by assumption) ?_
          rotate_left
          · (intro w hSw; (try dsimp only at hSw); go_split_ands; go_simp; (try with_reducible rfl))
          (try simp only [Act.put]); (try simp only [List.setIfInBounds_toArray]); (try simp only [List.set_cons_succ]); (try simp only [List.set_cons_zero])
          refine wpAnyH_take (i := 4) (oi := ⟨some 109, .fieldAddr 41 (.tmp 108) 5, 0, _, _, none⟩) (v := ?_) rfl (by kernel_rfl) (by kernel_rfl) (by kernel_rfl) (fun _ _ _ h => h) (Or.inl ⟨by rfl, ?_⟩) (by assumption) ?_
          rotate_left
          · (intro w hSw; (try dsimp only at hSw); go_split_ands; go_simp; (try with_reducible rfl))
          (try simp only [Act.put]); (try simp only [List.setIfInBounds_toArray]); (try simp only [List.set_cons_succ]); (try simp only [List.set_cons_zero])
          refine wpAnyH_take (i := 5) (oi := ⟨some 110, .load 3 (.tmp 109), 3, _, _, none⟩) (v := ?_) rfl (by kernel_rfl) (by kernel_rfl) (by kernel_rfl) (fun _ _ _ h => h) (Or.inl ⟨by rfl, ?_⟩) (by assumption) ?_
          rotate_left
          · (intro w hSw; (try dsimp only at hSw); go_split_ands; go_simp; (try with_reducible rfl))
          (try simp only [Act.put]); (try simp only [List.setIfInBounds_toArray]); (try simp only [List.set_cons_succ]); (try simp only [List.set_cons_zero])
          refine wpAnyH_take (i := 6) (oi := ⟨some 111, .fieldAddr 49 (.tmp 5) 4, 0, _, _, none⟩) (v := ?_) rfl (by kernel_rfl) (by kernel_rfl) (by kernel_rfl) (fun _ _ _ h => h) (Or.inl ⟨by rfl, ?_⟩) (by assumption) ?_
          rotate_left
          · (intro w hSw; (try dsimp only at hSw); go_split_ands; go_simp; (try with_reducible rfl))
          (try simp only [Act.put]); (try simp only [List.setIfInBounds_toArray]); (try simp only [List.set_cons_succ]); (try simp only [List.set_cons_zero])
          refine wpAnyH_take (i := 7) (oi := ⟨some 112, .fieldAddr 41 (.tmp 111) 5, 0, _, _, none⟩) (v := ?_) rfl (by kernel_rfl) (by kernel_rfl) (by kernel_rfl) (fun _ _ _ h => h) (Or.inl ⟨by rfl, ?_⟩) (by assumption) ?_
          rotate_left
          · (intro w hSw; (try dsimp only at hSw); go_split_ands; go_simp; (try with_reducible rfl))
          (try simp only [Act.put]); (try simp only [List.setIfInBounds_toArray]); (try simp only [List.set_cons_succ]); (try simp only [List.set_cons_zero])
          refine wpAnyH_take (i := 8) (oi := ⟨some 113, .load 3 (.tmp 112), 3, _, _, none⟩) (v := ?_) rfl (by kernel_rfl) (by kernel_rfl) (by kernel_rfl) (fun _ _ _ h => h) (Or.inl ⟨by rfl, ?_⟩) (by assumption) ?_
          rotate_left
          · (intro w hSw; (try dsimp only at hSw); go_split_ands; go_simp; (try with_reducible rfl))
          (try simp only [Act.put]); (try simp only [List.setIfInBounds_toArray]); (try simp only [List.set_cons_succ]); (try simp only [List.set_cons_zero])
          refine wpAnyH_take (i := 9) (oi := ⟨some 114, .binOp .eql 3 (.tmp 110) (.tmp 113) 3, 4, _, _, none⟩) (v := ?_) rfl (by kernel_rfl) (by kernel_rfl) (by kernel_rfl) (fun _ _ _ h => h) (Or.inl ⟨by rfl, ?_⟩) (by assumption) ?_
          rotate_left
          · (intro w hSw; (try dsimp only at hSw); go_split_ands; go_simp; (try with_reducible rfl))
          (try simp only [Act.put]); (try simp only [List.setIfInBounds_toArray]); (try simp only [List.set_cons_succ]); (try simp only [List.set_cons_zero])
          refine wpAnyH_take (i := 10) (oi := ⟨some 115, .move (.tmp 114), 4, _, _, none⟩) (v := ?_) rfl (by kernel_rfl) (by kernel_rfl) (by kernel_rfl) (fun _ _ _ h => h) (Or.inl ⟨by rfl, ?_⟩) (by assumption) ?_
          rotate_left
          · (intro w hSw; (try dsimp only at hSw); go_split_ands; go_simp; (try with_reducible rfl))
          (try simp only [Act.put]); (try simp only [List.setIfInBounds_toArray]); (try simp only [List.set_cons_succ]); (try simp only [List.set_cons_zero])
          refine wpAnyH_take (i := 11) (oi := ⟨some 116, .fieldAddr 52 (.tmp 7) 0, 0, _, _, some (10, true)⟩) (v := ?_) rfl (by kernel_rfl) (by kernel_rfl) (by kernel_rfl) (fun _ _ _ h => h) (Or.inl ⟨by rfl, ?_⟩) (by assumption) ?_
          rotate_left
          · (intro w hSw; (try dsimp only at hSw); go_split_ands; go_simp; (try with_reducible rfl))
          (try simp only [Act.put]); (try simp only [List.setIfInBounds_toArray]); (try simp only [List.set_cons_succ]); (try simp only [List.set_cons_zero])
          refine wpAnyH_take (i := 12) (oi := ⟨some 117, .fieldAddr 41 (.tmp 116) 6, 0, _, _, some (10, true)⟩) (v := ?_) rfl (by kernel_rfl) (by kernel_rfl) (by kernel_rfl) (fun _ _ _ h => h) (Or.inl ⟨by rfl, ?_⟩) (by assumption) ?_
          rotate_left
          · (intro w hSw; (try dsimp only at hSw); go_split_ands; go_simp; (try with_reducible rfl))
          (try simp only [Act.put]); (try simp only [List.setIfInBounds_toArray]); (try simp only [List.set_cons_succ]); (try simp only [List.set_cons_zero])
          refine wpAnyH_take (i := 13) (oi := ⟨some 118, .load 39 (.tmp 117), 39, _, _, some (10, true)⟩) (v := .agg ([.int .i64 st.r.d0, .int .i64 st.r.d1, .int .i64 st.r.d2, .int .i64 st.r.d3, .int .i64 st.r.d4, .int .i64 st.r.d5, .int .i64 st.r.d6] : List Value).toArray) rfl (by kernel_rfl) (by kernel_rfl) (by kernel_rfl) (fun _ _ _ h => h) (yieldsIf_load_mid (by rfl) 39 _ rfl w3.heap.size 17 rfl [.int .i64 st.r.d0, .int .i64 st.r.d1, .int .i64 st.r.d2, .int .i64 st.r.d3, .int .i64 st.r.d4, .int .i64 st.r.d5, .int .i64 st.r.d6] _ (fun w hSw => hSw.2.2.1) Tryz.underlying39 rfl (by kernel_rfl)) (by assumption) ?_
          (try simp only [Act.put]); (try simp only [List.setIfInBounds_toArray]); (try simp only [List.set_cons_succ]); (try simp only [List.set_cons_zero])
          refine wpAnyH_take (i := 14) (oi := ⟨some 119, .fieldAddr 49 (.tmp 5) 4, 0, _, _, some (10, true)⟩) (v := ?_) rfl (by kernel_rfl) (by kernel_rfl) (by kernel_rfl) (fun _ _ _ h => h) (Or.inl ⟨by rfl, ?_⟩) (by assumption) ?_
          rotate_left
          · (intro w hSw; (try dsimp only at hSw); go_split_ands; go_simp; (try with_reducible rfl))
          (try simp only [Act.put]); (try simp only [List.setIfInBounds_toArray]); (try simp only [List.set_cons_succ]); (try simp only [List.set_cons_zero])
          refine wpAnyH_take (i := 15) (oi := ⟨some 120, .fieldAddr 41 (.tmp 119) 6, 0, _, _, some (10, true)⟩) (v := ?_) rfl (by kernel_rfl) (by kernel_rfl) (by kernel_rfl) (fun _ _ _ h => h) (Or.inl ⟨by rfl, ?_⟩) (by assumption) ?_
          rotate_left
          · (intro w hSw; (try dsimp only at hSw); go_split_ands; go_simp; (try with_reducible rfl))
          (try simp only [Act.put]); (try simp only [List.setIfInBounds_toArray]); (try simp only [List.set_cons_succ]); (try simp only [List.set_cons_zero])
          refine wpAnyH_take (i := 16) (oi := ⟨some 121, .load 39 (.tmp 120), 39, _, _, some (10, true)⟩) (v := .agg ([.int .i64 m.r.d0, .int .i64 m.r.d1, .int .i64 m.r.d2, .int .i64 m.r.d3, .int .i64 m.r.d4, .int .i64 m.r.d5, .int .i64 m.r.d6] : List Value).toArray) rfl (by kernel_rfl) (by kernel_rfl) (by kernel_rfl) (fun _ _ _ h => h) (yieldsIf_load_mid (by rfl) 39 _ rfl w.heap.size 22 rfl [.int .i64 m.r.d0, .int .i64 m.r.d1, .int .i64 m.r.d2, .int .i64 m.r.d3, .int .i64 m.r.d4, .int .i64 m.r.d5, .int .i64 m.r.d6] _ (fun w hSw => hSw.2.2.2.2.2) Tryz.underlying39 rfl (by kernel_rfl)) (by assumption) ?_
          (try simp only [Act.put]); (try simp only [List.setIfInBounds_toArray]); (try simp only [List.set_cons_succ]); (try simp only [List.set_cons_zero])
          refine wpAnyH_take (i := 17) (oi := ⟨some 122, .binOp .eql 39 (.tmp 118) (.tmp 121) 39, 4, _, _, some (10, true)⟩) (v := ?_) rfl (by kernel_rfl) (by kernel_rfl) (by kernel_rfl) (fun _ _ _ h => h) (Or.inl ⟨by rfl, ?_⟩) (by assumption) ?_
          rotate_left
          · (intro w hSw; (try dsimp only at hSw); go_split_ands; go_simp; (try with_reducible rfl))
          (try simp only [Act.put]); (try simp only [List.setIfInBounds_toArray]); (try simp only [List.set_cons_succ]); (try simp only [List.set_cons_zero])
          refine wpAnyH_take (i := 18) (oi := ⟨some 123, .pick (.tmp 115) (.tmp 122) (.const (.bool false)), 4, _, _, none⟩) (v := ?_) rfl (by kernel_rfl) (by kernel_rfl) (by kernel_rfl) (fun _ _ _ h => h) (Or.inl ⟨by rfl, ?_⟩) (by assumption) ?_
          rotate_left
          · (intro w hSw; (try dsimp only at hSw); go_split_ands; go_simp; (try with_reducible rfl))
          (try simp only [Act.put]); (try simp only [List.setIfInBounds_toArray]); (try simp only [List.set_cons_succ]); (try simp only [List.set_cons_zero])
          refine wpAnyH_take (i := 19) (oi := ⟨some 124, .binOp .eql 4 (.tmp 107) (.tmp 123) 4, 4, _, _, none⟩) (v := ?_) rfl (by kernel_rfl) (by kernel_rfl) (by kernel_rfl) (fun _ _ _ h => h) (Or.inl ⟨by rfl, ?_⟩) (by assumption) ?_
          rotate_left
          · (intro w hSw; (try dsimp only at hSw); go_split_ands; go_simp; (try with_reducible rfl))
          (try simp only [Act.put]); (try simp only [List.setIfInBounds_toArray]); (try simp only [List.set_cons_succ]); (try simp only [List.set_cons_zero])
          refine wpAnyH_take (i := 20) (oi := ⟨some 125, .move (.tmp 124), 4, _, _, none⟩) (v := ?_) rfl (by kernel_rfl) (by kernel_rfl) (by kernel_rfl) (fun _ _ _ h => h) (Or.inl ⟨by rfl, ?_⟩) (by assumption) ?_
          rotate_left
          · (intro w hSw; (try dsimp only at hSw); go_split_ands; go_simp; (try with_reducible rfl))
          (try simp only [Act.put]); (try simp only [List.setIfInBounds_toArray]); (try simp only [List.set_cons_succ]); (try simp only [List.set_cons_zero])
          refine wpAnyH_take (i := 21) (oi := ⟨some 126, .fieldAddr 52 (.tmp 7) 0, 0, _, _, some (20, true)⟩) (v := ?_) rfl (by kernel_rfl) (by kernel_rfl) (by kernel_rfl) (fun _ _ _ h => h) (Or.inl ⟨by rfl, ?_⟩) (by assumption) ?_
          rotate_left
          · (intro w hSw; (try dsimp only at hSw); go_split_ands; go_simp; (try with_reducible rfl))
          (try simp only [Act.put]); (try simp only [List.setIfInBounds_toArray]); (try simp only [List.set_cons_succ]); (try simp only [List.set_cons_zero])
          refine wpAnyH_take (i := 22) (oi := ⟨some 127, .load 41 (.tmp 126), 41, _, _, some (20, true)⟩) (v := .agg ([.int .i64 st.r.ir, .int .i64 st.r.is, .int .i64 st.r.st, .int .i64 st.r.pn, .int .i64 st.r.pr, .int .i64 st.r.bn, .int .i64 st.r.br, .int .i64 st.r.c.k, .int .i64 st.r.c.tc, .int .i64 st.r.c.tn, .int .i64 st.r.c.tt, .int .i64 st.r.c.tk, .int .i64 st.r.c.sh, xa, xb, .bool st.r.c.cm, .int .i64 st.r.sq, .int .i64 st.r.d0, .int .i64 st.r.d1, .int .i64 st.r.d2, .int .i64 st.r.d3, .int .i64 st.r.d4, .int .i64 st.r.d5, .int .i64 st.r.d6, .bool st.r.kp] : List Value).toArray) rfl (by kernel_rfl) (by kernel_rfl) (by kernel_rfl) (fun _ _ _ h => h) (yieldsIf_load_mid (by rfl) 41 _ rfl w3.heap.size 0 rfl [.int .i64 st.r.ir, .int .i64 st.r.is, .int .i64 st.r.st, .int .i64 st.r.pn, .int .i64 st.r.pr, .int .i64 st.r.bn, .int .i64 st.r.br, .int .i64 st.r.c.k, .int .i64 st.r.c.tc, .int .i64 st.r.c.tn, .int .i64 st.r.c.tt, .int .i64 st.r.c.tk, .int .i64 st.r.c.sh, xa, xb, .bool st.r.c.cm, .int .i64 st.r.sq, .int .i64 st.r.d0, .int .i64 st.r.d1, .int .i64 st.r.d2, .int .i64 st.r.d3, .int .i64 st.r.d4, .int .i64 st.r.d5, .int .i64 st.r.d6, .bool st.r.kp] _ (fun w hSw => hSw.2.2.2.1) Tryz.underlying41 rfl (by kernel_rfl)) (by assumption) ?_
          (try simp only [Act.put]); (try simp only [List.setIfInBounds_toArray]); (try simp only [List.set_cons_succ]); (try simp only [List.set_cons_zero])
          refine wpAnyH_ready (rs := [23]) (by kernel_rfl) (by simp) ?_
          refine AllReadyH.cons (o := ⟨some 128, .call { callee := .value (.func 25), args := #[.tmp 127], argTypes := #[41] }, 4, _, _, some (20, true)⟩) rfl (fun K hK => ?_) AllReadyH.nil
          try go_simp
          have TZ := T4.out.below HBD.out
          refine (right_rec st.r TZ.rs TZ.ws HMD.out.l HMD.out.l').mono ?_
          clear TZ
          rintro e wa ⟨rfl, hb⟩
          rw [HRR.out]
          have KSA := Lib.hid (KSD.out.on hb)
          have KMA := Lib.hid (KMD.out.on hb)
          have HBA := Lib.hid (below_on HBD.out hb)
          clear hb
          try go_simp
          refine hK.out _ _ (by exact ⟨(hold_cell KSA.out 24 rfl).trans (by rw [HKQ.out]), hold_cell KSA.out 16 rfl, stc_deps KSA.out, lor_rec KSA.out, hold_cell KMA.out 21 rfl, msg_deps KMA.out⟩) (fun hHeld => ?_)
          clear hK K
          (try simp only [Act.put]); (try simp only [List.setIfInBounds_toArray]); (try simp only [List.set_cons_succ]); (try simp only [List.set_cons_zero])
          refine wpAnyH_take (i := 24) (oi := ⟨some 129, .pick (.tmp 125) (.tmp 128) (.const (.bool false)), 4, _, _, none⟩) (v := ?_) rfl (by kernel_rfl) (by kernel_rfl) (by kernel_rfl) (fun _ _ _ h => h) (Or.inl ⟨by rfl, ?_⟩) (by assumption) ?_
          rotate_left
          · (intro w hSw; (try dsimp only at hSw); go_split_ands; go_simp; (try with_reducible rfl))
          (try simp only [Act.put]); (try simp only [List.setIfInBounds_toArray]); (try simp only [List.set_cons_succ]); (try simp only [List.set_cons_zero])
          refine wpAnyH_take (i := 25) (oi := ⟨some 130, .move (.tmp 129), 4, _, _, none⟩) (v := ?_) rfl (by kernel_rfl) (by kernel_rfl) (by kernel_rfl) (fun _ _ _ h => h) (Or.inl ⟨by rfl, ?_⟩) (by assumption) ?_
          rotate_left
          · (intro w hSw; (try dsimp only at hSw); go_split_ands; go_simp; (try with_reducible rfl))
          (try simp only [Act.put]); (try simp only [List.setIfInBounds_toArray]); (try simp only [List.set_cons_succ]); (try simp only [List.set_cons_zero])
          refine wpAnyH_ready (rs := [26]) (by kernel_rfl) (by simp) ?_
          refine AllReadyH.cons (o := ⟨some 131, .call { callee := .value (.func 10), args := #[], argTypes := #[] }, 4, _, _, some (25, true)⟩) rfl (fun K hK => ?_) AllReadyH.nil
          try go_simp
          refine (awake_any _).mono ?_
          rintro e wb ⟨rfl, hb⟩
          have KSB := Lib.hid (KSA.out.on hb)
          have KMB := Lib.hid (KMA.out.on hb)
          have HBB := Lib.hid (below_on HBA.out hb)
          clear hb
          try go_simp
          refine hK.out _ _ (by exact ⟨(hold_cell KSB.out 24 rfl).trans (by rw [HKQ.out]), hold_cell KSB.out 16 rfl, stc_deps KSB.out, lor_rec KSB.out, hold_cell KMB.out 21 rfl, msg_deps KMB.out⟩) (fun hHeld => ?_)
          clear hK K
          (try simp only [Act.put]); (try simp only [List.setIfInBounds_toArray]); (try simp only [List.set_cons_succ]); (try simp only [List.set_cons_zero])
          refine wpAnyH_take (i := 27) (oi := ⟨some 132, .pick (.tmp 130) (.tmp 131) (.const (.bool false)), 4, _, _, none⟩) (v := ?_) rfl (by kernel_rfl) (by kernel_rfl) (by kernel_rfl) (fun _ _ _ h => h) (Or.inl ⟨by rfl, ?_⟩) (by assumption) ?_
          rotate_left
          · (intro w hSw; (try dsimp only at hSw); go_split_ands; go_simp; (try with_reducible rfl))
          (try simp only [Act.put]); (try simp only [List.setIfInBounds_toArray]); (try simp only [List.set_cons_succ]); (try simp only [List.set_cons_zero])
          refine wpAnyH_take (i := 28) (oi := ⟨some 6, .assign (.tmp 132), 4, _, _, none⟩) (v := ?_) rfl (by kernel_rfl) (by kernel_rfl) (by kernel_rfl) (fun _ _ _ h => h) (Or.inl ⟨by rfl, ?_⟩) (by assumption) ?_
          rotate_left
          · (intro w hSw; (try dsimp only at hSw); go_split_ands; go_simp; (try with_reducible rfl))
          (try simp only [Act.put]); (try simp only [List.setIfInBounds_toArray]); (try simp only [List.set_cons_succ]); (try simp only [List.set_cons_zero])
          refine wpAnyH_done (by kernel_rfl) ?_ _
          clear hHeld
          go_wp2
          go_ret
          exact ⟨rfl, below_on HB4.out HBB.out⟩
      · have HKQ := Lib.hid (show st.r.kp = false by rw [HKP.out, decide_eq_false hsq, Bool.false_and])
        obtain ⟨s1, s2⟩ := neI hsq
        clear hsq
        have hbd : Below wq.heap.size wq wq.drew := (Below.refl _ _).drew
        have KSD := Lib.hid ((KS4.out.on HW.out).on hbd)
        have KMD := Lib.hid ((M4.out.on HW.out).on hbd)
        have HBD := Lib.hid (below_on HW.out hbd)
        clear hbd
        refine wp_region_held_drew (S := fun w' => w'.cell? ⟨w3.heap.size, 24, none⟩ = some (.bool false) ∧ w'.cell? ⟨w3.heap.size, 16, none⟩ = some (.int .i64 st.r.sq) ∧ w'.rangeAt w3.heap.size 17 [.int .i64 st.r.d0, .int .i64 st.r.d1, .int .i64 st.r.d2, .int .i64 st.r.d3, .int .i64 st.r.d4, .int .i64 st.r.d5, .int .i64 st.r.d6] ∧ w'.rangeAt w3.heap.size 0 [.int .i64 st.r.ir, .int .i64 st.r.is, .int .i64 st.r.st, .int .i64 st.r.pn, .int .i64 st.r.pr, .int .i64 st.r.bn, .int .i64 st.r.br, .int .i64 st.r.c.k, .int .i64 st.r.c.tc, .int .i64 st.r.c.tn, .int .i64 st.r.c.tt, .int .i64 st.r.c.tk, .int .i64 st.r.c.sh, xa, xb, .bool st.r.c.cm, .int .i64 st.r.sq, .int .i64 st.r.d0, .int .i64 st.r.d1, .int .i64 st.r.d2, .int .i64 st.r.d3, .int .i64 st.r.d4, .int .i64 st.r.d5, .int .i64 st.r.d6, .bool st.r.kp] ∧ w'.cell? ⟨w.heap.size, 21, none⟩ = some (.int .i64 m.r.sq) ∧ w'.rangeAt w.heap.size 22 [.int .i64 m.r.d0, .int .i64 m.r.d1, .int .i64 m.r.d2, .int .i64 m.r.d3, .int .i64 m.r.d4, .int .i64 m.r.d5, .int .i64 m.r.d6]) (by kernel_rfl) (by exact ⟨(hold_cell KSD.out 24 rfl).trans (by rw [HKQ.out]), hold_cell KSD.out 16 rfl, stc_deps KSD.out, lor_rec KSD.out, hold_cell KMD.out 21 rfl, msg_deps KMD.out⟩) (fun hHeld => ?_)
        refine wpAnyH_take (i := 0) (oi := ⟨some 105, .fieldAddr 52 (.tmp 7) 0, 0, _, _, none⟩) (v := ?_) rfl (by kernel_rfl) (by kernel_rfl) (by kernel_rfl) (fun _ _ _ h => h) (Or.inl ⟨by rfl, ?_⟩) (by assumption) ?_
        rotate_left
        · (intro w hSw; (try dsimp only at hSw); go_split_ands; go_simp; (try with_reducible rfl))
        (try simp only [Act.put]); (try simp only [List.setIfInBounds_toArray]); (try simp only [List.set_cons_succ]); (try simp only [List.set_cons_zero])
        refine wpAnyH_take (i := 1) (oi := ⟨some 106, .fieldAddr 41 (.tmp 105) 7, 0, _, _, none⟩) (v := ?_) rfl (by kernel_rfl) (by kernel_rfl) (by kernel_rfl) (fun _ _ _ h => h) (Or.inl ⟨by rfl, ?_⟩) (by assumption) ?_
        rotate_left
        · (intro w hSw; (try dsimp only at hSw); go_split_ands; go_simp; (try with_reducible rfl))
        (try simp only [Act.put]); (try simp only [List.setIfInBounds_toArray]); (try simp only [List.set_cons_succ]); (try simp only [List.set_cons_zero])
        refine wpAnyH_take (i := 2) (oi := ⟨some 107, .load 4 (.tmp 106), 4, _, _, none⟩) (v := ?_) rfl (by kernel_rfl) (by kernel_rfl) (by kernel_rfl) (fun _ _ _ h => h) (Or.inl ⟨by rfl, ?_⟩) (by assumption) ?_
        rotate_left
        · (intro w hSw; (try dsimp only at hSw); go_split_ands; go_simp; (try with_reducible rfl))
        (try simp only [Act.put]); (try simp only [List.setIfInBounds_toArray]); (try simp only [List.set_cons_succ]); (try simp only [List.set_cons_zero])
        refine wpAnyH_take (i := 3) (oi := ⟨some 108, .fieldAddr 52 (.tmp 7) 0, 0, _, _, none⟩) (v := ?_) rfl (by kernel_rfl) (by kernel_rfl) (by kernel_rfl) (fun _ _ _ h => h) (Or.inl ⟨by rfl, ?_⟩) (by assumption) ?_
        rotate_left
        · (intro w hSw; (try dsimp only at hSw); go_split_ands; go_simp; (try with_reducible rfl))
        (try simp only [Act.put]); (try simp only [List.setIfInBounds_toArray]); (try simp only [List.set_cons_succ]); (try simp only [List.set_cons_zero])
        refine wpAnyH_take (i := 4) (oi := ⟨some 109, .fieldAddr 41 (.tmp 108) 5, 0, _, _, none⟩) (v := ?_) rfl (by kernel_rfl) (by kernel_rfl) (by kernel_rfl) (fun _ _ _ h => h) (Or.inl ⟨by rfl, ?_⟩) (by assumption) ?_
        rotate_left
        · (intro w hSw; (try dsimp only at hSw); go_split_ands; go_simp; (try with_reducible rfl))
        (try simp only [Act.put]); (try simp only [List.setIfInBounds_toArray]); (try simp only [List.set_cons_succ]); (try simp only [List.set_cons_zero])
        refine wpAnyH_take (i := 5) (oi := ⟨some 110, .load 3 (.tmp 109), 3, _, _, none⟩) (v := ?_) rfl (by kernel_rfl) (by kernel_rfl) (by kernel_rfl) (fun _ _ _ h => h) (Or.inl ⟨by rfl, ?_⟩) (by assumption) ?_
        rotate_left
        · (intro w hSw; (try dsimp only at hSw); go_split_ands; go_simp; (try with_reducible rfl))
        (try simp only [Act.put]); (try simp only [List.setIfInBounds_toArray]); (try simp only [List.set_cons_succ]); (try simp only [List.set_cons_zero])
        refine wpAnyH_take (i := 6) (oi := ⟨some 111, .fieldAddr 49 (.tmp 5) 4, 0, _, _, none⟩) (v := ?_) rfl (by kernel_rfl) (by kernel_rfl) (by kernel_rfl) (fun _ _ _ h => h) (Or.inl ⟨by rfl, ?_⟩) (by assumption) ?_
        rotate_left
        · (intro w hSw; (try dsimp only at hSw); go_split_ands; go_simp; (try with_reducible rfl))
        (try simp only [Act.put]); (try simp only [List.setIfInBounds_toArray]); (try simp only [List.set_cons_succ]); (try simp only [List.set_cons_zero])
        refine wpAnyH_take (i := 7) (oi := ⟨some 112, .fieldAddr 41 (.tmp 111) 5, 0, _, _, none⟩) (v := ?_) rfl (by kernel_rfl) (by kernel_rfl) (by kernel_rfl) (fun _ _ _ h => h) (Or.inl ⟨by rfl, ?_⟩) (by assumption) ?_
        rotate_left
        · (intro w hSw; (try dsimp only at hSw); go_split_ands; go_simp; (try with_reducible rfl))
        (try simp only [Act.put]); (try simp only [List.setIfInBounds_toArray]); (try simp only [List.set_cons_succ]); (try simp only [List.set_cons_zero])
        refine wpAnyH_take (i := 8) (oi := ⟨some 113, .load 3 (.tmp 112), 3, _, _, none⟩) (v := ?_) rfl (by kernel_rfl) (by kernel_rfl) (by kernel_rfl) (fun _ _ _ h => h) (Or.inl ⟨by rfl, ?_⟩) (by assumption) ?_
        rotate_left
        · (intro w hSw; (try dsimp only at hSw); go_split_ands; go_simp; (try with_reducible rfl))
        (try simp only [Act.put]); (try simp only [List.setIfInBounds_toArray]); (try simp only [List.set_cons_succ]); (try simp only [List.set_cons_zero])
        refine wpAnyH_take (i := 9) (oi := ⟨some 114, .binOp .eql 3 (.tmp 110) (.tmp 113) 3, 4, _, _, none⟩) (v := ?_) rfl (by kernel_rfl) (by kernel_rfl) (by kernel_rfl) (fun _ _ _ h => h) (Or.inl ⟨by rfl, ?_⟩) (by assumption) ?_
        rotate_left
        · (intro w hSw; (try dsimp only at hSw); go_split_ands; go_simp; (try with_reducible rfl))
        (try simp only [Act.put]); (try simp only [List.setIfInBounds_toArray]); (try simp only [List.set_cons_succ]); (try simp only [List.set_cons_zero])
        refine wpAnyH_take (i := 10) (oi := ⟨some 115, .move (.tmp 114), 4, _, _, none⟩) (v := ?_) rfl (by kernel_rfl) (by kernel_rfl) (by kernel_rfl) (fun _ _ _ h => h) (Or.inl ⟨by rfl, ?_⟩) (by assumption) ?_
        rotate_left
        · (intro w hSw; (try dsimp only at hSw); go_split_ands; go_simp; (try with_reducible rfl))
        (try simp only [Act.put]); (try simp only [List.setIfInBounds_toArray]); (try simp only [List.set_cons_succ]); (try simp only [List.set_cons_zero])
        refine wpAnyH_take (i := 11) (oi := ⟨some 116, .fieldAddr 52 (.tmp 7) 0, 0, _, _, some (10, true)⟩) (v := undef) rfl (by kernel_rfl) (by kernel_rfl) (by kernel_rfl) (fun _ _ _ h => h) (Or.inr ⟨by rfl, rfl⟩) (by assumption) ?_
        (try simp only [Act.put]); (try simp only [List.setIfInBounds_toArray]); (try simp only [List.set_cons_succ]); (try simp only [List.set_cons_zero])
        refine wpAnyH_take (i := 12) (oi := ⟨some 117, .fieldAddr 41 (.tmp 116) 6, 0, _, _, some (10, true)⟩) (v := undef) rfl (by kernel_rfl) (by kernel_rfl) (by kernel_rfl) (fun _ _ _ h => h) (Or.inr ⟨by rfl, rfl⟩) (by assumption) ?_
        (try simp only [Act.put]); (try simp only [List.setIfInBounds_toArray]); (try simp only [List.set_cons_succ]); (try simp only [List.set_cons_zero])
        refine wpAnyH_take (i := 13) (oi := ⟨some 118, .load 39 (.tmp 117), 39, _, _, some (10, true)⟩) (v := undef) rfl (by kernel_rfl) (by kernel_rfl) (by kernel_rfl) (fun _ _ _ h => h) (Or.inr ⟨by rfl, rfl⟩) (by assumption) ?_
        (try simp only [Act.put]); (try simp only [List.setIfInBounds_toArray]); (try simp only [List.set_cons_succ]); (try simp only [List.set_cons_zero])
        refine wpAnyH_take (i := 14) (oi := ⟨some 119, .fieldAddr 49 (.tmp 5) 4, 0, _, _, some (10, true)⟩) (v := undef) rfl (by kernel_rfl) (by kernel_rfl) (by kernel_rfl) (fun _ _ _ h => h) (Or.inr ⟨by rfl, rfl⟩) (by assumption) ?_
        (try simp only [Act.put]); (try simp only [List.setIfInBounds_toArray]); (try simp only [List.set_cons_succ]); (try simp only [List.set_cons_zero])
        refine wpAnyH_take (i := 15) (oi := ⟨some 120, .fieldAddr 41 (.tmp 119) 6, 0, _, _, some (10, true)⟩) (v := undef) rfl (by kernel_rfl) (by kernel_rfl) (by kernel_rfl) (fun _ _ _ h => h) (Or.inr ⟨by rfl, rfl⟩) (by assumption) ?_
        (try simp only [Act.put]); (try simp only [List.setIfInBounds_toArray]); (try simp only [List.set_cons_succ]); (try simp only [List.set_cons_zero])
        refine wpAnyH_take (i := 16) (oi := ⟨some 121, .load 39 (.tmp 120), 39, _, _, some (10, true)⟩) (v := undef) rfl (by kernel_rfl) (by kernel_rfl) (by kernel_rfl) (fun _ _ _ h => h) (Or.inr ⟨by rfl, rfl⟩) (by assumption) ?_
        (try simp only [Act.put]); (try simp only [List.setIfInBounds_toArray]); (try simp only [List.set_cons_succ]); (try simp only [List.set_cons_zero])
        refine wpAnyH_take (i := 17) (oi := ⟨some 122, .binOp .eql 39 (.tmp 118) (.tmp 121) 39, 4, _, _, some (10, true)⟩) (v := undef) rfl (by kernel_rfl) (by kernel_rfl) (by kernel_rfl) (fun _ _ _ h => h) (Or.inr ⟨by rfl, rfl⟩) (by assumption) ?_
        (try simp only [Act.put]); (try simp only [List.setIfInBounds_toArray]); (try simp only [List.set_cons_succ]); (try simp only [List.set_cons_zero])
        refine wpAnyH_take (i := 18) (oi := ⟨some 123, .pick (.tmp 115) (.tmp 122) (.const (.bool false)), 4, _, _, none⟩) (v := ?_) rfl (by kernel_rfl) (by kernel_rfl) (by kernel_rfl) (fun _ _ _ h => h) (Or.inl ⟨by rfl, ?_⟩) (by assumption) ?_
        rotate_left
        · (intro w hSw; (try dsimp only at hSw); go_split_ands; go_simp; (try with_reducible rfl))
        (try simp only [Act.put]); (try simp only [List.setIfInBounds_toArray]); (try simp only [List.set_cons_succ]); (try simp only [List.set_cons_zero])
        refine wpAnyH_take (i := 19) (oi := ⟨some 124, .binOp .eql 4 (.tmp 107) (.tmp 123) 4, 4, _, _, none⟩) (v := ?_) rfl (by kernel_rfl) (by kernel_rfl) (by kernel_rfl) (fun _ _ _ h => h) (Or.inl ⟨by rfl, ?_⟩) (by assumption) ?_
        rotate_left
        · (intro w hSw; (try dsimp only at hSw); go_split_ands; go_simp; (try with_reducible rfl))
        (try simp only [Act.put]); (try simp only [List.setIfInBounds_toArray]); (try simp only [List.set_cons_succ]); (try simp only [List.set_cons_zero])
        refine wpAnyH_take (i := 20) (oi := ⟨some 125, .move (.tmp 124), 4, _, _, none⟩) (v := ?_) rfl (by kernel_rfl) (by kernel_rfl) (by kernel_rfl) (fun _ _ _ h => h) (Or.inl ⟨by rfl, ?_⟩) (by assumption) ?_
        rotate_left
        · (intro w hSw; (try dsimp only at hSw); go_split_ands; go_simp; (try with_reducible rfl))
        (try simp only [Act.put]); (try simp only [List.setIfInBounds_toArray]); (try simp only [List.set_cons_succ]); (try simp only [List.set_cons_zero])
        refine wpAnyH_take (i := 21) (oi := ⟨some 126, .fieldAddr 52 (.tmp 7) 0, 0, _, _, some (20, true)⟩) (v := ?_) rfl (by kernel_rfl) (by kernel_rfl) (by kernel_rfl) (fun _ _ _ h => h) (Or.inl ⟨by rfl, ?_⟩) (by assumption) ?_
        rotate_left
        · (intro w hSw; (try dsimp only at hSw); go_split_ands; go_simp; (try with_reducible rfl))
        (try simp only [Act.put]); (try simp only [List.setIfInBounds_toArray]); (try simp only [List.set_cons_succ]); (try simp only [List.set_cons_zero])
        refine wpAnyH_take (i := 22) (oi := ⟨some 127, .load 41 (.tmp 126), 41, _, _, some (20, true)⟩) (v := .agg ([.int .i64 st.r.ir, .int .i64 st.r.is, .int .i64 st.r.st, .int .i64 st.r.pn, .int .i64 st.r.pr, .int .i64 st.r.bn, .int .i64 st.r.br, .int .i64 st.r.c.k, .int .i64 st.r.c.tc, .int .i64 st.r.c.tn, .int .i64 st.r.c.tt, .int .i64 st.r.c.tk, .int .i64 st.r.c.sh, xa, xb, .bool st.r.c.cm, .int .i64 st.r.sq, .int .i64 st.r.d0, .int .i64 st.r.d1, .int .i64 st.r.d2, .int .i64 st.r.d3, .int .i64 st.r.d4, .int .i64 st.r.d5, .int .i64 st.r.d6, .bool st.r.kp] : List Value).toArray) rfl (by kernel_rfl) (by kernel_rfl) (by kernel_rfl) (fun _ _ _ h => h) (yieldsIf_load_mid (by rfl) 41 _ rfl w3.heap.size 0 rfl [.int .i64 st.r.ir, .int .i64 st.r.is, .int .i64 st.r.st, .int .i64 st.r.pn, .int .i64 st.r.pr, .int .i64 st.r.bn, .int .i64 st.r.br, .int .i64 st.r.c.k, .int .i64 st.r.c.tc, .int .i64 st.r.c.tn, .int .i64 st.r.c.tt, .int .i64 st.r.c.tk, .int .i64 st.r.c.sh, xa, xb, .bool st.r.c.cm, .int .i64 st.r.sq, .int .i64 st.r.d0, .int .i64 st.r.d1, .int .i64 st.r.d2, .int .i64 st.r.d3, .int .i64 st.r.d4, .int .i64 st.r.d5, .int .i64 st.r.d6, .bool st.r.kp] _ (fun w hSw => hSw.2.2.2.1) Tryz.underlying41 rfl (by kernel_rfl)) (by assumption) ?_
        (try simp only [Act.put]); (try simp only [List.setIfInBounds_toArray]); (try simp only [List.set_cons_succ]); (try simp only [List.set_cons_zero])
        refine wpAnyH_ready (rs := [23]) (by kernel_rfl) (by simp) ?_
        refine AllReadyH.cons (o := ⟨some 128, .call { callee := .value (.func 25), args := #[.tmp 127], argTypes := #[41] }, 4, _, _, some (20, true)⟩) rfl (fun K hK => ?_) AllReadyH.nil
        try go_simp
        have TZ := T4.out.below HBD.out
        refine (right_rec st.r TZ.rs TZ.ws HMD.out.l HMD.out.l').mono ?_
        clear TZ
        rintro e wa ⟨rfl, hb⟩
        rw [HRR.out]
        have KSA := Lib.hid (KSD.out.on hb)
        have KMA := Lib.hid (KMD.out.on hb)
        have HBA := Lib.hid (below_on HBD.out hb)
        clear hb
        try go_simp
        refine hK.out _ _ (by exact ⟨(hold_cell KSA.out 24 rfl).trans (by rw [HKQ.out]), hold_cell KSA.out 16 rfl, stc_deps KSA.out, lor_rec KSA.out, hold_cell KMA.out 21 rfl, msg_deps KMA.out⟩) (fun hHeld => ?_)
        clear hK K
        (try simp only [Act.put]); (try simp only [List.setIfInBounds_toArray]); (try simp only [List.set_cons_succ]); (try simp only [List.set_cons_zero])
        refine wpAnyH_take (i := 24) (oi := ⟨some 129, .pick (.tmp 125) (.tmp 128) (.const (.bool false)), 4, _, _, none⟩) (v := ?_) rfl (by kernel_rfl) (by kernel_rfl) (by kernel_rfl) (fun _ _ _ h => h) (Or.inl ⟨by rfl, ?_⟩) (by assumption) ?_
        rotate_left
        · (intro w hSw; (try dsimp only at hSw); go_split_ands; go_simp; (try with_reducible rfl))
        (try simp only [Act.put]); (try simp only [List.setIfInBounds_toArray]); (try simp only [List.set_cons_succ]); (try simp only [List.set_cons_zero])
        refine wpAnyH_take (i := 25) (oi := ⟨some 130, .move (.tmp 129), 4, _, _, none⟩) (v := ?_) rfl (by kernel_rfl) (by kernel_rfl) (by kernel_rfl) (fun _ _ _ h => h) (Or.inl ⟨by rfl, ?_⟩) (by assumption) ?_
        rotate_left
        · (intro w hSw; (try dsimp only at hSw); go_split_ands; go_simp; (try with_reducible rfl))
        (try simp only [Act.put]); (try simp only [List.setIfInBounds_toArray]); (try simp only [List.set_cons_succ]); (try simp only [List.set_cons_zero])
        refine wpAnyH_ready (rs := [26]) (by kernel_rfl) (by simp) ?_
        refine AllReadyH.cons (o := ⟨some 131, .call { callee := .value (.func 10), args := #[], argTypes := #[] }, 4, _, _, some (25, true)⟩) rfl (fun K hK => ?_) AllReadyH.nil
        try go_simp
        refine (awake_any _).mono ?_
        rintro e wb ⟨rfl, hb⟩
        have KSB := Lib.hid (KSA.out.on hb)
        have KMB := Lib.hid (KMA.out.on hb)
        have HBB := Lib.hid (below_on HBA.out hb)
        clear hb
        try go_simp
        refine hK.out _ _ (by exact ⟨(hold_cell KSB.out 24 rfl).trans (by rw [HKQ.out]), hold_cell KSB.out 16 rfl, stc_deps KSB.out, lor_rec KSB.out, hold_cell KMB.out 21 rfl, msg_deps KMB.out⟩) (fun hHeld => ?_)
        clear hK K
        (try simp only [Act.put]); (try simp only [List.setIfInBounds_toArray]); (try simp only [List.set_cons_succ]); (try simp only [List.set_cons_zero])
        refine wpAnyH_take (i := 27) (oi := ⟨some 132, .pick (.tmp 130) (.tmp 131) (.const (.bool false)), 4, _, _, none⟩) (v := ?_) rfl (by kernel_rfl) (by kernel_rfl) (by kernel_rfl) (fun _ _ _ h => h) (Or.inl ⟨by rfl, ?_⟩) (by assumption) ?_
        rotate_left
        · (intro w hSw; (try dsimp only at hSw); go_split_ands; go_simp; (try with_reducible rfl))
        (try simp only [Act.put]); (try simp only [List.setIfInBounds_toArray]); (try simp only [List.set_cons_succ]); (try simp only [List.set_cons_zero])
        refine wpAnyH_take (i := 28) (oi := ⟨some 6, .assign (.tmp 132), 4, _, _, none⟩) (v := ?_) rfl (by kernel_rfl) (by kernel_rfl) (by kernel_rfl) (fun _ _ _ h => h) (Or.inl ⟨by rfl, ?_⟩) (by assumption) ?_
        rotate_left
        · (intro w hSw; (try dsimp only at hSw); go_split_ands; go_simp; (try with_reducible rfl))
        (try simp only [Act.put]); (try simp only [List.setIfInBounds_toArray]); (try simp only [List.set_cons_succ]); (try simp only [List.set_cons_zero])
        refine wpAnyH_done (by kernel_rfl) ?_ _
        clear hHeld
        go_wp2
        go_ret
        exact ⟨rfl, below_on HB4.out HBB.out⟩
    obtain ⟨x, hx⟩ : ∃ x, X[k]? = some x := ⟨_, List.getElem?_eq_getElem hlt⟩
    have hxm : x ∈ X := List.mem_of_getElem? hx
    have hrt := HRT.out x hxm
    have HMX := Lib.hid (hX x hxm)
    have HXR := Lib.hid (HX4.out.below HW.out)
    obtain ⟨b, o, rfl, hbl, hrr⟩ := rowN_range HXR.out.row hx
    have HTX := Lib.hid (HX4.out.tx x hxm)
    have HKX := Lib.hid hx
    have HDX := Lib.hid (HDP.out k x hx)
    obtain ⟨xr, ya', yb'⟩ := x
    have HRR' := Lib.hid (show wq.rangeAt b (o + k * 25) [.int .i64 xr.ir, .int .i64 xr.is, .int .i64 xr.st, .int .i64 xr.pn, .int .i64 xr.pr, .int .i64 xr.bn, .int .i64 xr.br, .int .i64 xr.c.k, .int .i64 xr.c.tc, .int .i64 xr.c.tn, .int .i64 xr.c.tt, .int .i64 xr.c.tk, .int .i64 xr.c.sh, ya', yb', .bool xr.c.cm, .int .i64 xr.sq, .int .i64 xr.d0, .int .i64 xr.d1, .int .i64 xr.d2, .int .i64 xr.d3, .int .i64 xr.d4, .int .i64 xr.d5, .int .i64 xr.d6, .bool xr.kp] from hrr)
    have oy : ([.int .i64 xr.ir, .int .i64 xr.is, .int .i64 xr.st, .int .i64 xr.pn, .int .i64 xr.pr, .int .i64 xr.bn, .int .i64 xr.br, .int .i64 xr.c.k, .int .i64 xr.c.tc, .int .i64 xr.c.tn, .int .i64 xr.c.tt, .int .i64 xr.c.tk, .int .i64 xr.c.sh, ya', yb', .bool xr.c.cm, .int .i64 xr.sq, .int .i64 xr.d0, .int .i64 xr.d1, .int .i64 xr.d2, .int .i64 xr.d3, .int .i64 xr.d4, .int .i64 xr.d5, .int .i64 xr.d6, .bool xr.kp] : List Value).all (·.oneCell') = true := rv_one (x := ⟨xr, ya', yb'⟩) (rds_one HTX.out.rs) (wrs_one HTX.out.ws)
    have hk1 : (k : Int) < (X.length : Int) := by omega
    have hkn : ((k : Int) + 1).toNat = k + 1 := by omega
    have hk0 : (0 : Int) ≤ (k : Int) + 1 := by omega
    have hcap : X.length ≤ cc := HX4.out.row.2.elim fun A' h => by
      obtain ⟨c', e, hc, -⟩ := h
      simp only [Value.slice.injEq] at e
      omega
    clear hx hxm hrr
    have HRRo := HRR'.out
    by_cases hcc : cc = k + 1
    · have hlen : X.length = k + 1 := by omega
      have HLE := Lib.hid (show true = lastB (keysOf X) k by rw [← noB_end (n := 0) (by omega)]; exact (noB_zero X k).symm)
      subst hcc
      go_wp2_with (first
        | (with_reducible refine wpList_load_mid rfl 41 _ rfl b (o + k * 25) rfl [.int .i64 xr.ir, .int .i64 xr.is, .int .i64 xr.st, .int .i64 xr.pn, .int .i64 xr.pr, .int .i64 xr.bn, .int .i64 xr.br, .int .i64 xr.c.k, .int .i64 xr.c.tc, .int .i64 xr.c.tn, .int .i64 xr.c.tt, .int .i64 xr.c.tk, .int .i64 xr.c.sh, ya', yb', .bool xr.c.cm, .int .i64 xr.sq, .int .i64 xr.d0, .int .i64 xr.d1, .int .i64 xr.d2, .int .i64 xr.d3, .int .i64 xr.d4, .int .i64 xr.d5, .int .i64 xr.d6, .bool xr.kp] _ HRRo Tryz.underlying41 rfl (by kernel_rfl) ?_)
        | (with_reducible refine store_freshA rfl 41 _ _ rfl wq.heap.size rfl 41 _ [.int .i64 xr.ir, .int .i64 xr.is, .int .i64 xr.st, .int .i64 xr.pn, .int .i64 xr.pr, .int .i64 xr.bn, .int .i64 xr.br, .int .i64 xr.c.k, .int .i64 xr.c.tc, .int .i64 xr.c.tn, .int .i64 xr.c.tt, .int .i64 xr.c.tk, .int .i64 xr.c.sh, ya', yb', .bool xr.c.cm, .int .i64 xr.sq, .int .i64 xr.d0, .int .i64 xr.d1, .int .i64 xr.d2, .int .i64 xr.d3, .int .i64 xr.d4, .int .i64 xr.d5, .int .i64 xr.d6, .bool xr.kp] rfl rfl rfl (by kernel_rfl) oy ?_
           intro w6 G6 b6
           have HW6 := Lib.hid (below_on HW.out b6)
           have KO6 := Lib.hid G6
           have KS6 := Lib.hid (KS4.out.on HW6.out)
           clear b6 G6)
        | fail)
      go_loopw [11, 56] (fun l i wi => i = .int .i64 0 ∧ l = .bool true ∧ Hid (Below w6.heap.size w6 wi)) (fun _ _ _ => 0)
      case atStart => exact ⟨rfl, rfl, Lib.hid (Below.refl _ _)⟩
      case round =>
        obtain ⟨rfl, rfl, HW8⟩ := hrel
        have hzz : ((0 : Nat) : Int) = 0 := rfl
        have HL := Lib.hid HLE.out
        rcases hq2 : M.eq2 xr.ir xr.is st.r.ir st.r.is with _ | _
        rotate_left
        · skip
          have o0 : wr.cell? ⟨wq.heap.size, 0, none⟩ = some (.int .i64 xr.ir) := hold_cell (KO6.out.on HW8.out) 0 rfl
          have o1 : wr.cell? ⟨wq.heap.size, 1, none⟩ = some (.int .i64 xr.is) := hold_cell (KO6.out.on HW8.out) 1 rfl
          have z0 : wr.cell? ⟨w3.heap.size, 0, none⟩ = some (.int .i64 st.r.ir) := hold_cell (KS6.out.on HW8.out) 0 rfl
          have z1 : wr.cell? ⟨w3.heap.size, 1, none⟩ = some (.int .i64 st.r.is) := hold_cell (KS6.out.on HW8.out) 1 rfl
          go_wp2
          refine ⟨?_, ?measure⟩
          iterate 26 (apply Exists.intro)
          (repeat apply Exists.intro)
          refine ⟨?rel, by rw [show (X.length : Int) = (k : Int) + 1 by omega, hlen]⟩
          case rel => exact ⟨k + 1, by go_num, hlt, Lib.hid (below_on HW6.out HW8.out)⟩
          case measure => simp [intOf]; omega
        by_cases hst : xr.st = 0
        · obtain ⟨s1, s2⟩ := eqI hst
          clear hst
          have o0 : wr.cell? ⟨wq.heap.size, 0, none⟩ = some (.int .i64 xr.ir) := hold_cell (KO6.out.on HW8.out) 0 rfl
          have o1 : wr.cell? ⟨wq.heap.size, 1, none⟩ = some (.int .i64 xr.is) := hold_cell (KO6.out.on HW8.out) 1 rfl
          have z0 : wr.cell? ⟨w3.heap.size, 0, none⟩ = some (.int .i64 st.r.ir) := hold_cell (KS6.out.on HW8.out) 0 rfl
          have z1 : wr.cell? ⟨w3.heap.size, 1, none⟩ = some (.int .i64 st.r.is) := hold_cell (KS6.out.on HW8.out) 1 rfl
          have o2 : wr.cell? ⟨wq.heap.size, 2, none⟩ = some (.int .i64 xr.st) := hold_cell (KO6.out.on HW8.out) 2 rfl
          go_wp2
          refine ⟨?_, ?measure⟩
          iterate 26 (apply Exists.intro)
          (repeat apply Exists.intro)
          refine ⟨?rel, by rw [show (X.length : Int) = (k : Int) + 1 by omega, hlen]⟩
          case rel => exact ⟨k + 1, by go_num, hlt, Lib.hid (below_on HW6.out HW8.out)⟩
          case measure => simp [intOf]; omega
        rcases hi : M.interB xr.c st.r.c with _ | _
        · obtain ⟨s1, s2⟩ := neI hst
          have HIV := Lib.hid hi
          clear hst hi
          have o0 : wr.cell? ⟨wq.heap.size, 0, none⟩ = some (.int .i64 xr.ir) := hold_cell (KO6.out.on HW8.out) 0 rfl
          have o1 : wr.cell? ⟨wq.heap.size, 1, none⟩ = some (.int .i64 xr.is) := hold_cell (KO6.out.on HW8.out) 1 rfl
          have z0 : wr.cell? ⟨w3.heap.size, 0, none⟩ = some (.int .i64 st.r.ir) := hold_cell (KS6.out.on HW8.out) 0 rfl
          have z1 : wr.cell? ⟨w3.heap.size, 1, none⟩ = some (.int .i64 st.r.is) := hold_cell (KS6.out.on HW8.out) 1 rfl
          have o2 : wr.cell? ⟨wq.heap.size, 2, none⟩ = some (.int .i64 xr.st) := hold_cell (KO6.out.on HW8.out) 2 rfl
          have KO8 := KO6.out.on HW8.out
          have KS8 := KS6.out.on HW8.out
          have HW8' := Lib.hid HW8.out
          have HW68 := Lib.hid HW6.out
          have ocw : wr.rangeAt wq.heap.size 7 [.int .i64 xr.c.k, .int .i64 xr.c.tc, .int .i64 xr.c.tn, .int .i64 xr.c.tt, .int .i64 xr.c.tk, .int .i64 xr.c.sh, ya', yb', .bool xr.c.cm] := rowRange_cmd (o := 0) KO8.cel.whole
          have scw : wr.rangeAt w3.heap.size 7 [.int .i64 st.r.c.k, .int .i64 st.r.c.tc, .int .i64 st.r.c.tn, .int .i64 st.r.c.tt, .int .i64 st.r.c.tk, .int .i64 st.r.c.sh, xa, xb, .bool st.r.c.cm] := lor_cmd KS8
          go_wp2_with (first
            | (with_reducible refine wpList_load_mid_g ?_ 30 _ rfl wq.heap.size 7 rfl [.int .i64 xr.c.k, .int .i64 xr.c.tc, .int .i64 xr.c.tn, .int .i64 xr.c.tt, .int .i64 xr.c.tk, .int .i64 xr.c.sh, ya', yb', .bool xr.c.cm] _ ocw Tryz.underlying30 rfl (by kernel_rfl) ?_; kernel_rfl)
            | (with_reducible refine wpList_load_mid_g ?_ 30 _ rfl w3.heap.size 7 rfl [.int .i64 st.r.c.k, .int .i64 st.r.c.tc, .int .i64 st.r.c.tn, .int .i64 st.r.c.tt, .int .i64 st.r.c.tk, .int .i64 st.r.c.sh, xa, xb, .bool st.r.c.cm] _ scw Tryz.underlying30 rfl (by kernel_rfl) ?_; kernel_rfl)
            | (go_at_call 24
               have hbw := below_on HW68.out HW8'.out
               have HA := dinter_any xr.c st.r.c (HTX.out.below hbw).rs (HTX.out.below hbw).ws (T4.out.below hbw).rs (T4.out.below hbw).ws HMX.out HMD.out
               rw [HIV.out] at HA
               refine HA.mono ?_
               clear HA hbw
               rintro e wa ⟨rfl, hb⟩
               have HW9 := Lib.hid (below_on HW8'.out hb)
               clear hb)
            | fail)
          refine ⟨?_, ?measure⟩
          iterate 26 (apply Exists.intro)
          (repeat apply Exists.intro)
          refine ⟨?rel, by rw [show (X.length : Int) = (k : Int) + 1 by omega, hlen]⟩
          case rel => exact ⟨k + 1, by go_num, hlt, Lib.hid (below_on HW6.out HW9.out)⟩
          case measure => simp [intOf]; omega
        obtain ⟨n, hn'⟩ := Int.eq_ofNat_of_zero_le hrt.1
        have hn7 : n < 7 := by have := hrt.2; omega
        have hni : (n : Int) < 7 := by omega
        have hni0 : (0 : Int) ≤ (n : Int) := by omega
        obtain ⟨dv, hdv⟩ : ∃ dv, dv = M.dep st.r n := ⟨_, rfl⟩
        have hlt0 : decide (dv < xr.is) = false := decide_eq_false (by
          have := HDX.out HL.out.symm hq2 hst hi
          rw [hn'] at this
          simp only [Int.toNat_natCast] at this
          omega)
        have HN := Lib.hid (show xr.ir = (n : Int) from hn')
        have HDV := Lib.hid hdv
        obtain ⟨s1, s2⟩ := neI hst
        have HIV := Lib.hid hi
        clear hst hi hn' hdv hrt
        have o0 : wr.cell? ⟨wq.heap.size, 0, none⟩ = some (.int .i64 xr.ir) := hold_cell (KO6.out.on HW8.out) 0 rfl
        have o1 : wr.cell? ⟨wq.heap.size, 1, none⟩ = some (.int .i64 xr.is) := hold_cell (KO6.out.on HW8.out) 1 rfl
        have z0 : wr.cell? ⟨w3.heap.size, 0, none⟩ = some (.int .i64 st.r.ir) := hold_cell (KS6.out.on HW8.out) 0 rfl
        have z1 : wr.cell? ⟨w3.heap.size, 1, none⟩ = some (.int .i64 st.r.is) := hold_cell (KS6.out.on HW8.out) 1 rfl
        have o2 : wr.cell? ⟨wq.heap.size, 2, none⟩ = some (.int .i64 xr.st) := hold_cell (KO6.out.on HW8.out) 2 rfl
        have KO8 := KO6.out.on HW8.out
        have KS8 := KS6.out.on HW8.out
        have HW8' := Lib.hid HW8.out
        have HW68 := Lib.hid HW6.out
        have ocw : wr.rangeAt wq.heap.size 7 [.int .i64 xr.c.k, .int .i64 xr.c.tc, .int .i64 xr.c.tn, .int .i64 xr.c.tt, .int .i64 xr.c.tk, .int .i64 xr.c.sh, ya', yb', .bool xr.c.cm] := rowRange_cmd (o := 0) KO8.cel.whole
        have scw : wr.rangeAt w3.heap.size 7 [.int .i64 st.r.c.k, .int .i64 st.r.c.tc, .int .i64 st.r.c.tn, .int .i64 st.r.c.tt, .int .i64 st.r.c.tk, .int .i64 st.r.c.sh, xa, xb, .bool st.r.c.cm] := lor_cmd KS8
        go_wp2_with (first
          | (with_reducible refine wpList_load_mid_g ?_ 30 _ rfl wq.heap.size 7 rfl [.int .i64 xr.c.k, .int .i64 xr.c.tc, .int .i64 xr.c.tn, .int .i64 xr.c.tt, .int .i64 xr.c.tk, .int .i64 xr.c.sh, ya', yb', .bool xr.c.cm] _ ocw Tryz.underlying30 rfl (by kernel_rfl) ?_; kernel_rfl)
          | (with_reducible refine wpList_load_mid_g ?_ 30 _ rfl w3.heap.size 7 rfl [.int .i64 st.r.c.k, .int .i64 st.r.c.tc, .int .i64 st.r.c.tn, .int .i64 st.r.c.tt, .int .i64 st.r.c.tk, .int .i64 st.r.c.sh, xa, xb, .bool st.r.c.cm] _ scw Tryz.underlying30 rfl (by kernel_rfl) ?_; kernel_rfl)
          | (go_at_call 24
             have hbw := below_on HW68.out HW8'.out
             have HA := dinter_any xr.c st.r.c (HTX.out.below hbw).rs (HTX.out.below hbw).ws (T4.out.below hbw).rs (T4.out.below hbw).ws HMX.out HMD.out
             rw [HIV.out] at HA
             refine HA.mono ?_
             clear HA hbw
             rintro e wa ⟨rfl, hb⟩
             have HW9 := Lib.hid (below_on HW8'.out hb)
             clear hb)
          | fail)
        clear o0 o1 o2 z0 z1
        have hbd : Below wa.heap.size wa wa.drew := (Below.refl _ _).drew
        have KOD := Lib.hid ((KO6.out.on HW9.out).on hbd)
        have KSD := Lib.hid ((KS6.out.on HW9.out).on hbd)
        have HBD := Lib.hid (below_on HW9.out hbd)
        clear hbd
        refine wp_region_held_drew (S := fun w' => w'.cell? ⟨wq.heap.size, 0, none⟩ = some (.int .i64 (n : Int)) ∧ w'.cell? ⟨wq.heap.size, 1, none⟩ = some (.int .i64 xr.is) ∧ w'.cell? ⟨w3.heap.size, 17 + n, none⟩ = some (.int .i64 dv)) (by kernel_rfl) (by exact ⟨(hold_cell KOD.out 0 rfl).trans (by rw [HN.out]), hold_cell KOD.out 1 rfl, by rw [HDV.out]; exact stc_dep KSD.out n hn7⟩) (fun hHeld => ?_)
        refine wpAnyH_take (i := 0) (oi := ⟨some 93, .fieldAddr 41 (.tmp 10) 0, 0, _, _, none⟩) (v := ?_) rfl (by kernel_rfl) (by kernel_rfl) (by kernel_rfl) (fun _ _ _ h => h) (Or.inl ⟨by rfl, ?_⟩) (by assumption) ?_
        rotate_left
        · (intro w hSw; (try dsimp only at hSw); go_split_ands; go_simp; (try with_reducible rfl))
        (try simp only [Act.put]); (try simp only [List.setIfInBounds_toArray]); (try simp only [List.set_cons_succ]); (try simp only [List.set_cons_zero])
        refine wpAnyH_take (i := 1) (oi := ⟨some 94, .fieldAddr 32 (.tmp 93) 0, 0, _, _, none⟩) (v := ?_) rfl (by kernel_rfl) (by kernel_rfl) (by kernel_rfl) (fun _ _ _ h => h) (Or.inl ⟨by rfl, ?_⟩) (by assumption) ?_
        rotate_left
        · (intro w hSw; (try dsimp only at hSw); go_split_ands; go_simp; (try with_reducible rfl))
        (try simp only [Act.put]); (try simp only [List.setIfInBounds_toArray]); (try simp only [List.set_cons_succ]); (try simp only [List.set_cons_zero])
        refine wpAnyH_take (i := 2) (oi := ⟨some 95, .load 3 (.tmp 94), 3, _, _, none⟩) (v := ?_) rfl (by kernel_rfl) (by kernel_rfl) (by kernel_rfl) (fun _ _ _ h => h) (Or.inl ⟨by rfl, ?_⟩) (by assumption) ?_
        rotate_left
        · (intro w hSw; (try dsimp only at hSw); go_split_ands; go_simp; (try with_reducible rfl))
        (try simp only [Act.put]); (try simp only [List.setIfInBounds_toArray]); (try simp only [List.set_cons_succ]); (try simp only [List.set_cons_zero])
        refine wpAnyH_take (i := 3) (oi := ⟨some 96, .fieldAddr 52 (.tmp 7) 0, 0, _, _, none⟩) (v := ?_) rfl (by kernel_rfl) (by kernel_rfl) (by kernel_rfl) (fun _ _ _ h => h) (Or.inl ⟨by rfl, ?_⟩) (by assumption) ?_
        rotate_left
        · (intro w hSw; (try dsimp only at hSw); go_split_ands; go_simp; (try with_reducible rfl))
        (try simp only [Act.put]); (try simp only [List.setIfInBounds_toArray]); (try simp only [List.set_cons_succ]); (try simp only [List.set_cons_zero])
        refine wpAnyH_take (i := 4) (oi := ⟨some 97, .fieldAddr 41 (.tmp 96) 6, 0, _, _, none⟩) (v := ?_) rfl (by kernel_rfl) (by kernel_rfl) (by kernel_rfl) (fun _ _ _ h => h) (Or.inl ⟨by rfl, ?_⟩) (by assumption) ?_
        rotate_left
        · (intro w hSw; (try dsimp only at hSw); go_split_ands; go_simp; (try with_reducible rfl))
        (try simp only [Act.put]); (try simp only [List.setIfInBounds_toArray]); (try simp only [List.set_cons_succ]); (try simp only [List.set_cons_zero])
        refine wpAnyH_take (i := 5) (oi := ⟨some 98, .indexAddr 39 (.tmp 97) (.tmp 95), 0, _, _, none⟩) (v := ?_) rfl (by kernel_rfl) (by kernel_rfl) (by kernel_rfl) (fun _ _ _ h => h) (Or.inl ⟨by rfl, ?_⟩) (by assumption) ?_
        rotate_left
        · (intro w hSw; (try dsimp only at hSw); go_split_ands; go_simp; (try with_reducible rfl))
        (try simp only [Act.put]); (try simp only [List.setIfInBounds_toArray]); (try simp only [List.set_cons_succ]); (try simp only [List.set_cons_zero])
        refine wpAnyH_take (i := 6) (oi := ⟨some 99, .load 3 (.tmp 98), 3, _, _, none⟩) (v := ?_) rfl (by kernel_rfl) (by kernel_rfl) (by kernel_rfl) (fun _ _ _ h => h) (Or.inl ⟨by rfl, ?_⟩) (by assumption) ?_
        rotate_left
        · (intro w hSw; (try dsimp only at hSw); go_split_ands; go_simp; (try with_reducible rfl))
        (try simp only [Act.put]); (try simp only [List.setIfInBounds_toArray]); (try simp only [List.set_cons_succ]); (try simp only [List.set_cons_zero])
        refine wpAnyH_take (i := 7) (oi := ⟨some 100, .fieldAddr 41 (.tmp 10) 0, 0, _, _, none⟩) (v := ?_) rfl (by kernel_rfl) (by kernel_rfl) (by kernel_rfl) (fun _ _ _ h => h) (Or.inl ⟨by rfl, ?_⟩) (by assumption) ?_
        rotate_left
        · (intro w hSw; (try dsimp only at hSw); go_split_ands; go_simp; (try with_reducible rfl))
        (try simp only [Act.put]); (try simp only [List.setIfInBounds_toArray]); (try simp only [List.set_cons_succ]); (try simp only [List.set_cons_zero])
        refine wpAnyH_take (i := 8) (oi := ⟨some 101, .fieldAddr 32 (.tmp 100) 1, 0, _, _, none⟩) (v := ?_) rfl (by kernel_rfl) (by kernel_rfl) (by kernel_rfl) (fun _ _ _ h => h) (Or.inl ⟨by rfl, ?_⟩) (by assumption) ?_
        rotate_left
        · (intro w hSw; (try dsimp only at hSw); go_split_ands; go_simp; (try with_reducible rfl))
        (try simp only [Act.put]); (try simp only [List.setIfInBounds_toArray]); (try simp only [List.set_cons_succ]); (try simp only [List.set_cons_zero])
        refine wpAnyH_take (i := 9) (oi := ⟨some 102, .load 3 (.tmp 101), 3, _, _, none⟩) (v := ?_) rfl (by kernel_rfl) (by kernel_rfl) (by kernel_rfl) (fun _ _ _ h => h) (Or.inl ⟨by rfl, ?_⟩) (by assumption) ?_
        rotate_left
        · (intro w hSw; (try dsimp only at hSw); go_split_ands; go_simp; (try with_reducible rfl))
        (try simp only [Act.put]); (try simp only [List.setIfInBounds_toArray]); (try simp only [List.set_cons_succ]); (try simp only [List.set_cons_zero])
        refine wpAnyH_take (i := 10) (oi := ⟨some 103, .binOp .lss 3 (.tmp 99) (.tmp 102) 3, 4, _, _, none⟩) (v := ?_) rfl (by kernel_rfl) (by kernel_rfl) (by kernel_rfl) (fun _ _ _ h => h) (Or.inl ⟨by rfl, ?_⟩) (by assumption) ?_
        rotate_left
        · (intro w hSw; (try dsimp only at hSw); go_split_ands; go_simp; (try with_reducible rfl))
        (try simp only [Act.put]); (try simp only [List.setIfInBounds_toArray]); (try simp only [List.set_cons_succ]); (try simp only [List.set_cons_zero])
        refine wpAnyH_done (by kernel_rfl) ?_ _
        clear hHeld
        go_wp2
        refine ⟨?_, ?measure⟩
        iterate 26 (apply Exists.intro)
        (repeat apply Exists.intro)
        refine ⟨?rel, by rw [show (X.length : Int) = (k : Int) + 1 by omega, hlen]⟩
        case rel => exact ⟨k + 1, by go_num, hlt, Lib.hid (below_on HW6.out HBD.out)⟩
        case measure => simp [intOf]; omega
    have hcc1 : k + 1 < cc := by omega
    have hcc2 : (k : Int) + 1 ≤ (cc : Int) := by omega
    have hcc3 : (k : Int) + 1 ≤ (X.length : Int) := by omega
    go_wp2_with (first
      | (with_reducible refine wpList_load_mid rfl 41 _ rfl b (o + k * 25) rfl [.int .i64 xr.ir, .int .i64 xr.is, .int .i64 xr.st, .int .i64 xr.pn, .int .i64 xr.pr, .int .i64 xr.bn, .int .i64 xr.br, .int .i64 xr.c.k, .int .i64 xr.c.tc, .int .i64 xr.c.tn, .int .i64 xr.c.tt, .int .i64 xr.c.tk, .int .i64 xr.c.sh, ya', yb', .bool xr.c.cm, .int .i64 xr.sq, .int .i64 xr.d0, .int .i64 xr.d1, .int .i64 xr.d2, .int .i64 xr.d3, .int .i64 xr.d4, .int .i64 xr.d5, .int .i64 xr.d6, .bool xr.kp] _ HRRo Tryz.underlying41 rfl (by kernel_rfl) ?_)
      | (with_reducible refine store_freshA rfl 41 _ _ rfl wq.heap.size rfl 41 _ [.int .i64 xr.ir, .int .i64 xr.is, .int .i64 xr.st, .int .i64 xr.pn, .int .i64 xr.pr, .int .i64 xr.bn, .int .i64 xr.br, .int .i64 xr.c.k, .int .i64 xr.c.tc, .int .i64 xr.c.tn, .int .i64 xr.c.tt, .int .i64 xr.c.tk, .int .i64 xr.c.sh, ya', yb', .bool xr.c.cm, .int .i64 xr.sq, .int .i64 xr.d0, .int .i64 xr.d1, .int .i64 xr.d2, .int .i64 xr.d3, .int .i64 xr.d4, .int .i64 xr.d5, .int .i64 xr.d6, .bool xr.kp] rfl rfl rfl (by kernel_rfl) oy ?_
         intro w6 G6 b6
         have HW6 := Lib.hid (below_on HW.out b6)
         have KO6 := Lib.hid G6
         have KS6 := Lib.hid (KS4.out.on HW6.out)
         clear b6 G6)
      | fail)
    go_loopw [11, 56] (fun l i wi => ∃ (j : Nat) (q : Bool), i = .int .i64 j ∧ j ≤ X.length - (k + 1) ∧ l = .bool q ∧ Hid (q = noB X k j) ∧ Hid (Below w6.heap.size w6 wi)) (fun _ i _ => X.length - (k + 1) - (intOf i).toNat)
    case atStart => exact ⟨0, true, rfl, Nat.zero_le _, rfl, Lib.hid (noB_zero X k).symm, Lib.hid (Below.refl _ _)⟩
    case round =>
      obtain ⟨j, q, rfl, hj, rfl, HQ, HW8⟩ := hrel
      by_cases hjl : j < X.length - (k + 1)
      · obtain ⟨y, hy⟩ : ∃ y, X[k + 1 + j]? = some y := ⟨_, List.getElem?_eq_getElem (by omega)⟩
        have HB8 := Lib.hid (below_on HW6.out HW8.out)
        obtain ⟨b', o', eb, hbl', hry⟩ := rowN_range (HX4.out.below HB8.out).row hy
        simp only [Option.some.injEq, Addr.mk.injEq, and_true] at eb
        obtain ⟨rfl, rfl⟩ := eb
        have HTY := Lib.hid (HX4.out.tx y (List.mem_of_getElem? hy))
        have HNS := Lib.hid (noB_succ HKX.out hy)
        obtain ⟨yr, za, zb⟩ := y
        have HYY : wr.rangeAt b (o + (k + 1) * 25 + j * 25) [.int .i64 yr.ir, .int .i64 yr.is, .int .i64 yr.st, .int .i64 yr.pn, .int .i64 yr.pr, .int .i64 yr.bn, .int .i64 yr.br, .int .i64 yr.c.k, .int .i64 yr.c.tc, .int .i64 yr.c.tn, .int .i64 yr.c.tt, .int .i64 yr.c.tk, .int .i64 yr.c.sh, za, zb, .bool yr.c.cm, .int .i64 yr.sq, .int .i64 yr.d0, .int .i64 yr.d1, .int .i64 yr.d2, .int .i64 yr.d3, .int .i64 yr.d4, .int .i64 yr.d5, .int .i64 yr.d6, .bool yr.kp] := by
          rw [show o + (k + 1) * 25 + j * 25 = o + (k + 1 + j) * 25 by omega]; exact hry
        have oz : ([.int .i64 yr.ir, .int .i64 yr.is, .int .i64 yr.st, .int .i64 yr.pn, .int .i64 yr.pr, .int .i64 yr.bn, .int .i64 yr.br, .int .i64 yr.c.k, .int .i64 yr.c.tc, .int .i64 yr.c.tn, .int .i64 yr.c.tt, .int .i64 yr.c.tk, .int .i64 yr.c.sh, za, zb, .bool yr.c.cm, .int .i64 yr.sq, .int .i64 yr.d0, .int .i64 yr.d1, .int .i64 yr.d2, .int .i64 yr.d3, .int .i64 yr.d4, .int .i64 yr.d5, .int .i64 yr.d6, .bool yr.kp] : List Value).all (·.oneCell') = true := rv_one (x := ⟨yr, za, zb⟩) (rds_one HTY.out.rs) (wrs_one HTY.out.ws)
        have hj1 : (j : Int) < ((X.length - (k + 1) : Nat) : Int) := by omega
        clear hy hry
        rcases q with _ | _
        · have HQ1 := Lib.hid (show false = noB X k (j + 1) by rw [HNS.out, ← HQ.out]; rfl)
          go_wp2_with (first
            | (with_reducible refine wpList_load_mid rfl 41 _ rfl b (o + (k + 1) * 25 + j * 25) rfl [.int .i64 yr.ir, .int .i64 yr.is, .int .i64 yr.st, .int .i64 yr.pn, .int .i64 yr.pr, .int .i64 yr.bn, .int .i64 yr.br, .int .i64 yr.c.k, .int .i64 yr.c.tc, .int .i64 yr.c.tn, .int .i64 yr.c.tt, .int .i64 yr.c.tk, .int .i64 yr.c.sh, za, zb, .bool yr.c.cm, .int .i64 yr.sq, .int .i64 yr.d0, .int .i64 yr.d1, .int .i64 yr.d2, .int .i64 yr.d3, .int .i64 yr.d4, .int .i64 yr.d5, .int .i64 yr.d6, .bool yr.kp] _ HYY Tryz.underlying41 rfl (by kernel_rfl) ?_)
            | (with_reducible refine store_freshA rfl 41 _ _ rfl wr.heap.size rfl 41 _ [.int .i64 yr.ir, .int .i64 yr.is, .int .i64 yr.st, .int .i64 yr.pn, .int .i64 yr.pr, .int .i64 yr.bn, .int .i64 yr.br, .int .i64 yr.c.k, .int .i64 yr.c.tc, .int .i64 yr.c.tn, .int .i64 yr.c.tt, .int .i64 yr.c.tk, .int .i64 yr.c.sh, za, zb, .bool yr.c.cm, .int .i64 yr.sq, .int .i64 yr.d0, .int .i64 yr.d1, .int .i64 yr.d2, .int .i64 yr.d3, .int .i64 yr.d4, .int .i64 yr.d5, .int .i64 yr.d6, .bool yr.kp] rfl rfl rfl (by kernel_rfl) oz ?_
               intro w7 G7 b7
               have HW7 := Lib.hid (below_on HW8.out b7)
               clear b7 G7)
            | fail)
          go_roundw
          case rel => exact ⟨j + 1, false, by go_num, hjl, rfl, HQ1, HW7⟩
          case measure => simp [intOf]; omega
        · rcases hq : M.eq2 yr.ir yr.is xr.ir xr.is with _ | _
          · have HQ1 := Lib.hid (show true = noB X k (j + 1) by rw [HNS.out, ← HQ.out, hq]; rfl)
            go_wp2_with (first
              | (with_reducible refine wpList_load_mid rfl 41 _ rfl b (o + (k + 1) * 25 + j * 25) rfl [.int .i64 yr.ir, .int .i64 yr.is, .int .i64 yr.st, .int .i64 yr.pn, .int .i64 yr.pr, .int .i64 yr.bn, .int .i64 yr.br, .int .i64 yr.c.k, .int .i64 yr.c.tc, .int .i64 yr.c.tn, .int .i64 yr.c.tt, .int .i64 yr.c.tk, .int .i64 yr.c.sh, za, zb, .bool yr.c.cm, .int .i64 yr.sq, .int .i64 yr.d0, .int .i64 yr.d1, .int .i64 yr.d2, .int .i64 yr.d3, .int .i64 yr.d4, .int .i64 yr.d5, .int .i64 yr.d6, .bool yr.kp] _ HYY Tryz.underlying41 rfl (by kernel_rfl) ?_)
              | (with_reducible refine store_freshA rfl 41 _ _ rfl wr.heap.size rfl 41 _ [.int .i64 yr.ir, .int .i64 yr.is, .int .i64 yr.st, .int .i64 yr.pn, .int .i64 yr.pr, .int .i64 yr.bn, .int .i64 yr.br, .int .i64 yr.c.k, .int .i64 yr.c.tc, .int .i64 yr.c.tn, .int .i64 yr.c.tt, .int .i64 yr.c.tk, .int .i64 yr.c.sh, za, zb, .bool yr.c.cm, .int .i64 yr.sq, .int .i64 yr.d0, .int .i64 yr.d1, .int .i64 yr.d2, .int .i64 yr.d3, .int .i64 yr.d4, .int .i64 yr.d5, .int .i64 yr.d6, .bool yr.kp] rfl rfl rfl (by kernel_rfl) oz ?_
                 intro w7 G7 b7
                 have HW7 := Lib.hid (below_on HW8.out b7)
                 have KO7 := KO6.out.on HW7.out
                 have y0 : w7.cell? ⟨wr.heap.size, 0, none⟩ = some (.int .i64 yr.ir) := hold_cell G7 0 rfl
                 have y1 : w7.cell? ⟨wr.heap.size, 1, none⟩ = some (.int .i64 yr.is) := hold_cell G7 1 rfl
                 have o0 : w7.cell? ⟨wq.heap.size, 0, none⟩ = some (.int .i64 xr.ir) := hold_cell KO7 0 rfl
                 have o1 : w7.cell? ⟨wq.heap.size, 1, none⟩ = some (.int .i64 xr.is) := hold_cell KO7 1 rfl
                 clear b7 G7 KO7)
              | fail)
            go_roundw
            case rel => exact ⟨j + 1, true, by go_num, hjl, rfl, HQ1, HW7⟩
            case measure => simp [intOf]; omega
          · have HQ1 := Lib.hid (show false = noB X k (j + 1) by rw [HNS.out, ← HQ.out, hq]; rfl)
            go_wp2_with (first
              | (with_reducible refine wpList_load_mid rfl 41 _ rfl b (o + (k + 1) * 25 + j * 25) rfl [.int .i64 yr.ir, .int .i64 yr.is, .int .i64 yr.st, .int .i64 yr.pn, .int .i64 yr.pr, .int .i64 yr.bn, .int .i64 yr.br, .int .i64 yr.c.k, .int .i64 yr.c.tc, .int .i64 yr.c.tn, .int .i64 yr.c.tt, .int .i64 yr.c.tk, .int .i64 yr.c.sh, za, zb, .bool yr.c.cm, .int .i64 yr.sq, .int .i64 yr.d0, .int .i64 yr.d1, .int .i64 yr.d2, .int .i64 yr.d3, .int .i64 yr.d4, .int .i64 yr.d5, .int .i64 yr.d6, .bool yr.kp] _ HYY Tryz.underlying41 rfl (by kernel_rfl) ?_)
              | (with_reducible refine store_freshA rfl 41 _ _ rfl wr.heap.size rfl 41 _ [.int .i64 yr.ir, .int .i64 yr.is, .int .i64 yr.st, .int .i64 yr.pn, .int .i64 yr.pr, .int .i64 yr.bn, .int .i64 yr.br, .int .i64 yr.c.k, .int .i64 yr.c.tc, .int .i64 yr.c.tn, .int .i64 yr.c.tt, .int .i64 yr.c.tk, .int .i64 yr.c.sh, za, zb, .bool yr.c.cm, .int .i64 yr.sq, .int .i64 yr.d0, .int .i64 yr.d1, .int .i64 yr.d2, .int .i64 yr.d3, .int .i64 yr.d4, .int .i64 yr.d5, .int .i64 yr.d6, .bool yr.kp] rfl rfl rfl (by kernel_rfl) oz ?_
                 intro w7 G7 b7
                 have HW7 := Lib.hid (below_on HW8.out b7)
                 have KO7 := KO6.out.on HW7.out
                 have y0 : w7.cell? ⟨wr.heap.size, 0, none⟩ = some (.int .i64 yr.ir) := hold_cell G7 0 rfl
                 have y1 : w7.cell? ⟨wr.heap.size, 1, none⟩ = some (.int .i64 yr.is) := hold_cell G7 1 rfl
                 have o0 : w7.cell? ⟨wq.heap.size, 0, none⟩ = some (.int .i64 xr.ir) := hold_cell KO7 0 rfl
                 have o1 : w7.cell? ⟨wq.heap.size, 1, none⟩ = some (.int .i64 xr.is) := hold_cell KO7 1 rfl
                 clear b7 G7 KO7)
              | fail)
            go_roundw
            case rel => exact ⟨j + 1, false, by go_num, hjl, rfl, HQ1, HW7⟩
            case measure => simp [intOf]; omega
      · obtain rfl : j = X.length - (k + 1) := by omega
        have HL := Lib.hid (HQ.out.trans (noB_end (by omega)))
        clear HQ hj hjl
        rcases q with _ | _
        · go_wp2
          go_roundw
          case rel => exact ⟨k + 1, by go_num, hlt, Lib.hid (below_on HW6.out HW8.out)⟩
          case measure => simp [intOf]; omega
        rcases hq2 : M.eq2 xr.ir xr.is st.r.ir st.r.is with _ | _
        rotate_left
        · skip
          have o0 : wr.cell? ⟨wq.heap.size, 0, none⟩ = some (.int .i64 xr.ir) := hold_cell (KO6.out.on HW8.out) 0 rfl
          have o1 : wr.cell? ⟨wq.heap.size, 1, none⟩ = some (.int .i64 xr.is) := hold_cell (KO6.out.on HW8.out) 1 rfl
          have z0 : wr.cell? ⟨w3.heap.size, 0, none⟩ = some (.int .i64 st.r.ir) := hold_cell (KS6.out.on HW8.out) 0 rfl
          have z1 : wr.cell? ⟨w3.heap.size, 1, none⟩ = some (.int .i64 st.r.is) := hold_cell (KS6.out.on HW8.out) 1 rfl
          go_wp2
          go_roundw
          case rel => exact ⟨k + 1, by go_num, hlt, Lib.hid (below_on HW6.out HW8.out)⟩
          case measure => simp [intOf]; omega
        by_cases hst : xr.st = 0
        · obtain ⟨s1, s2⟩ := eqI hst
          clear hst
          have o0 : wr.cell? ⟨wq.heap.size, 0, none⟩ = some (.int .i64 xr.ir) := hold_cell (KO6.out.on HW8.out) 0 rfl
          have o1 : wr.cell? ⟨wq.heap.size, 1, none⟩ = some (.int .i64 xr.is) := hold_cell (KO6.out.on HW8.out) 1 rfl
          have z0 : wr.cell? ⟨w3.heap.size, 0, none⟩ = some (.int .i64 st.r.ir) := hold_cell (KS6.out.on HW8.out) 0 rfl
          have z1 : wr.cell? ⟨w3.heap.size, 1, none⟩ = some (.int .i64 st.r.is) := hold_cell (KS6.out.on HW8.out) 1 rfl
          have o2 : wr.cell? ⟨wq.heap.size, 2, none⟩ = some (.int .i64 xr.st) := hold_cell (KO6.out.on HW8.out) 2 rfl
          go_wp2
          go_roundw
          case rel => exact ⟨k + 1, by go_num, hlt, Lib.hid (below_on HW6.out HW8.out)⟩
          case measure => simp [intOf]; omega
        rcases hi : M.interB xr.c st.r.c with _ | _
        · obtain ⟨s1, s2⟩ := neI hst
          have HIV := Lib.hid hi
          clear hst hi
          have o0 : wr.cell? ⟨wq.heap.size, 0, none⟩ = some (.int .i64 xr.ir) := hold_cell (KO6.out.on HW8.out) 0 rfl
          have o1 : wr.cell? ⟨wq.heap.size, 1, none⟩ = some (.int .i64 xr.is) := hold_cell (KO6.out.on HW8.out) 1 rfl
          have z0 : wr.cell? ⟨w3.heap.size, 0, none⟩ = some (.int .i64 st.r.ir) := hold_cell (KS6.out.on HW8.out) 0 rfl
          have z1 : wr.cell? ⟨w3.heap.size, 1, none⟩ = some (.int .i64 st.r.is) := hold_cell (KS6.out.on HW8.out) 1 rfl
          have o2 : wr.cell? ⟨wq.heap.size, 2, none⟩ = some (.int .i64 xr.st) := hold_cell (KO6.out.on HW8.out) 2 rfl
          have KO8 := KO6.out.on HW8.out
          have KS8 := KS6.out.on HW8.out
          have HW8' := Lib.hid HW8.out
          have HW68 := Lib.hid HW6.out
          have ocw : wr.rangeAt wq.heap.size 7 [.int .i64 xr.c.k, .int .i64 xr.c.tc, .int .i64 xr.c.tn, .int .i64 xr.c.tt, .int .i64 xr.c.tk, .int .i64 xr.c.sh, ya', yb', .bool xr.c.cm] := rowRange_cmd (o := 0) KO8.cel.whole
          have scw : wr.rangeAt w3.heap.size 7 [.int .i64 st.r.c.k, .int .i64 st.r.c.tc, .int .i64 st.r.c.tn, .int .i64 st.r.c.tt, .int .i64 st.r.c.tk, .int .i64 st.r.c.sh, xa, xb, .bool st.r.c.cm] := lor_cmd KS8
          go_wp2_with (first
            | (with_reducible refine wpList_load_mid_g ?_ 30 _ rfl wq.heap.size 7 rfl [.int .i64 xr.c.k, .int .i64 xr.c.tc, .int .i64 xr.c.tn, .int .i64 xr.c.tt, .int .i64 xr.c.tk, .int .i64 xr.c.sh, ya', yb', .bool xr.c.cm] _ ocw Tryz.underlying30 rfl (by kernel_rfl) ?_; kernel_rfl)
            | (with_reducible refine wpList_load_mid_g ?_ 30 _ rfl w3.heap.size 7 rfl [.int .i64 st.r.c.k, .int .i64 st.r.c.tc, .int .i64 st.r.c.tn, .int .i64 st.r.c.tt, .int .i64 st.r.c.tk, .int .i64 st.r.c.sh, xa, xb, .bool st.r.c.cm] _ scw Tryz.underlying30 rfl (by kernel_rfl) ?_; kernel_rfl)
            | (go_at_call 24
               have hbw := below_on HW68.out HW8'.out
               have HA := dinter_any xr.c st.r.c (HTX.out.below hbw).rs (HTX.out.below hbw).ws (T4.out.below hbw).rs (T4.out.below hbw).ws HMX.out HMD.out
               rw [HIV.out] at HA
               refine HA.mono ?_
               clear HA hbw
               rintro e wa ⟨rfl, hb⟩
               have HW9 := Lib.hid (below_on HW8'.out hb)
               clear hb)
            | fail)
          go_roundw
          case rel => exact ⟨k + 1, by go_num, hlt, Lib.hid (below_on HW6.out HW9.out)⟩
          case measure => simp [intOf]; omega
        obtain ⟨n, hn'⟩ := Int.eq_ofNat_of_zero_le hrt.1
        have hn7 : n < 7 := by have := hrt.2; omega
        have hni : (n : Int) < 7 := by omega
        have hni0 : (0 : Int) ≤ (n : Int) := by omega
        obtain ⟨dv, hdv⟩ : ∃ dv, dv = M.dep st.r n := ⟨_, rfl⟩
        have hlt0 : decide (dv < xr.is) = false := decide_eq_false (by
          have := HDX.out HL.out.symm hq2 hst hi
          rw [hn'] at this
          simp only [Int.toNat_natCast] at this
          omega)
        have HN := Lib.hid (show xr.ir = (n : Int) from hn')
        have HDV := Lib.hid hdv
        obtain ⟨s1, s2⟩ := neI hst
        have HIV := Lib.hid hi
        clear hst hi hn' hdv hrt
        have o0 : wr.cell? ⟨wq.heap.size, 0, none⟩ = some (.int .i64 xr.ir) := hold_cell (KO6.out.on HW8.out) 0 rfl
        have o1 : wr.cell? ⟨wq.heap.size, 1, none⟩ = some (.int .i64 xr.is) := hold_cell (KO6.out.on HW8.out) 1 rfl
        have z0 : wr.cell? ⟨w3.heap.size, 0, none⟩ = some (.int .i64 st.r.ir) := hold_cell (KS6.out.on HW8.out) 0 rfl
        have z1 : wr.cell? ⟨w3.heap.size, 1, none⟩ = some (.int .i64 st.r.is) := hold_cell (KS6.out.on HW8.out) 1 rfl
        have o2 : wr.cell? ⟨wq.heap.size, 2, none⟩ = some (.int .i64 xr.st) := hold_cell (KO6.out.on HW8.out) 2 rfl
        have KO8 := KO6.out.on HW8.out
        have KS8 := KS6.out.on HW8.out
        have HW8' := Lib.hid HW8.out
        have HW68 := Lib.hid HW6.out
        have ocw : wr.rangeAt wq.heap.size 7 [.int .i64 xr.c.k, .int .i64 xr.c.tc, .int .i64 xr.c.tn, .int .i64 xr.c.tt, .int .i64 xr.c.tk, .int .i64 xr.c.sh, ya', yb', .bool xr.c.cm] := rowRange_cmd (o := 0) KO8.cel.whole
        have scw : wr.rangeAt w3.heap.size 7 [.int .i64 st.r.c.k, .int .i64 st.r.c.tc, .int .i64 st.r.c.tn, .int .i64 st.r.c.tt, .int .i64 st.r.c.tk, .int .i64 st.r.c.sh, xa, xb, .bool st.r.c.cm] := lor_cmd KS8
        go_wp2_with (first
          | (with_reducible refine wpList_load_mid_g ?_ 30 _ rfl wq.heap.size 7 rfl [.int .i64 xr.c.k, .int .i64 xr.c.tc, .int .i64 xr.c.tn, .int .i64 xr.c.tt, .int .i64 xr.c.tk, .int .i64 xr.c.sh, ya', yb', .bool xr.c.cm] _ ocw Tryz.underlying30 rfl (by kernel_rfl) ?_; kernel_rfl)
          | (with_reducible refine wpList_load_mid_g ?_ 30 _ rfl w3.heap.size 7 rfl [.int .i64 st.r.c.k, .int .i64 st.r.c.tc, .int .i64 st.r.c.tn, .int .i64 st.r.c.tt, .int .i64 st.r.c.tk, .int .i64 st.r.c.sh, xa, xb, .bool st.r.c.cm] _ scw Tryz.underlying30 rfl (by kernel_rfl) ?_; kernel_rfl)
          | (go_at_call 24
             have hbw := below_on HW68.out HW8'.out
             have HA := dinter_any xr.c st.r.c (HTX.out.below hbw).rs (HTX.out.below hbw).ws (T4.out.below hbw).rs (T4.out.below hbw).ws HMX.out HMD.out
             rw [HIV.out] at HA
             refine HA.mono ?_
             clear HA hbw
             rintro e wa ⟨rfl, hb⟩
             have HW9 := Lib.hid (below_on HW8'.out hb)
             clear hb)
          | fail)
        clear o0 o1 o2 z0 z1
        have hbd : Below wa.heap.size wa wa.drew := (Below.refl _ _).drew
        have KOD := Lib.hid ((KO6.out.on HW9.out).on hbd)
        have KSD := Lib.hid ((KS6.out.on HW9.out).on hbd)
        have HBD := Lib.hid (below_on HW9.out hbd)
        clear hbd
        refine wp_region_held_drew (S := fun w' => w'.cell? ⟨wq.heap.size, 0, none⟩ = some (.int .i64 (n : Int)) ∧ w'.cell? ⟨wq.heap.size, 1, none⟩ = some (.int .i64 xr.is) ∧ w'.cell? ⟨w3.heap.size, 17 + n, none⟩ = some (.int .i64 dv)) (by kernel_rfl) (by exact ⟨(hold_cell KOD.out 0 rfl).trans (by rw [HN.out]), hold_cell KOD.out 1 rfl, by rw [HDV.out]; exact stc_dep KSD.out n hn7⟩) (fun hHeld => ?_)
        refine wpAnyH_take (i := 0) (oi := ⟨some 93, .fieldAddr 41 (.tmp 10) 0, 0, _, _, none⟩) (v := ?_) rfl (by kernel_rfl) (by kernel_rfl) (by kernel_rfl) (fun _ _ _ h => h) (Or.inl ⟨by rfl, ?_⟩) (by assumption) ?_
        rotate_left
        · (intro w hSw; (try dsimp only at hSw); go_split_ands; go_simp; (try with_reducible rfl))
        (try simp only [Act.put]); (try simp only [List.setIfInBounds_toArray]); (try simp only [List.set_cons_succ]); (try simp only [List.set_cons_zero])
        refine wpAnyH_take (i := 1) (oi := ⟨some 94, .fieldAddr 32 (.tmp 93) 0, 0, _, _, none⟩) (v := ?_) rfl (by kernel_rfl) (by kernel_rfl) (by kernel_rfl) (fun _ _ _ h => h) (Or.inl ⟨by rfl, ?_⟩) (by assumption) ?_
        rotate_left
        · (intro w hSw; (try dsimp only at hSw); go_split_ands; go_simp; (try with_reducible rfl))
        (try simp only [Act.put]); (try simp only [List.setIfInBounds_toArray]); (try simp only [List.set_cons_succ]); (try simp only [List.set_cons_zero])
        refine wpAnyH_take (i := 2) (oi := ⟨some 95, .load 3 (.tmp 94), 3, _, _, none⟩) (v := ?_) rfl (by kernel_rfl) (by kernel_rfl) (by kernel_rfl) (fun _ _ _ h => h) (Or.inl ⟨by rfl, ?_⟩) (by assumption) ?_
        rotate_left
        · (intro w hSw; (try dsimp only at hSw); go_split_ands; go_simp; (try with_reducible rfl))
        (try simp only [Act.put]); (try simp only [List.setIfInBounds_toArray]); (try simp only [List.set_cons_succ]); (try simp only [List.set_cons_zero])
        refine wpAnyH_take (i := 3) (oi := ⟨some 96, .fieldAddr 52 (.tmp 7) 0, 0, _, _, none⟩) (v := ?_) rfl (by kernel_rfl) (by kernel_rfl) (by kernel_rfl) (fun _ _ _ h => h) (Or.inl ⟨by rfl, ?_⟩) (by assumption) ?_
        rotate_left
        · (intro w hSw; (try dsimp only at hSw); go_split_ands; go_simp; (try with_reducible rfl))
        (try simp only [Act.put]); (try simp only [List.setIfInBounds_toArray]); (try simp only [List.set_cons_succ]); (try simp only [List.set_cons_zero])
        refine wpAnyH_take (i := 4) (oi := ⟨some 97, .fieldAddr 41 (.tmp 96) 6, 0, _, _, none⟩) (v := ?_) rfl (by kernel_rfl) (by kernel_rfl) (by kernel_rfl) (fun _ _ _ h => h) (Or.inl ⟨by rfl, ?_⟩) (by assumption) ?_
        rotate_left
        · (intro w hSw; (try dsimp only at hSw); go_split_ands; go_simp; (try with_reducible rfl))
        (try simp only [Act.put]); (try simp only [List.setIfInBounds_toArray]); (try simp only [List.set_cons_succ]); (try simp only [List.set_cons_zero])
        refine wpAnyH_take (i := 5) (oi := ⟨some 98, .indexAddr 39 (.tmp 97) (.tmp 95), 0, _, _, none⟩) (v := ?_) rfl (by kernel_rfl) (by kernel_rfl) (by kernel_rfl) (fun _ _ _ h => h) (Or.inl ⟨by rfl, ?_⟩) (by assumption) ?_
        rotate_left
        · (intro w hSw; (try dsimp only at hSw); go_split_ands; go_simp; (try with_reducible rfl))
        (try simp only [Act.put]); (try simp only [List.setIfInBounds_toArray]); (try simp only [List.set_cons_succ]); (try simp only [List.set_cons_zero])
        refine wpAnyH_take (i := 6) (oi := ⟨some 99, .load 3 (.tmp 98), 3, _, _, none⟩) (v := ?_) rfl (by kernel_rfl) (by kernel_rfl) (by kernel_rfl) (fun _ _ _ h => h) (Or.inl ⟨by rfl, ?_⟩) (by assumption) ?_
        rotate_left
        · (intro w hSw; (try dsimp only at hSw); go_split_ands; go_simp; (try with_reducible rfl))
        (try simp only [Act.put]); (try simp only [List.setIfInBounds_toArray]); (try simp only [List.set_cons_succ]); (try simp only [List.set_cons_zero])
        refine wpAnyH_take (i := 7) (oi := ⟨some 100, .fieldAddr 41 (.tmp 10) 0, 0, _, _, none⟩) (v := ?_) rfl (by kernel_rfl) (by kernel_rfl) (by kernel_rfl) (fun _ _ _ h => h) (Or.inl ⟨by rfl, ?_⟩) (by assumption) ?_
        rotate_left
        · (intro w hSw; (try dsimp only at hSw); go_split_ands; go_simp; (try with_reducible rfl))
        (try simp only [Act.put]); (try simp only [List.setIfInBounds_toArray]); (try simp only [List.set_cons_succ]); (try simp only [List.set_cons_zero])
        refine wpAnyH_take (i := 8) (oi := ⟨some 101, .fieldAddr 32 (.tmp 100) 1, 0, _, _, none⟩) (v := ?_) rfl (by kernel_rfl) (by kernel_rfl) (by kernel_rfl) (fun _ _ _ h => h) (Or.inl ⟨by rfl, ?_⟩) (by assumption) ?_
        rotate_left
        · (intro w hSw; (try dsimp only at hSw); go_split_ands; go_simp; (try with_reducible rfl))
        (try simp only [Act.put]); (try simp only [List.setIfInBounds_toArray]); (try simp only [List.set_cons_succ]); (try simp only [List.set_cons_zero])
        refine wpAnyH_take (i := 9) (oi := ⟨some 102, .load 3 (.tmp 101), 3, _, _, none⟩) (v := ?_) rfl (by kernel_rfl) (by kernel_rfl) (by kernel_rfl) (fun _ _ _ h => h) (Or.inl ⟨by rfl, ?_⟩) (by assumption) ?_
        rotate_left
        · (intro w hSw; (try dsimp only at hSw); go_split_ands; go_simp; (try with_reducible rfl))
        (try simp only [Act.put]); (try simp only [List.setIfInBounds_toArray]); (try simp only [List.set_cons_succ]); (try simp only [List.set_cons_zero])
        refine wpAnyH_take (i := 10) (oi := ⟨some 103, .binOp .lss 3 (.tmp 99) (.tmp 102) 3, 4, _, _, none⟩) (v := ?_) rfl (by kernel_rfl) (by kernel_rfl) (by kernel_rfl) (fun _ _ _ h => h) (Or.inl ⟨by rfl, ?_⟩) (by assumption) ?_
        rotate_left
        · (intro w hSw; (try dsimp only at hSw); go_split_ands; go_simp; (try with_reducible rfl))
        (try simp only [Act.put]); (try simp only [List.setIfInBounds_toArray]); (try simp only [List.set_cons_succ]); (try simp only [List.set_cons_zero])
        refine wpAnyH_done (by kernel_rfl) ?_ _
        clear hHeld
        go_wp2
        go_roundw
        case rel => exact ⟨k + 1, by go_num, hlt, Lib.hid (below_on HW6.out HBD.out)⟩
        case measure => simp [intOf]; omega
end Go.Proofs.YtpknkhgkejkpkaaGreat
