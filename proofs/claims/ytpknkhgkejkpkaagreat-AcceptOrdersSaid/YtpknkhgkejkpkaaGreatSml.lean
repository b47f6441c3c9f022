/- Contracts of the law's few, rights and same; no conditions but those that they name. -/
import Derived.Test.YtpknkhgkejkpkaaGreatFew
import Derived.Test.YtpknkhgkejkpkaaGreatFre
import Derived.Test.YtpknkhgkejkpkaaGreatCfl
import Derived.Test.YtpknkhgkejkpkaaGreatPb
namespace Go.Proofs.YtpknkhgkejkpkaaGreat
open Go.ChangeShapes Go.WideShapes Go.ChangeAt Go.RowKit

set_option maxHeartbeats 4000000 in
set_option maxRecDepth 100000 in
theorem few12_any {w : World} {v : Value} {X : List Rv} (h : Rows w v X) (m : M.Msg) {va vb : Value} (hm : Txt w ⟨m.r, va, vb⟩) :
    Calls Tryz.prog 16 #[v, .agg #[.int .i64 m.k, .int .i64 m.fr, .int .i64 m.to, .int .i64 m.bn, .int .i64 m.br, .int .i64 m.r.ir, .int .i64 m.r.is, .int .i64 m.r.st, .int .i64 m.r.pn, .int .i64 m.r.pr, .int .i64 m.r.bn, .int .i64 m.r.br, .int .i64 m.r.c.k, .int .i64 m.r.c.tc, .int .i64 m.r.c.tn, .int .i64 m.r.c.tt, .int .i64 m.r.c.tk, .int .i64 m.r.c.sh, va, vb, .bool m.r.c.cm, .int .i64 m.r.sq, .int .i64 m.r.d0, .int .i64 m.r.d1, .int .i64 m.r.d2, .int .i64 m.r.d3, .int .i64 m.r.d4, .int .i64 m.r.d5, .int .i64 m.r.d6, .bool m.r.kp]] w fun e w' => e = .returned (.bool (fewX X && M.modB m.r.c)) ∧ Below w.heap.size w w' := by
  obtain ⟨A, cc, rfl⟩ := rowN_sliceOf h.row
  have H0 := Lib.hid (show Hold (w.alloc (.cells #[.int .i64 m.k, .int .i64 m.fr, .int .i64 m.to, .int .i64 m.bn, .int .i64 m.br, .int .i64 m.r.ir, .int .i64 m.r.is, .int .i64 m.r.st, .int .i64 m.r.pn, .int .i64 m.r.pr, .int .i64 m.r.bn, .int .i64 m.r.br, .int .i64 m.r.c.k, .int .i64 m.r.c.tc, .int .i64 m.r.c.tn, .int .i64 m.r.c.tt, .int .i64 m.r.c.tk, .int .i64 m.r.c.sh, va, vb, .bool m.r.c.cm, .int .i64 m.r.sq, .int .i64 m.r.d0, .int .i64 m.r.d1, .int .i64 m.r.d2, .int .i64 m.r.d3, .int .i64 m.r.d4, .int .i64 m.r.d5, .int .i64 m.r.d6, .bool m.r.kp] 49)) w.heap.size 49 [.int .i64 m.k, .int .i64 m.fr, .int .i64 m.to, .int .i64 m.bn, .int .i64 m.br, .int .i64 m.r.ir, .int .i64 m.r.is, .int .i64 m.r.st, .int .i64 m.r.pn, .int .i64 m.r.pr, .int .i64 m.r.bn, .int .i64 m.r.br, .int .i64 m.r.c.k, .int .i64 m.r.c.tc, .int .i64 m.r.c.tn, .int .i64 m.r.c.tt, .int .i64 m.r.c.tk, .int .i64 m.r.c.sh, va, vb, .bool m.r.c.cm, .int .i64 m.r.sq, .int .i64 m.r.d0, .int .i64 m.r.d1, .int .i64 m.r.d2, .int .i64 m.r.d3, .int .i64 m.r.d4, .int .i64 m.r.d5, .int .i64 m.r.d6, .bool m.r.kp] from Hold.new w [.int .i64 m.k, .int .i64 m.fr, .int .i64 m.to, .int .i64 m.bn, .int .i64 m.br, .int .i64 m.r.ir, .int .i64 m.r.is, .int .i64 m.r.st, .int .i64 m.r.pn, .int .i64 m.r.pr, .int .i64 m.r.bn, .int .i64 m.r.br, .int .i64 m.r.c.k, .int .i64 m.r.c.tc, .int .i64 m.r.c.tn, .int .i64 m.r.c.tt, .int .i64 m.r.c.tk, .int .i64 m.r.c.sh, va, vb, .bool m.r.c.cm, .int .i64 m.r.sq, .int .i64 m.r.d0, .int .i64 m.r.d1, .int .i64 m.r.d2, .int .i64 m.r.d3, .int .i64 m.r.d4, .int .i64 m.r.d5, .int .i64 m.r.d6, .bool m.r.kp] 49)
  have HB := Lib.hid (show Below w.heap.size w (w.alloc (.cells #[.int .i64 m.k, .int .i64 m.fr, .int .i64 m.to, .int .i64 m.bn, .int .i64 m.br, .int .i64 m.r.ir, .int .i64 m.r.is, .int .i64 m.r.st, .int .i64 m.r.pn, .int .i64 m.r.pr, .int .i64 m.r.bn, .int .i64 m.r.br, .int .i64 m.r.c.k, .int .i64 m.r.c.tc, .int .i64 m.r.c.tn, .int .i64 m.r.c.tt, .int .i64 m.r.c.tk, .int .i64 m.r.c.sh, va, vb, .bool m.r.c.cm, .int .i64 m.r.sq, .int .i64 m.r.d0, .int .i64 m.r.d1, .int .i64 m.r.d2, .int .i64 m.r.d3, .int .i64 m.r.d4, .int .i64 m.r.d5, .int .i64 m.r.d6, .bool m.r.kp] 49)) from below_new (Below.refl _ _))
  have HF := few_rows (h.below HB.out)
  have HM := Lib.hid hm
  clear h hm
  rcases hf : fewX X with _ | _
  · rw [hf] at HF
    have HFW := Lib.hid HF
    clear HF
    go_enter Tryz.func16, Tryz.ntmps16
    go_wp2_with (go_at_call 8; refine HFW.out.mono ?_; rintro e w1 ⟨rfl, hb⟩; have HB1 := Lib.hid (below_on HB.out hb); clear hb)
    go_ret
    exact ⟨rfl, HB1.out⟩
  · rw [hf] at HF
    have HFW := Lib.hid HF
    clear HF
    rcases hg : M.modB m.r.c with _ | _
    all_goals
      have HG := Lib.hid hg
      go_enter Tryz.func16, Tryz.ntmps16
      go_wp2_with (first
        | (go_at_call 8
           refine HFW.out.mono ?_
           rintro e w1 ⟨rfl, hb⟩
           have HB1 := Lib.hid (below_on HB.out hb)
           have M1 := H0.out.on hb
           have F1 := few_one (w := w1) (b := w1.heap.size) rfl m.r.c (HM.out.below HB1.out).rs (HM.out.below HB1.out).ws
           rw [HG.out] at F1
           have HF1 := Lib.hid F1
           have HB2 := Lib.hid (below_new (o := .cells #[.int .i64 m.r.c.k, .int .i64 m.r.c.tc, .int .i64 m.r.c.tn, .int .i64 m.r.c.tt, .int .i64 m.r.c.tk, .int .i64 m.r.c.sh, va, vb, .bool m.r.c.cm] 30) HB1.out)
           have cm1 := hold_range M1 12 [.int .i64 m.r.c.k, .int .i64 m.r.c.tc, .int .i64 m.r.c.tn, .int .i64 m.r.c.tt, .int .i64 m.r.c.tk, .int .i64 m.r.c.sh, va, vb, .bool m.r.c.cm] (fun j v hj => by
             match j, hj with
             | 0, hj => exact hj
             | 1, hj => exact hj
             | 2, hj => exact hj
             | 3, hj => exact hj
             | 4, hj => exact hj
             | 5, hj => exact hj
             | 6, hj => exact hj
             | 7, hj => exact hj
             | 8, hj => exact hj)
           clear hb F1 M1)
        | (with_reducible refine wpList_load_mid_g ?_ 30 _ rfl w.heap.size 12 rfl [.int .i64 m.r.c.k, .int .i64 m.r.c.tc, .int .i64 m.r.c.tn, .int .i64 m.r.c.tt, .int .i64 m.r.c.tk, .int .i64 m.r.c.sh, va, vb, .bool m.r.c.cm] _ cm1 Tryz.underlying30 rfl (by kernel_rfl) ?_; kernel_rfl)
        | (go_at_call 9
           refine HF1.out.mono ?_
           rintro e w2 ⟨rfl, hb⟩
           have HB3 := Lib.hid (below_on HB2.out hb)
           clear hb)
        | fail)
      go_ret
      exact ⟨rfl, HB3.out⟩

def rightsX (X : List Rv) : Bool := X.all fun x => M.rightR x.r
theorem rights_of {X : List Rv} (h : rightsX X = true) : Rights X := List.all_eq_true.1 h
set_option maxHeartbeats 4000000 in
set_option maxRecDepth 100000 in
theorem rightsX_any {w : World} {v : Value} {X : List Rv} (h : Rows w v X) (hX : ∀ x ∈ X, M.Mod x.r.c) (hl : X.length ≤ 1000) : Calls Tryz.prog 17 #[v] w fun e w' => e = .returned (.bool (rightsX X)) ∧ Below w.heap.size w w' := by
  obtain ⟨A, c, rfl⟩ := rowN_sliceOf h.row
  have HH := Lib.hid h
  clear h
  go_enter Tryz.func17, Tryz.ntmps17
  go_wp2
  go_loopw [7] (fun i wr => ∃ k : Nat, i = .int .i64 k ∧ k ≤ X.length ∧ Hid (Below w.heap.size w wr) ∧ Hid (∀ x ∈ X.take k, M.rightR x.r = true)) (fun i _ => X.length - (intOf i).toNat)
  case atStart => exact ⟨0, rfl, Nat.zero_le _, Lib.hid (Below.refl _ _), Lib.hid (fun d hd => (List.not_mem_nil hd).elim)⟩
  case round =>
    obtain ⟨k, rfl, hk, HW, HA⟩ := hrel
    by_cases hlt : k < X.length
    · obtain ⟨x, hx⟩ : ∃ x, X[k]? = some x := ⟨_, List.getElem?_eq_getElem hlt⟩
      have hxm : x ∈ X := List.mem_of_getElem? hx
      obtain ⟨b, o, rfl, hbl, hrr⟩ := rowN_range (HH.out.below HW.out).row hx
      have HX := Lib.hid ((HH.out.tx x hxm).below HW.out)
      have HMD := Lib.hid (hX x hxm)
      have HNO := Lib.hid (show M.rightR x.r = false → rightsX X = false from fun e => by
        rw [Bool.eq_false_iff]
        intro e2
        have := List.all_eq_true.1 e2 x hxm
        rw [e] at this; cases this)
      have HYES := Lib.hid (show M.rightR x.r = true → ∀ x' ∈ X.take (k + 1), M.rightR x'.r = true from fun e x' hx' => by
        rw [List.take_add_one, hx, Option.toList_some, List.mem_append, List.mem_singleton] at hx'
        rcases hx' with hx' | rfl
        · exact HA.out x' hx'
        · exact e)
      obtain ⟨r, va, vb⟩ := x
      have O1 : va.oneCell' = true := rds_one HX.out.rs
      have O2 : vb.oneCell' = true := wrs_one HX.out.ws
      have OR : ([.int .i64 r.ir, .int .i64 r.is, .int .i64 r.st, .int .i64 r.pn, .int .i64 r.pr, .int .i64 r.bn, .int .i64 r.br, .int .i64 r.c.k, .int .i64 r.c.tc, .int .i64 r.c.tn, .int .i64 r.c.tt, .int .i64 r.c.tk, .int .i64 r.c.sh, va, vb, .bool r.c.cm, .int .i64 r.sq, .int .i64 r.d0, .int .i64 r.d1, .int .i64 r.d2, .int .i64 r.d3, .int .i64 r.d4, .int .i64 r.d5, .int .i64 r.d6, .bool r.kp] : List Value).all (·.oneCell') = true := rv_one (x := ⟨r, va, vb⟩) O1 O2
      have HRR := Lib.hid (show wr.rangeAt b (o + k * 25) [.int .i64 r.ir, .int .i64 r.is, .int .i64 r.st, .int .i64 r.pn, .int .i64 r.pr, .int .i64 r.bn, .int .i64 r.br, .int .i64 r.c.k, .int .i64 r.c.tc, .int .i64 r.c.tn, .int .i64 r.c.tt, .int .i64 r.c.tk, .int .i64 r.c.sh, va, vb, .bool r.c.cm, .int .i64 r.sq, .int .i64 r.d0, .int .i64 r.d1, .int .i64 r.d2, .int .i64 r.d3, .int .i64 r.d4, .int .i64 r.d5, .int .i64 r.d6, .bool r.kp] from hrr)
      have hk1 : (k : Int) < (X.length : Int) := by omega
      clear hx hxm hbl hrr
      have HEQ := Lib.hid (M.right_eq r)
      cases hm : M.rightR r with
      | false =>
        have HRES := Lib.hid (HNO.out hm)
        have HRT := Lib.hid hm
        clear hm
        go_wp2_with (first
          | (with_reducible refine wpList_load_mid rfl 41 _ rfl b (o + k * 25) rfl [.int .i64 r.ir, .int .i64 r.is, .int .i64 r.st, .int .i64 r.pn, .int .i64 r.pr, .int .i64 r.bn, .int .i64 r.br, .int .i64 r.c.k, .int .i64 r.c.tc, .int .i64 r.c.tn, .int .i64 r.c.tt, .int .i64 r.c.tk, .int .i64 r.c.sh, va, vb, .bool r.c.cm, .int .i64 r.sq, .int .i64 r.d0, .int .i64 r.d1, .int .i64 r.d2, .int .i64 r.d3, .int .i64 r.d4, .int .i64 r.d5, .int .i64 r.d6, .bool r.kp] _ HRR.out Tryz.underlying41 rfl (by kernel_rfl) ?_)
          | (with_reducible refine store_freshA rfl 41 _ _ rfl wr.heap.size rfl 41 _ [.int .i64 r.ir, .int .i64 r.is, .int .i64 r.st, .int .i64 r.pn, .int .i64 r.pr, .int .i64 r.bn, .int .i64 r.br, .int .i64 r.c.k, .int .i64 r.c.tc, .int .i64 r.c.tn, .int .i64 r.c.tt, .int .i64 r.c.tk, .int .i64 r.c.sh, va, vb, .bool r.c.cm, .int .i64 r.sq, .int .i64 r.d0, .int .i64 r.d1, .int .i64 r.d2, .int .i64 r.d3, .int .i64 r.d4, .int .i64 r.d5, .int .i64 r.d6, .bool r.kp] rfl rfl rfl (by kernel_rfl) OR ?_
             intro w3 G3 b3
             have G3w := G3.cel.whole
             have HW3 := Lib.hid (below_on HW.out b3)
             have HT3 := Lib.hid (HX.out.below b3)
             clear b3 G3)
          | (with_reducible refine wpList_load_mid rfl 41 _ rfl wr.heap.size 0 rfl [.int .i64 r.ir, .int .i64 r.is, .int .i64 r.st, .int .i64 r.pn, .int .i64 r.pr, .int .i64 r.bn, .int .i64 r.br, .int .i64 r.c.k, .int .i64 r.c.tc, .int .i64 r.c.tn, .int .i64 r.c.tt, .int .i64 r.c.tk, .int .i64 r.c.sh, va, vb, .bool r.c.cm, .int .i64 r.sq, .int .i64 r.d0, .int .i64 r.d1, .int .i64 r.d2, .int .i64 r.d3, .int .i64 r.d4, .int .i64 r.d5, .int .i64 r.d6, .bool r.kp] _ G3w Tryz.underlying41 rfl (by kernel_rfl) ?_)
          | (go_at_call 21
             refine (dright_rec r HT3.out.rs HT3.out.ws HMD.out).mono ?_
             rintro e w5 ⟨rfl, hb5⟩
             rw [HEQ.out, HRT.out]
             have HW5 := Lib.hid (below_on HW3.out hb5)
             clear hb5)
          | fail)
        go_ret
        exact ⟨by rw [HRES.out]; rfl, HW5.out⟩
      | true =>
        have HM1 := Lib.hid (HYES.out hm)
        have HRT := Lib.hid hm
        clear hm
        go_wp2_with (first
          | (with_reducible refine wpList_load_mid rfl 41 _ rfl b (o + k * 25) rfl [.int .i64 r.ir, .int .i64 r.is, .int .i64 r.st, .int .i64 r.pn, .int .i64 r.pr, .int .i64 r.bn, .int .i64 r.br, .int .i64 r.c.k, .int .i64 r.c.tc, .int .i64 r.c.tn, .int .i64 r.c.tt, .int .i64 r.c.tk, .int .i64 r.c.sh, va, vb, .bool r.c.cm, .int .i64 r.sq, .int .i64 r.d0, .int .i64 r.d1, .int .i64 r.d2, .int .i64 r.d3, .int .i64 r.d4, .int .i64 r.d5, .int .i64 r.d6, .bool r.kp] _ HRR.out Tryz.underlying41 rfl (by kernel_rfl) ?_)
          | (with_reducible refine store_freshA rfl 41 _ _ rfl wr.heap.size rfl 41 _ [.int .i64 r.ir, .int .i64 r.is, .int .i64 r.st, .int .i64 r.pn, .int .i64 r.pr, .int .i64 r.bn, .int .i64 r.br, .int .i64 r.c.k, .int .i64 r.c.tc, .int .i64 r.c.tn, .int .i64 r.c.tt, .int .i64 r.c.tk, .int .i64 r.c.sh, va, vb, .bool r.c.cm, .int .i64 r.sq, .int .i64 r.d0, .int .i64 r.d1, .int .i64 r.d2, .int .i64 r.d3, .int .i64 r.d4, .int .i64 r.d5, .int .i64 r.d6, .bool r.kp] rfl rfl rfl (by kernel_rfl) OR ?_
             intro w3 G3 b3
             have G3w := G3.cel.whole
             have HW3 := Lib.hid (below_on HW.out b3)
             have HT3 := Lib.hid (HX.out.below b3)
             clear b3 G3)
          | (with_reducible refine wpList_load_mid rfl 41 _ rfl wr.heap.size 0 rfl [.int .i64 r.ir, .int .i64 r.is, .int .i64 r.st, .int .i64 r.pn, .int .i64 r.pr, .int .i64 r.bn, .int .i64 r.br, .int .i64 r.c.k, .int .i64 r.c.tc, .int .i64 r.c.tn, .int .i64 r.c.tt, .int .i64 r.c.tk, .int .i64 r.c.sh, va, vb, .bool r.c.cm, .int .i64 r.sq, .int .i64 r.d0, .int .i64 r.d1, .int .i64 r.d2, .int .i64 r.d3, .int .i64 r.d4, .int .i64 r.d5, .int .i64 r.d6, .bool r.kp] _ G3w Tryz.underlying41 rfl (by kernel_rfl) ?_)
          | (go_at_call 21
             refine (dright_rec r HT3.out.rs HT3.out.ws HMD.out).mono ?_
             rintro e w5 ⟨rfl, hb5⟩
             rw [HEQ.out, HRT.out]
             have HW5 := Lib.hid (below_on HW3.out hb5)
             clear hb5)
          | fail)
        go_roundw
        case rel => exact ⟨k + 1, by go_num, hlt, HW5, HM1⟩
        case measure => simp [intOf]; omega
    · obtain rfl : k = X.length := by omega
      have HALL := Lib.hid (show rightsX X = true from List.all_eq_true.2 fun x hx => HA.out x (by rw [List.take_length]; exact hx))
      go_wp2
      go_ret
      exact ⟨by rw [HALL.out]; rfl, HW.out⟩
end Go.Proofs.YtpknkhgkejkpkaaGreat
