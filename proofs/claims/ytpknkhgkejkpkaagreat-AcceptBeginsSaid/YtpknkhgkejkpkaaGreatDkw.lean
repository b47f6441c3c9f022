/- Contract of the document's Know; no conditions but those that it names. -/
import Derived.Test.YtpknkhgkejkpkaaGreatFre
import Derived.Test.YtpknkhgkejkpkaaGreatCfl
namespace Go.Proofs.YtpknkhgkejkpkaaGreat
open Go.ChangeShapes Go.WideShapes Go.ChangeAt Go.RowKit

attribute [local go_sem ↓] run_same_inst
set_option maxHeartbeats 8000000 in
set_option maxRecDepth 100000 in
theorem dknow_any {w : World} {v : Value} {X : List Rv} (h : Rows w v X) (hl : X.length ≤ 1000) (i1 i2 : Int) :
    Calls Tryz.prog 15 #[v, .agg #[.int .i64 i1, .int .i64 i2]] w (Gives (M.knowL (rcs X) i1 i2) w) := by
  obtain ⟨A, c, rfl⟩ := rowN_sliceOf h.row
  have H0 := Lib.hid (show Hold ((w.alloc (.cells #[.int .i64 i1, .int .i64 i2] 32)).alloc (.cells #[.int .i64 0, .int .i64 0, .int .i64 0, .int .i64 0, .int .i64 0, .int .i64 0, .int .i64 0, .int .i64 0, .int .i64 0, .int .i64 0, .int .i64 0, .int .i64 0, .int .i64 0, .slice none 0 0, .slice none 0 0, .bool false, .int .i64 0, .int .i64 0, .int .i64 0, .int .i64 0, .int .i64 0, .int .i64 0, .int .i64 0, .int .i64 0, .bool false] 41)) w.heap.size 32 [.int .i64 i1, .int .i64 i2] from (Hold.new w [.int .i64 i1, .int .i64 i2] 32).on (below_new (o := .cells #[.int .i64 0, .int .i64 0, .int .i64 0, .int .i64 0, .int .i64 0, .int .i64 0, .int .i64 0, .int .i64 0, .int .i64 0, .int .i64 0, .int .i64 0, .int .i64 0, .int .i64 0, .slice none 0 0, .slice none 0 0, .bool false, .int .i64 0, .int .i64 0, .int .i64 0, .int .i64 0, .int .i64 0, .int .i64 0, .int .i64 0, .int .i64 0, .bool false] 41) (Below.refl _ _)))
  have H1 := Lib.hid (show Hold ((w.alloc (.cells #[.int .i64 i1, .int .i64 i2] 32)).alloc (.cells #[.int .i64 0, .int .i64 0, .int .i64 0, .int .i64 0, .int .i64 0, .int .i64 0, .int .i64 0, .int .i64 0, .int .i64 0, .int .i64 0, .int .i64 0, .int .i64 0, .int .i64 0, .slice none 0 0, .slice none 0 0, .bool false, .int .i64 0, .int .i64 0, .int .i64 0, .int .i64 0, .int .i64 0, .int .i64 0, .int .i64 0, .int .i64 0, .bool false] 41)) (w.heap.size + 1) 41 [.int .i64 0, .int .i64 0, .int .i64 0, .int .i64 0, .int .i64 0, .int .i64 0, .int .i64 0, .int .i64 0, .int .i64 0, .int .i64 0, .int .i64 0, .int .i64 0, .int .i64 0, .slice none 0 0, .slice none 0 0, .bool false, .int .i64 0, .int .i64 0, .int .i64 0, .int .i64 0, .int .i64 0, .int .i64 0, .int .i64 0, .int .i64 0, .bool false] from by
    have := Hold.new (w.alloc (.cells #[.int .i64 i1, .int .i64 i2] 32)) [.int .i64 0, .int .i64 0, .int .i64 0, .int .i64 0, .int .i64 0, .int .i64 0, .int .i64 0, .int .i64 0, .int .i64 0, .int .i64 0, .int .i64 0, .int .i64 0, .int .i64 0, .slice none 0 0, .slice none 0 0, .bool false, .int .i64 0, .int .i64 0, .int .i64 0, .int .i64 0, .int .i64 0, .int .i64 0, .int .i64 0, .int .i64 0, .bool false] 41
    rwa [show (w.alloc (.cells #[.int .i64 i1, .int .i64 i2] 32)).heap.size = w.heap.size + 1 by simp] at this)
  have HB := Lib.hid (show Below w.heap.size w ((w.alloc (.cells #[.int .i64 i1, .int .i64 i2] 32)).alloc (.cells #[.int .i64 0, .int .i64 0, .int .i64 0, .int .i64 0, .int .i64 0, .int .i64 0, .int .i64 0, .int .i64 0, .int .i64 0, .int .i64 0, .int .i64 0, .int .i64 0, .int .i64 0, .slice none 0 0, .slice none 0 0, .bool false, .int .i64 0, .int .i64 0, .int .i64 0, .int .i64 0, .int .i64 0, .int .i64 0, .int .i64 0, .int .i64 0, .bool false] 41)) from below_new (below_new (Below.refl _ _)))
  have HH := Lib.hid h
  have hz0 := Lib.hid (show ((w.alloc (.cells #[.int .i64 i1, .int .i64 i2] 32)).alloc (.cells #[.int .i64 0, .int .i64 0, .int .i64 0, .int .i64 0, .int .i64 0, .int .i64 0, .int .i64 0, .int .i64 0, .int .i64 0, .int .i64 0, .int .i64 0, .int .i64 0, .int .i64 0, .slice none 0 0, .slice none 0 0, .bool false, .int .i64 0, .int .i64 0, .int .i64 0, .int .i64 0, .int .i64 0, .int .i64 0, .int .i64 0, .int .i64 0, .bool false] 41)).heap.size = w.heap.size + 1 + 1 by simp)
  clear h
  go_enter Tryz.func15, Tryz.ntmps15
  obtain ⟨gb, hgb⟩ : ∃ gb, gb = w.heap.size + 1 + 1 := ⟨_, rfl⟩
  go_wp2_with (first
    | (with_reducible refine wpList_buildTo rfl 41 _ rfl _ rfl #[.int .i64 i1, .int .i64 i2, .int .i64 0, .int .i64 0, .int .i64 0, .int .i64 0, .int .i64 0, .int .i64 0, .int .i64 0, .int .i64 0, .int .i64 0, .int .i64 0, .int .i64 0, .slice none 0 0, .slice none 0 0, .bool false, .int .i64 0, .int .i64 0, .int .i64 0, .int .i64 0, .int .i64 0, .int .i64 0, .int .i64 0, .int .i64 0, .bool false] (by kernel_rfl) ?_)
    | (with_reducible refine store_freshA rfl 41 _ _ rfl (w.heap.size + 1 + 1) (by simp) 41 _ [.int .i64 i1, .int .i64 i2, .int .i64 0, .int .i64 0, .int .i64 0, .int .i64 0, .int .i64 0, .int .i64 0, .int .i64 0, .int .i64 0, .int .i64 0, .int .i64 0, .int .i64 0, .slice none 0 0, .slice none 0 0, .bool false, .int .i64 0, .int .i64 0, .int .i64 0, .int .i64 0, .int .i64 0, .int .i64 0, .int .i64 0, .int .i64 0, .bool false] rfl rfl rfl (by kernel_rfl) rfl ?_
       intro w3 G3 b3
       have I3 := Lib.hid (H0.out.on b3)
       have Z3 := Lib.hid (H1.out.on b3)
       have HB3 := Lib.hid (below_on HB.out b3)
       have HG3 := Lib.hid G3
       clear b3 G3)
    | fail)
  have hgl := Lib.hid (show w.heap.size + 1 + 1 < w3.heap.size from hold_lt HG3.out)
  clear hz0 H0 H1
  go_loopw [6] (fun i wr => ∃ k : Nat, i = .int .i64 k ∧ k ≤ X.length ∧ Hid (∃ va vb, Txt w ⟨M.knowL (rcs (X.take k)) i1 i2, va, vb⟩ ∧ Hold wr (w.heap.size + 1 + 1) 41 (Rv.cells ⟨M.knowL (rcs (X.take k)) i1 i2, va, vb⟩)) ∧ Hid (Hold wr w.heap.size 32 [.int .i64 i1, .int .i64 i2]) ∧ Hid (Hold wr (w.heap.size + 1) 41 [.int .i64 0, .int .i64 0, .int .i64 0, .int .i64 0, .int .i64 0, .int .i64 0, .int .i64 0, .int .i64 0, .int .i64 0, .int .i64 0, .int .i64 0, .int .i64 0, .int .i64 0, .slice none 0 0, .slice none 0 0, .bool false, .int .i64 0, .int .i64 0, .int .i64 0, .int .i64 0, .int .i64 0, .int .i64 0, .int .i64 0, .int .i64 0, .bool false]) ∧ Hid (Below w.heap.size w wr)) (fun i _ => X.length - (intOf i).toNat)
  case atStart => exact ⟨0, rfl, Nat.zero_le _, Lib.hid ⟨.slice none 0 0, .slice none 0 0, ⟨Rds.nil _, Wrs.nil _⟩, HG3.out⟩, I3, Z3, HB3⟩
  case round =>
    obtain ⟨k, rfl, hk, HO, HI, HZ, HW⟩ := hrel
    by_cases hlt : k < X.length
    · obtain ⟨x, hx⟩ : ∃ x, X[k]? = some x := ⟨_, List.getElem?_eq_getElem hlt⟩
      have hxm : x ∈ X := List.mem_of_getElem? hx
      obtain ⟨b, o, rfl, hbl, hrr⟩ := rowN_range (HH.out.below HW.out).row hx
      have HX := Lib.hid (HH.out.tx x hxm)
      have hkr : (rcs X)[k]? = some x.r := by unfold rcs; rw [List.getElem?_map, hx]; rfl
      have HT := Lib.hid (show M.knowL (rcs (X.take (k + 1))) i1 i2 = if M.eq2 x.r.ir x.r.is i1 i2 = true then x.r else M.knowL (rcs (X.take k)) i1 i2 from by
        have := M.know_take hkr i1 i2
        unfold rcs at this ⊢
        rw [List.map_take, List.map_take]; exact this)
      obtain ⟨r, va, vb⟩ := x
      have HRR := Lib.hid (show wr.rangeAt b (o + k * 25) [.int .i64 r.ir, .int .i64 r.is, .int .i64 r.st, .int .i64 r.pn, .int .i64 r.pr, .int .i64 r.bn, .int .i64 r.br, .int .i64 r.c.k, .int .i64 r.c.tc, .int .i64 r.c.tn, .int .i64 r.c.tt, .int .i64 r.c.tk, .int .i64 r.c.sh, va, vb, .bool r.c.cm, .int .i64 r.sq, .int .i64 r.d0, .int .i64 r.d1, .int .i64 r.d2, .int .i64 r.d3, .int .i64 r.d4, .int .i64 r.d5, .int .i64 r.d6, .bool r.kp] from hrr)
      have c0 : wr.cell? ⟨b, o + k * 25, none⟩ = some (.int .i64 r.ir) := HRR.out 0 _ rfl
      have c1 : wr.cell? ⟨b, o + k * 25 + 1, none⟩ = some (.int .i64 r.is) := HRR.out 1 _ rfl
      have d0 : wr.cell? ⟨w.heap.size, 0, none⟩ = some (.int .i64 i1) := hold_cell HI.out 0 rfl
      have d1 : wr.cell? ⟨w.heap.size, 1, none⟩ = some (.int .i64 i2) := hold_cell HI.out 1 rfl
      have hk1 : (k : Int) < (X.length : Int) := by omega
      have OR : ([.int .i64 r.ir, .int .i64 r.is, .int .i64 r.st, .int .i64 r.pn, .int .i64 r.pr, .int .i64 r.bn, .int .i64 r.br, .int .i64 r.c.k, .int .i64 r.c.tc, .int .i64 r.c.tn, .int .i64 r.c.tt, .int .i64 r.c.tk, .int .i64 r.c.sh, va, vb, .bool r.c.cm, .int .i64 r.sq, .int .i64 r.d0, .int .i64 r.d1, .int .i64 r.d2, .int .i64 r.d3, .int .i64 r.d4, .int .i64 r.d5, .int .i64 r.d6, .bool r.kp] : List Value).all (·.oneCell') = true := rv_one (x := ⟨r, va, vb⟩) (rds_one HX.out.rs) (wrs_one HX.out.ws)
      clear hx hxm hrr hkr
      rcases he : M.eq2 r.ir r.is i1 i2 with _ | _
      · have HT0 := Lib.hid (show M.knowL (rcs (X.take (k + 1))) i1 i2 = M.knowL (rcs (X.take k)) i1 i2 from by have := HT.out; dsimp only at this; rw [he] at this; exact this)
        go_wp2
        go_quiet (fail)
        go_wp2
        go_roundw
        case rel => exact ⟨k + 1, by go_num, hlt, by rw [HT0.out]; exact Lib.hid (by obtain ⟨a1, a2, a3, a4⟩ := HO.out; exact ⟨a1, a2, a3, a4⟩), Lib.hid HI.out, Lib.hid HZ.out, Lib.hid ⟨HW.out.os, HW.out.tape, HW.out.output, HW.out.size, HW.out.block⟩⟩
        case measure => simp [intOf]; omega
      · have HT0 := Lib.hid (show M.knowL (rcs (X.take (k + 1))) i1 i2 = r from by have := HT.out; dsimp only at this; rw [he] at this; exact this)
        obtain ⟨xa, xb, -, hO⟩ := HO.out
        have HOO := Lib.hid hO
        clear hO HO
        go_wp2
        go_quiet (fail)
        have hbq : Below wr.heap.size wr (wr.drewN nq) := below_drewN (Below.refl _ _) nq
        have HBQ := Lib.hid (below_on HW.out hbq)
        have GQ := Lib.hid (HOO.out.on hbq)
        have IQ := Lib.hid (HI.out.on hbq)
        have ZQ := Lib.hid (HZ.out.on hbq)
        have RQ := range_on hbl HRR.out hbq
        clear hbq c0 c1 d0 d1 HOO HI HZ
        generalize wr.drewN nq = wq at *
        go_wp2_with (first
          | (with_reducible refine wpList_load_mid rfl 41 _ rfl b (o + k * 25) rfl [.int .i64 r.ir, .int .i64 r.is, .int .i64 r.st, .int .i64 r.pn, .int .i64 r.pr, .int .i64 r.bn, .int .i64 r.br, .int .i64 r.c.k, .int .i64 r.c.tc, .int .i64 r.c.tn, .int .i64 r.c.tt, .int .i64 r.c.tk, .int .i64 r.c.sh, va, vb, .bool r.c.cm, .int .i64 r.sq, .int .i64 r.d0, .int .i64 r.d1, .int .i64 r.d2, .int .i64 r.d3, .int .i64 r.d4, .int .i64 r.d5, .int .i64 r.d6, .bool r.kp] _ RQ Tryz.underlying41 rfl (by kernel_rfl) ?_)
          | (with_reducible refine store_hold rfl 41 _ _ rfl (w.heap.size + 1 + 1) 0 rfl 41 [.int .i64 r.ir, .int .i64 r.is, .int .i64 r.st, .int .i64 r.pn, .int .i64 r.pr, .int .i64 r.bn, .int .i64 r.br, .int .i64 r.c.k, .int .i64 r.c.tc, .int .i64 r.c.tn, .int .i64 r.c.tt, .int .i64 r.c.tk, .int .i64 r.c.sh, va, vb, .bool r.c.cm, .int .i64 r.sq, .int .i64 r.d0, .int .i64 r.d1, .int .i64 r.d2, .int .i64 r.d3, .int .i64 r.d4, .int .i64 r.d5, .int .i64 r.d6, .bool r.kp] (Rv.cells ⟨M.knowL (rcs (X.take k)) i1 i2, xa, xb⟩) [.int .i64 r.ir, .int .i64 r.is, .int .i64 r.st, .int .i64 r.pn, .int .i64 r.pr, .int .i64 r.bn, .int .i64 r.br, .int .i64 r.c.k, .int .i64 r.c.tc, .int .i64 r.c.tn, .int .i64 r.c.tt, .int .i64 r.c.tk, .int .i64 r.c.sh, va, vb, .bool r.c.cm, .int .i64 r.sq, .int .i64 r.d0, .int .i64 r.d1, .int .i64 r.d2, .int .i64 r.d3, .int .i64 r.d4, .int .i64 r.d5, .int .i64 r.d6, .bool r.kp] rfl GQ.out (by kernel_rfl) (of_decide_eq_true (by kernel_rfl)) (by kernel_rfl) OR ?_
             intro w5 G5 K5
             have I5 := Lib.hid (K5.hold IQ.out (by omega))
             have Z5 := Lib.hid (K5.hold ZQ.out (by omega))
             have HB5 := Lib.hid (K5.below w.heap.size w (by omega) HBQ.out))
          | fail)
        go_roundw
        case rel => exact ⟨k + 1, by go_num, hlt, by rw [HT0.out]; exact Lib.hid ⟨va, vb, HX.out, G5⟩, I5, Z5, HB5⟩
        case measure => simp [intOf]; omega
    · obtain rfl : k = X.length := by omega
      obtain ⟨xa, xb, ht, hO⟩ := HO.out
      rw [List.take_length] at ht hO
      have hOw := hO.cel.whole
      have HTX := Lib.hid ht
      have OF : (Rv.cells ⟨M.knowL (rcs X) i1 i2, xa, xb⟩).all (·.oneCell') = true := rv_one (rds_one ht.rs) (wrs_one ht.ws)
      clear ht hO HO
      have HZZ := HZ.out
      go_wp2_with (first
        | (with_reducible refine wpList_load_mid rfl 41 _ rfl (w.heap.size + 1 + 1) 0 rfl (Rv.cells ⟨M.knowL (rcs X) i1 i2, xa, xb⟩) _ hOw Tryz.underlying41 rfl (rv_size _) ?_)
        | (with_reducible refine store_hold rfl 41 _ _ rfl (w.heap.size + 1) 0 rfl 41 (Rv.cells ⟨M.knowL (rcs X) i1 i2, xa, xb⟩) [.int .i64 0, .int .i64 0, .int .i64 0, .int .i64 0, .int .i64 0, .int .i64 0, .int .i64 0, .int .i64 0, .int .i64 0, .int .i64 0, .int .i64 0, .int .i64 0, .int .i64 0, .slice none 0 0, .slice none 0 0, .bool false, .int .i64 0, .int .i64 0, .int .i64 0, .int .i64 0, .int .i64 0, .int .i64 0, .int .i64 0, .int .i64 0, .bool false] (Rv.cells ⟨M.knowL (rcs X) i1 i2, xa, xb⟩) rfl HZZ (by kernel_rfl) (of_decide_eq_true (by kernel_rfl)) (by kernel_rfl) OF ?_; intro w6 H6 K6; have HB6 := Lib.hid (K6.below w.heap.size w (by omega) HW.out))
        | fail)
      refine bodyPost_ret (results_c rfl rfl H6.cel.whole _ Tryz.underlying41 rfl (rv_size _)) rfl ?_
      exact ⟨xa, xb, rfl, HTX.out.below HB6.out, HB6.out⟩
end Go.Proofs.YtpknkhgkejkpkaaGreat
