/- Contracts: is a record a conflict; the conflicts of a command; no conditions but those that they name. -/
import Derived.Test.YtgaglcfoodbcfaaCou
import Derived.Test.YtgaglcfoodbcfaaWiF
import Derived.BigQuiet
import Derived.Deep.QuietTactic
namespace Go.Proofs.Ytgaglcfoodbcfaa
open Go.ChangeShapes Go.WideShapes Go.ChangeAt Go.RowKit

attribute [local go_sem ↓] run_same7 run_same_inst run_same_ballot run_same_txn run_same_stamp
set_option maxHeartbeats 4000000 in
set_option maxRecDepth 100000 in
theorem conf_any {w : World} (r : M.Rec) {va vb : Value} (i : Ky) (c : M.Cmd) {p q : Nat} {ua ub : Value} (hx : Txt w ⟨r, va, vb⟩) (hp : w.rangeAt p 0 [.int .i64 i.1, .int .i64 i.2]) (hpl : p < w.heap.size) (hq : w.rangeAt q 0 [.int .i64 c.k, .int .i64 c.tc, .int .i64 c.tn, .int .i64 c.tt, .int .i64 c.tk, .int .i64 c.sh, ua, ub, .bool c.cm]) (hql : q < w.heap.size) (g : Rds w ua c.rs) (g' : Wrs w ub c.ws) (F : M.Mod r.c) (G : M.Mod c) :
    Calls Try.prog 43 #[.agg #[.int .i64 r.ir, .int .i64 r.is, .int .i64 r.st, .int .i64 r.pn, .int .i64 r.pr, .int .i64 r.bn, .int .i64 r.br, .int .i64 r.c.k, .int .i64 r.c.tc, .int .i64 r.c.tn, .int .i64 r.c.tt, .int .i64 r.c.tk, .int .i64 r.c.sh, va, vb, .bool r.c.cm, .int .i64 r.sq, .int .i64 r.d0, .int .i64 r.d1, .int .i64 r.d2, .int .i64 r.d3, .int .i64 r.d4, .int .i64 r.d5, .int .i64 r.d6, .bool r.kp], .pointer (some ⟨p, 0, none⟩), .pointer (some ⟨q, 0, none⟩)] w fun e w' => e = .returned (.bool (confB i c ⟨r, va, vb⟩)) ∧ Below w.heap.size w w' := by
  obtain ⟨A3, c3, ea⟩ := rowN_sliceOf hx.rs
  obtain ⟨A4, c4, eb⟩ := rowN_sliceOf hx.ws
  obtain ⟨A5, c5, ec⟩ := rowN_sliceOf g
  obtain ⟨A6, c6, ed⟩ := rowN_sliceOf g'
  dsimp only at ea eb
  subst ea eb ec ed
  obtain ⟨i1, i2⟩ := i
  have hb3 : Below w.heap.size w (w.alloc (.cells #[.int .i64 r.ir, .int .i64 r.is, .int .i64 r.st, .int .i64 r.pn, .int .i64 r.pr, .int .i64 r.bn, .int .i64 r.br, .int .i64 r.c.k, .int .i64 r.c.tc, .int .i64 r.c.tn, .int .i64 r.c.tt, .int .i64 r.c.tk, .int .i64 r.c.sh, (.slice A3 r.c.rs.length c3), (.slice A4 r.c.ws.length c4), .bool r.c.cm, .int .i64 r.sq, .int .i64 r.d0, .int .i64 r.d1, .int .i64 r.d2, .int .i64 r.d3, .int .i64 r.d4, .int .i64 r.d5, .int .i64 r.d6, .bool r.kp] 44)) := below_new (Below.refl _ _)
  have range_on : ∀ {w' : World} {b o : Nat} {L : List Value}, b < w.heap.size → w.rangeAt b o L → Below w.heap.size w w' → w'.rangeAt b o L := fun hb h k j v hj => (k.cell (p := ⟨_, _ + j, none⟩) hb).trans (h j v hj)
  have HP := Lib.hid (range_on hpl hp hb3)
  have HQ := Lib.hid (range_on hql hq hb3)
  have HI := Lib.hid (hold_range (Hold.new w [.int .i64 r.ir, .int .i64 r.is, .int .i64 r.st, .int .i64 r.pn, .int .i64 r.pr, .int .i64 r.bn, .int .i64 r.br, .int .i64 r.c.k, .int .i64 r.c.tc, .int .i64 r.c.tn, .int .i64 r.c.tt, .int .i64 r.c.tk, .int .i64 r.c.sh, (.slice A3 r.c.rs.length c3), (.slice A4 r.c.ws.length c4), .bool r.c.cm, .int .i64 r.sq, .int .i64 r.d0, .int .i64 r.d1, .int .i64 r.d2, .int .i64 r.d3, .int .i64 r.d4, .int .i64 r.d5, .int .i64 r.d6, .bool r.kp] 44) 0 [.int .i64 r.ir, .int .i64 r.is] (fun j v hj => by
        match j, hj with
        | 0, hj => exact hj
        | 1, hj => exact hj))
  have HC := Lib.hid (hold_range (Hold.new w [.int .i64 r.ir, .int .i64 r.is, .int .i64 r.st, .int .i64 r.pn, .int .i64 r.pr, .int .i64 r.bn, .int .i64 r.br, .int .i64 r.c.k, .int .i64 r.c.tc, .int .i64 r.c.tn, .int .i64 r.c.tt, .int .i64 r.c.tk, .int .i64 r.c.sh, (.slice A3 r.c.rs.length c3), (.slice A4 r.c.ws.length c4), .bool r.c.cm, .int .i64 r.sq, .int .i64 r.d0, .int .i64 r.d1, .int .i64 r.d2, .int .i64 r.d3, .int .i64 r.d4, .int .i64 r.d5, .int .i64 r.d6, .bool r.kp] 44) 7 [.int .i64 r.c.k, .int .i64 r.c.tc, .int .i64 r.c.tn, .int .i64 r.c.tt, .int .i64 r.c.tk, .int .i64 r.c.sh, (.slice A3 r.c.rs.length c3), (.slice A4 r.c.ws.length c4), .bool r.c.cm] (fun j v hj => by
        match j, hj with
        | 0, hj => exact hj
        | 1, hj => exact hj
        | 2, hj => exact hj
        | 3, hj => exact hj
        | 4, hj => exact hj
        | 5, hj => exact hj
        | 6, hj => exact hj
        | 7, hj => exact hj
        | 8, hj => exact hj))
  have HB := Lib.hid hb3
  have HS := Lib.hid (hold_cell (Hold.new w [.int .i64 r.ir, .int .i64 r.is, .int .i64 r.st, .int .i64 r.pn, .int .i64 r.pr, .int .i64 r.bn, .int .i64 r.br, .int .i64 r.c.k, .int .i64 r.c.tc, .int .i64 r.c.tn, .int .i64 r.c.tt, .int .i64 r.c.tk, .int .i64 r.c.sh, (.slice A3 r.c.rs.length c3), (.slice A4 r.c.ws.length c4), .bool r.c.cm, .int .i64 r.sq, .int .i64 r.d0, .int .i64 r.d1, .int .i64 r.d2, .int .i64 r.d3, .int .i64 r.d4, .int .i64 r.d5, .int .i64 r.d6, .bool r.kp] 44) 2 rfl)
  have HCL := Lib.hid (inter_any r.c c (hx.below hb3).rs (hx.below hb3).ws (g.below hb3) (g'.below hb3) F G)
  clear hx hp hpl hq hql g g' hb3 range_on
  rcases two (M.eq2 r.ir r.is i1 i2) with e0 | e0
  · have HE := Lib.hid (show confB (i1, i2) c ⟨r, .slice A3 r.c.rs.length c3, .slice A4 r.c.ws.length c4⟩ = false by unfold confB; dsimp only; rw [e0]; rfl)
    go_enter Try.func43, Try.ntmps43
    go_wp2_with (first
      | (with_reducible refine wpList_load_mid rfl 24 _ rfl w.heap.size 0 rfl [.int .i64 r.ir, .int .i64 r.is] _ HI.out Try.underlying24 rfl (by kernel_rfl) ?_)
      | (with_reducible refine wpList_load_mid rfl 24 _ rfl p 0 rfl [.int .i64 i1, .int .i64 i2] _ HP.out Try.underlying24 rfl (by kernel_rfl) ?_)
      | (with_reducible refine wpList_load_mid_g ?_ 32 _ rfl w.heap.size 7 rfl [.int .i64 r.c.k, .int .i64 r.c.tc, .int .i64 r.c.tn, .int .i64 r.c.tt, .int .i64 r.c.tk, .int .i64 r.c.sh, (.slice A3 r.c.rs.length c3), (.slice A4 r.c.ws.length c4), .bool r.c.cm] _ HC.out Try.underlying32 rfl (by kernel_rfl) ?_; kernel_rfl)
      | (with_reducible refine wpList_load_mid_g ?_ 32 _ rfl q 0 rfl [.int .i64 c.k, .int .i64 c.tc, .int .i64 c.tn, .int .i64 c.tt, .int .i64 c.tk, .int .i64 c.sh, (.slice A5 c.rs.length c5), (.slice A6 c.ws.length c6), .bool c.cm] _ HQ.out Try.underlying32 rfl (by kernel_rfl) ?_; kernel_rfl)
      | fail)
    go_ret
    exact ⟨ret_bool HE.out.symm, HB.out⟩
  · by_cases e1 : 0 < r.st
    · have HE := Lib.hid (show confB (i1, i2) c ⟨r, .slice A3 r.c.rs.length c3, .slice A4 r.c.ws.length c4⟩ = M.interB r.c c by unfold confB; dsimp only; rw [e0, decide_eq_true e1]; rfl)
      have hd : decide (0 < r.st) = true := decide_eq_true e1
      go_enter Try.func43, Try.ntmps43
      go_wp2_with (first
        | (with_reducible refine wpList_load_mid rfl 24 _ rfl w.heap.size 0 rfl [.int .i64 r.ir, .int .i64 r.is] _ HI.out Try.underlying24 rfl (by kernel_rfl) ?_)
        | (with_reducible refine wpList_load_mid rfl 24 _ rfl p 0 rfl [.int .i64 i1, .int .i64 i2] _ HP.out Try.underlying24 rfl (by kernel_rfl) ?_)
        | (with_reducible refine wpList_load_mid_g ?_ 32 _ rfl w.heap.size 7 rfl [.int .i64 r.c.k, .int .i64 r.c.tc, .int .i64 r.c.tn, .int .i64 r.c.tt, .int .i64 r.c.tk, .int .i64 r.c.sh, (.slice A3 r.c.rs.length c3), (.slice A4 r.c.ws.length c4), .bool r.c.cm] _ HC.out Try.underlying32 rfl (by kernel_rfl) ?_; kernel_rfl)
        | (with_reducible refine wpList_load_mid_g ?_ 32 _ rfl q 0 rfl [.int .i64 c.k, .int .i64 c.tc, .int .i64 c.tn, .int .i64 c.tt, .int .i64 c.tk, .int .i64 c.sh, (.slice A5 c.rs.length c5), (.slice A6 c.ws.length c6), .bool c.cm] _ HQ.out Try.underlying32 rfl (by kernel_rfl) ?_; kernel_rfl)
        | fail)
      refine HCL.out.mono ?_
      rintro e w1 ⟨rfl, hb⟩
      have HB1 := Lib.hid (below_on HB.out hb)
      clear hb
      go_wp2
      go_ret
      exact ⟨ret_bool HE.out.symm, HB1.out⟩
    · have HE := Lib.hid (show confB (i1, i2) c ⟨r, .slice A3 r.c.rs.length c3, .slice A4 r.c.ws.length c4⟩ = false by unfold confB; dsimp only; rw [e0, decide_eq_false e1]; rfl)
      have hd : decide (0 < r.st) = false := decide_eq_false e1
      go_enter Try.func43, Try.ntmps43
      go_wp2_with (first
        | (with_reducible refine wpList_load_mid rfl 24 _ rfl w.heap.size 0 rfl [.int .i64 r.ir, .int .i64 r.is] _ HI.out Try.underlying24 rfl (by kernel_rfl) ?_)
        | (with_reducible refine wpList_load_mid rfl 24 _ rfl p 0 rfl [.int .i64 i1, .int .i64 i2] _ HP.out Try.underlying24 rfl (by kernel_rfl) ?_)
        | (with_reducible refine wpList_load_mid_g ?_ 32 _ rfl w.heap.size 7 rfl [.int .i64 r.c.k, .int .i64 r.c.tc, .int .i64 r.c.tn, .int .i64 r.c.tt, .int .i64 r.c.tk, .int .i64 r.c.sh, (.slice A3 r.c.rs.length c3), (.slice A4 r.c.ws.length c4), .bool r.c.cm] _ HC.out Try.underlying32 rfl (by kernel_rfl) ?_; kernel_rfl)
        | (with_reducible refine wpList_load_mid_g ?_ 32 _ rfl q 0 rfl [.int .i64 c.k, .int .i64 c.tc, .int .i64 c.tn, .int .i64 c.tt, .int .i64 c.tk, .int .i64 c.sh, (.slice A5 c.rs.length c5), (.slice A6 c.ws.length c6), .bool c.cm] _ HQ.out Try.underlying32 rfl (by kernel_rfl) ?_; kernel_rfl)
        | fail)
      go_ret
      exact ⟨ret_bool HE.out.symm, HB.out⟩
end Go.Proofs.Ytgaglcfoodbcfaa
