/- Contracts of conflicts and of its closure; no conditions but those that they name. -/
import Derived.Test.YtpknkhgkejkpkaaGreatCou
import Derived.Test.YtpknkhgkejkpkaaGreatCln
import Derived.BigQuiet
import Derived.Deep.QuietTactic

namespace Go.Proofs.YtpknkhgkejkpkaaGreat
open Go.ChangeShapes Go.WideShapes Go.ChangeAt Go.RowKit

attribute [local go_sem ↓] run_same7 run_same_inst run_same_ballot run_same_txn run_same_stamp
set_option maxHeartbeats 4000000 in
set_option maxRecDepth 100000 in
theorem conf_any {w : World} (r : M.Rec) {va vb : Value} (i : Ky) (c : M.Cmd) {p q : Nat} {ua ub : Value} (hx : Txt w ⟨r, va, vb⟩) (hp : w.rangeAt p 0 [.int .i64 i.1, .int .i64 i.2]) (hpl : p < w.heap.size) (hq : w.rangeAt q 0 [.int .i64 c.k, .int .i64 c.tc, .int .i64 c.tn, .int .i64 c.tt, .int .i64 c.tk, .int .i64 c.sh, ua, ub, .bool c.cm]) (hql : q < w.heap.size) (g : Rds w ua c.rs) (g' : Wrs w ub c.ws) (F : M.Mod r.c) (G : M.Mod c) :
    Calls Tryz.prog 83 #[.agg #[.int .i64 r.ir, .int .i64 r.is, .int .i64 r.st, .int .i64 r.pn, .int .i64 r.pr, .int .i64 r.bn, .int .i64 r.br, .int .i64 r.c.k, .int .i64 r.c.tc, .int .i64 r.c.tn, .int .i64 r.c.tt, .int .i64 r.c.tk, .int .i64 r.c.sh, va, vb, .bool r.c.cm, .int .i64 r.sq, .int .i64 r.d0, .int .i64 r.d1, .int .i64 r.d2, .int .i64 r.d3, .int .i64 r.d4, .int .i64 r.d5, .int .i64 r.d6, .bool r.kp], .pointer (some ⟨p, 0, none⟩), .pointer (some ⟨q, 0, none⟩)] w fun e w' => e = .returned (.bool (confB i c ⟨r, va, vb⟩)) ∧ Below w.heap.size w w' := by
  obtain ⟨A3, c3, ea⟩ := rowN_sliceOf hx.rs
  obtain ⟨A4, c4, eb⟩ := rowN_sliceOf hx.ws
  obtain ⟨A5, c5, ec⟩ := rowN_sliceOf g
  obtain ⟨A6, c6, ed⟩ := rowN_sliceOf g'
  dsimp only at ea eb
  subst ea eb ec ed
  obtain ⟨i1, i2⟩ := i
  have hb3 : Below w.heap.size w (w.alloc (.cells #[.int .i64 r.ir, .int .i64 r.is, .int .i64 r.st, .int .i64 r.pn, .int .i64 r.pr, .int .i64 r.bn, .int .i64 r.br, .int .i64 r.c.k, .int .i64 r.c.tc, .int .i64 r.c.tn, .int .i64 r.c.tt, .int .i64 r.c.tk, .int .i64 r.c.sh, (.slice A3 r.c.rs.length c3), (.slice A4 r.c.ws.length c4), .bool r.c.cm, .int .i64 r.sq, .int .i64 r.d0, .int .i64 r.d1, .int .i64 r.d2, .int .i64 r.d3, .int .i64 r.d4, .int .i64 r.d5, .int .i64 r.d6, .bool r.kp] 41)) := below_new (Below.refl _ _)
  have range_on : ∀ {w' : World} {b o : Nat} {L : List Value}, b < w.heap.size → w.rangeAt b o L → Below w.heap.size w w' → w'.rangeAt b o L := fun hb h k j v hj => (k.cell (p := ⟨_, _ + j, none⟩) hb).trans (h j v hj)
  have HP := Lib.hid (range_on hpl hp hb3)
  have HQ := Lib.hid (range_on hql hq hb3)
  have HI := Lib.hid (hold_range (Hold.new w [.int .i64 r.ir, .int .i64 r.is, .int .i64 r.st, .int .i64 r.pn, .int .i64 r.pr, .int .i64 r.bn, .int .i64 r.br, .int .i64 r.c.k, .int .i64 r.c.tc, .int .i64 r.c.tn, .int .i64 r.c.tt, .int .i64 r.c.tk, .int .i64 r.c.sh, (.slice A3 r.c.rs.length c3), (.slice A4 r.c.ws.length c4), .bool r.c.cm, .int .i64 r.sq, .int .i64 r.d0, .int .i64 r.d1, .int .i64 r.d2, .int .i64 r.d3, .int .i64 r.d4, .int .i64 r.d5, .int .i64 r.d6, .bool r.kp] 41) 0 [.int .i64 r.ir, .int .i64 r.is] (fun j v hj => by
        match j, hj with
        | 0, hj => exact hj
        | 1, hj => exact hj))
  have HC := Lib.hid (hold_range (Hold.new w [.int .i64 r.ir, .int .i64 r.is, .int .i64 r.st, .int .i64 r.pn, .int .i64 r.pr, .int .i64 r.bn, .int .i64 r.br, .int .i64 r.c.k, .int .i64 r.c.tc, .int .i64 r.c.tn, .int .i64 r.c.tt, .int .i64 r.c.tk, .int .i64 r.c.sh, (.slice A3 r.c.rs.length c3), (.slice A4 r.c.ws.length c4), .bool r.c.cm, .int .i64 r.sq, .int .i64 r.d0, .int .i64 r.d1, .int .i64 r.d2, .int .i64 r.d3, .int .i64 r.d4, .int .i64 r.d5, .int .i64 r.d6, .bool r.kp] 41) 7 [.int .i64 r.c.k, .int .i64 r.c.tc, .int .i64 r.c.tn, .int .i64 r.c.tt, .int .i64 r.c.tk, .int .i64 r.c.sh, (.slice A3 r.c.rs.length c3), (.slice A4 r.c.ws.length c4), .bool r.c.cm] (fun j v hj => by
        match j, hj with
        | 0, hj => exact hj
        | 1, hj => exact hj
        | 2, hj => exact hj
        | 3, hj => exact hj
        | 4, hj => exact hj
        | 5, hj => exact hj
        | 6, hj => exact hj
        | 7, hj => exact hj
        | 8, hj => exact hj))
  have HB := Lib.hid hb3
  have HS := Lib.hid (hold_cell (Hold.new w [.int .i64 r.ir, .int .i64 r.is, .int .i64 r.st, .int .i64 r.pn, .int .i64 r.pr, .int .i64 r.bn, .int .i64 r.br, .int .i64 r.c.k, .int .i64 r.c.tc, .int .i64 r.c.tn, .int .i64 r.c.tt, .int .i64 r.c.tk, .int .i64 r.c.sh, (.slice A3 r.c.rs.length c3), (.slice A4 r.c.ws.length c4), .bool r.c.cm, .int .i64 r.sq, .int .i64 r.d0, .int .i64 r.d1, .int .i64 r.d2, .int .i64 r.d3, .int .i64 r.d4, .int .i64 r.d5, .int .i64 r.d6, .bool r.kp] 41) 2 rfl)
  have HCL := Lib.hid (inter_any r.c c (hx.below hb3).rs (hx.below hb3).ws (g.below hb3) (g'.below hb3) F G)
  clear hx hp hpl hq hql g g' hb3 range_on
  rcases two (M.eq2 r.ir r.is i1 i2) with e0 | e0
  · have HE := Lib.hid (show confB (i1, i2) c ⟨r, .slice A3 r.c.rs.length c3, .slice A4 r.c.ws.length c4⟩ = false by unfold confB; dsimp only; rw [e0]; rfl)
    go_enter Tryz.func83, Tryz.ntmps83
    go_wp2_with (first
      | (with_reducible refine wpList_load_mid rfl 32 _ rfl w.heap.size 0 rfl [.int .i64 r.ir, .int .i64 r.is] _ HI.out Tryz.underlying32 rfl (by kernel_rfl) ?_)
      | (with_reducible refine wpList_load_mid rfl 32 _ rfl p 0 rfl [.int .i64 i1, .int .i64 i2] _ HP.out Tryz.underlying32 rfl (by kernel_rfl) ?_)
      | (with_reducible refine wpList_load_mid_g ?_ 30 _ rfl w.heap.size 7 rfl [.int .i64 r.c.k, .int .i64 r.c.tc, .int .i64 r.c.tn, .int .i64 r.c.tt, .int .i64 r.c.tk, .int .i64 r.c.sh, (.slice A3 r.c.rs.length c3), (.slice A4 r.c.ws.length c4), .bool r.c.cm] _ HC.out Tryz.underlying30 rfl (by kernel_rfl) ?_; kernel_rfl)
      | (with_reducible refine wpList_load_mid_g ?_ 30 _ rfl q 0 rfl [.int .i64 c.k, .int .i64 c.tc, .int .i64 c.tn, .int .i64 c.tt, .int .i64 c.tk, .int .i64 c.sh, (.slice A5 c.rs.length c5), (.slice A6 c.ws.length c6), .bool c.cm] _ HQ.out Tryz.underlying30 rfl (by kernel_rfl) ?_; kernel_rfl)
      | fail)
    go_ret
    exact ⟨ret_bool HE.out.symm, HB.out⟩
  · by_cases e1 : 0 < r.st
    · have HE := Lib.hid (show confB (i1, i2) c ⟨r, .slice A3 r.c.rs.length c3, .slice A4 r.c.ws.length c4⟩ = M.interB r.c c by unfold confB; dsimp only; rw [e0, decide_eq_true e1]; rfl)
      have hd : decide (0 < r.st) = true := decide_eq_true e1
      go_enter Tryz.func83, Tryz.ntmps83
      go_wp2_with (first
        | (with_reducible refine wpList_load_mid rfl 32 _ rfl w.heap.size 0 rfl [.int .i64 r.ir, .int .i64 r.is] _ HI.out Tryz.underlying32 rfl (by kernel_rfl) ?_)
        | (with_reducible refine wpList_load_mid rfl 32 _ rfl p 0 rfl [.int .i64 i1, .int .i64 i2] _ HP.out Tryz.underlying32 rfl (by kernel_rfl) ?_)
        | (with_reducible refine wpList_load_mid_g ?_ 30 _ rfl w.heap.size 7 rfl [.int .i64 r.c.k, .int .i64 r.c.tc, .int .i64 r.c.tn, .int .i64 r.c.tt, .int .i64 r.c.tk, .int .i64 r.c.sh, (.slice A3 r.c.rs.length c3), (.slice A4 r.c.ws.length c4), .bool r.c.cm] _ HC.out Tryz.underlying30 rfl (by kernel_rfl) ?_; kernel_rfl)
        | (with_reducible refine wpList_load_mid_g ?_ 30 _ rfl q 0 rfl [.int .i64 c.k, .int .i64 c.tc, .int .i64 c.tn, .int .i64 c.tt, .int .i64 c.tk, .int .i64 c.sh, (.slice A5 c.rs.length c5), (.slice A6 c.ws.length c6), .bool c.cm] _ HQ.out Tryz.underlying30 rfl (by kernel_rfl) ?_; kernel_rfl)
        | fail)
      refine HCL.out.mono ?_
      rintro e w1 ⟨rfl, hb⟩
      have HB1 := Lib.hid (below_on HB.out hb)
      clear hb
      go_wp2
      go_ret
      exact ⟨ret_bool HE.out.symm, HB1.out⟩
    · have HE := Lib.hid (show confB (i1, i2) c ⟨r, .slice A3 r.c.rs.length c3, .slice A4 r.c.ws.length c4⟩ = false by unfold confB; dsimp only; rw [e0, decide_eq_false e1]; rfl)
      have hd : decide (0 < r.st) = false := decide_eq_false e1
      go_enter Tryz.func83, Tryz.ntmps83
      go_wp2_with (first
        | (with_reducible refine wpList_load_mid rfl 32 _ rfl w.heap.size 0 rfl [.int .i64 r.ir, .int .i64 r.is] _ HI.out Tryz.underlying32 rfl (by kernel_rfl) ?_)
        | (with_reducible refine wpList_load_mid rfl 32 _ rfl p 0 rfl [.int .i64 i1, .int .i64 i2] _ HP.out Tryz.underlying32 rfl (by kernel_rfl) ?_)
        | (with_reducible refine wpList_load_mid_g ?_ 30 _ rfl w.heap.size 7 rfl [.int .i64 r.c.k, .int .i64 r.c.tc, .int .i64 r.c.tn, .int .i64 r.c.tt, .int .i64 r.c.tk, .int .i64 r.c.sh, (.slice A3 r.c.rs.length c3), (.slice A4 r.c.ws.length c4), .bool r.c.cm] _ HC.out Tryz.underlying30 rfl (by kernel_rfl) ?_; kernel_rfl)
        | (with_reducible refine wpList_load_mid_g ?_ 30 _ rfl q 0 rfl [.int .i64 c.k, .int .i64 c.tc, .int .i64 c.tn, .int .i64 c.tt, .int .i64 c.tk, .int .i64 c.sh, (.slice A5 c.rs.length c5), (.slice A6 c.ws.length c6), .bool c.cm] _ HQ.out Tryz.underlying30 rfl (by kernel_rfl) ?_; kernel_rfl)
        | fail)
      go_ret
      exact ⟨ret_bool HE.out.symm, HB.out⟩
end Go.Proofs.YtpknkhgkejkpkaaGreat

namespace Go.Proofs.YtpknkhgkejkpkaaGreat
open Go.ChangeShapes Go.WideShapes Go.ChangeAt Go.RowKit

theorem hmf' (fn : Fn) (first cap : Array Value) (w : World) : (Instr.makeFunc fn first cap).run Tryz.prog w = .ok (.func fn first cap) w := rfl
theorem range_on {w w' : World} {b o : Nat} {L : List Value} (hb : b < w.heap.size) (h : w.rangeAt b o L) (k : Below w.heap.size w w') : w'.rangeAt b o L := fun j v hj => (k.cell (p := ⟨_, _ + j, none⟩) hb).trans (h j v hj)
theorem filter_yes {α : Type} {Y : List α} {p : α → Bool} {k : Nat} {x : α} (h : Y[k]? = some x) (e : p x = true) : (Y.take (k + 1)).filter p = (Y.take k).filter p ++ [x] := by
  rw [List.take_add_one, h, Option.toList_some, List.filter_append]; simp [e]
theorem filter_no {α : Type} {Y : List α} {p : α → Bool} {k : Nat} {x : α} (h : Y[k]? = some x) (e : p x = false) : (Y.take (k + 1)).filter p = (Y.take k).filter p := by
  rw [List.take_add_one, h, Option.toList_some, List.filter_append]; simp [e]
theorem modX_known {X : List Rv} (h : ∀ x ∈ X, M.Mod x.r.c) : ∀ x ∈ known X, M.Mod x.r.c := fun x hx => h x (known_mem hx)
set_option maxHeartbeats 4000000 in
set_option maxRecDepth 100000 in
theorem conflicts_any {w : World} {v : Value} {X : List Rv} (h : Rows w v X) (hl : X.length ≤ 1000) (hm : ∀ x ∈ X, M.Mod x.r.c) (i1 i2 : Int) (c : M.Cmd) {ua ub : Value} (g : Rds w ua c.rs) (g' : Wrs w ub c.ws) (G : M.Mod c) :
    Calls Tryz.prog 56 #[v, .agg #[.int .i64 i1, .int .i64 i2], .agg #[.int .i64 c.k, .int .i64 c.tc, .int .i64 c.tn, .int .i64 c.tt, .int .i64 c.tk, .int .i64 c.sh, ua, ub, .bool c.cm]] w (MadeX (confs X (i1, i2) c) w) := by
  obtain ⟨i0, hi, hz0, hz1, hz2⟩ := info_parts info44
  obtain ⟨A, cc, rfl⟩ := rowN_sliceOf h.row
  obtain ⟨A5, c5, ec⟩ := rowN_sliceOf g
  obtain ⟨A6, c6, ed⟩ := rowN_sliceOf g'
  subst ec ed
  have hb0 : Below w.heap.size w ((w.alloc (.cells #[.int .i64 i1, .int .i64 i2] 32)).alloc (.cells #[.int .i64 c.k, .int .i64 c.tc, .int .i64 c.tn, .int .i64 c.tt, .int .i64 c.tk, .int .i64 c.sh, (.slice A5 c.rs.length c5), (.slice A6 c.ws.length c6), .bool c.cm] 30)) := below_new (below_new (Below.refl _ _))
  have hp : ((w.alloc (.cells #[.int .i64 i1, .int .i64 i2] 32)).alloc (.cells #[.int .i64 c.k, .int .i64 c.tc, .int .i64 c.tn, .int .i64 c.tt, .int .i64 c.tk, .int .i64 c.sh, (.slice A5 c.rs.length c5), (.slice A6 c.ws.length c6), .bool c.cm] 30)).rangeAt w.heap.size 0 [.int .i64 i1, .int .i64 i2] := range_on (by simp) (hold_range (Hold.new w [.int .i64 i1, .int .i64 i2] 32) 0 _ (fun j v hj => by rw [Nat.zero_add]; exact hj)) (below_new (Below.refl _ _))
  have hq : ((w.alloc (.cells #[.int .i64 i1, .int .i64 i2] 32)).alloc (.cells #[.int .i64 c.k, .int .i64 c.tc, .int .i64 c.tn, .int .i64 c.tt, .int .i64 c.tk, .int .i64 c.sh, (.slice A5 c.rs.length c5), (.slice A6 c.ws.length c6), .bool c.cm] 30)).rangeAt (w.heap.size + 1) 0 [.int .i64 c.k, .int .i64 c.tc, .int .i64 c.tn, .int .i64 c.tt, .int .i64 c.tk, .int .i64 c.sh, (.slice A5 c.rs.length c5), (.slice A6 c.ws.length c6), .bool c.cm] := by
    have := hold_range (Hold.new (w.alloc (.cells #[.int .i64 i1, .int .i64 i2] 32)) [.int .i64 c.k, .int .i64 c.tc, .int .i64 c.tn, .int .i64 c.tt, .int .i64 c.tk, .int .i64 c.sh, (.slice A5 c.rs.length c5), (.slice A6 c.ws.length c6), .bool c.cm] 30) 0 [.int .i64 c.k, .int .i64 c.tc, .int .i64 c.tn, .int .i64 c.tt, .int .i64 c.tk, .int .i64 c.sh, (.slice A5 c.rs.length c5), (.slice A6 c.ws.length c6), .bool c.cm] (fun j v hj => by rw [Nat.zero_add]; exact hj)
    simpa using this
  have hc := counting_any (h.below hb0) hl
  have hs0 : ((w.alloc (.cells #[.int .i64 i1, .int .i64 i2] 32)).alloc (.cells #[.int .i64 c.k, .int .i64 c.tc, .int .i64 c.tn, .int .i64 c.tt, .int .i64 c.tk, .int .i64 c.sh, (.slice A5 c.rs.length c5), (.slice A6 c.ws.length c6), .bool c.cm] 30)).heap.size = w.heap.size + 1 + 1 := by simp
  have HG := Lib.hid (g.below hb0)
  have HG' := Lib.hid (g'.below hb0)
  have HC := Lib.hid hc
  have HP := Lib.hid hp
  have HQ := Lib.hid hq
  have HB := Lib.hid hb0
  have HH := Lib.hid (h.below hb0)
  have HM := Lib.hid hm
  have HKL := Lib.hid (known_len X)
  clear h g g' hc hp hq hb0 hm
  have hmf := hmf'
  go_enter Tryz.func56, Tryz.ntmps56
  go_wp2_with (fail)
  generalize ((w.alloc (.cells #[.int .i64 i1, .int .i64 i2] 32)).alloc (.cells #[.int .i64 c.k, .int .i64 c.tc, .int .i64 c.tn, .int .i64 c.tt, .int .i64 c.tk, .int .i64 c.sh, (.slice A5 c.rs.length c5), (.slice A6 c.ws.length c6), .bool c.cm] 30)) = w0 at *
  have HS0 := Lib.hid hs0
  clear hs0
  refine HC.out.mono ?_
  rintro e w1 ⟨v1, rfl, o1, hb1⟩
  obtain ⟨Y, hY⟩ : ∃ Y, Y = known X := ⟨_, rfl⟩
  have hyt : ∀ x ∈ Y, Txt w1 x := fun x hx => (HH.out.tx x (known_mem (hY ▸ hx))).below hb1
  have hym : ∀ x ∈ Y, M.Mod x.r.c := fun x hx => HM.out x (known_mem (hY ▸ hx))
  have hyl : Y.length ≤ 1000 := by have := HKL.out; rw [hY]; omega
  have hyc : Y.filter (confB (i1, i2) c) = confs X (i1, i2) c := by rw [hY, confs_filter]
  rw [← hY] at o1
  obtain ⟨A1, k1, rfl⟩ := ownsRow_slice o1
  have HY := Lib.hid (rows_of_owns o1 hyt)
  have HYM := Lib.hid hym
  have HYC := Lib.hid hyc
  have HB1 := Lib.hid (below_on HB.out hb1)
  have HP1 := Lib.hid (range_on (by have := HS0.out; omega) HP.out hb1)
  have HQ1 := Lib.hid (range_on (by have := HS0.out; omega) HQ.out hb1)
  have HG1 := Lib.hid (HG.out.below hb1)
  have HG1' := Lib.hid (HG'.out.below hb1)
  have HS1 := Lib.hid (show w.heap.size + 1 < w1.heap.size by have := HS0.out; have := hb1.size; omega)
  clear o1 hyt hym hyc hb1 hY HC HH HM HKL HP HQ HG HG' HB HS0
  go_wp2
  go_loopw [8, 15] (fun u i wr => ∃ k : Nat, i = .int .i64 k ∧ k ≤ Y.length ∧ Hid (Below w1.heap.size w1 wr) ∧ Hid (wr.ownsRow w1.heap.size 41 25 u ((Y.take k).filter (confB (i1, i2) c)).length (((Y.take k).filter (confB (i1, i2) c)).flatMap Rv.cells))) (fun _ i _ => Y.length - (intOf i).toNat)
  case atStart => exact ⟨0, rfl, Nat.zero_le _, Lib.hid (Below.refl _ _), Lib.hid (World.ownsRow_nil _ _ _ _)⟩
  case round =>
    obtain ⟨k, rfl, hk, HW, HO⟩ := hrel
    by_cases hlt : k < Y.length
    · obtain ⟨x, hx⟩ : ∃ x, Y[k]? = some x := ⟨_, List.getElem?_eq_getElem hlt⟩
      have hxm : x ∈ Y := List.mem_of_getElem? hx
      obtain ⟨b, o, rfl, hbl, hrr⟩ := rowN_range (HY.out.below HW.out).row hx
      have HX := Lib.hid ((HY.out.tx x hxm).below HW.out)
      have HMX := Lib.hid (HYM.out x hxm)
      have HFY := Lib.hid (show confB (i1, i2) c x = true → (Y.take (k + 1)).filter (confB (i1, i2) c) = (Y.take k).filter (confB (i1, i2) c) ++ [x] from filter_yes hx)
      have HFN := Lib.hid (show confB (i1, i2) c x = false → (Y.take (k + 1)).filter (confB (i1, i2) c) = (Y.take k).filter (confB (i1, i2) c) from filter_no hx)
      have hkl : ((Y.take k).filter (confB (i1, i2) c)).length ≤ k := Nat.le_trans (List.length_filter_le _ _) (by rw [List.length_take]; omega)
      obtain ⟨r, va, vb⟩ := x
      obtain ⟨A3, c3, ea⟩ := rowN_sliceOf HX.out.rs
      obtain ⟨A4, c4, eb⟩ := rowN_sliceOf HX.out.ws
      dsimp only at ea eb
      subst ea eb
      have HRR := Lib.hid (show wr.rangeAt b (o + k * 25) [.int .i64 r.ir, .int .i64 r.is, .int .i64 r.st, .int .i64 r.pn, .int .i64 r.pr, .int .i64 r.bn, .int .i64 r.br, .int .i64 r.c.k, .int .i64 r.c.tc, .int .i64 r.c.tn, .int .i64 r.c.tt, .int .i64 r.c.tk, .int .i64 r.c.sh, (.slice A3 r.c.rs.length c3), (.slice A4 r.c.ws.length c4), .bool r.c.cm, .int .i64 r.sq, .int .i64 r.d0, .int .i64 r.d1, .int .i64 r.d2, .int .i64 r.d3, .int .i64 r.d4, .int .i64 r.d5, .int .i64 r.d6, .bool r.kp] from hrr)
      have hk1 : (k : Int) < (Y.length : Int) := by omega
      have hb3 : Below wr.heap.size wr (wr.alloc (.cells #[.int .i64 r.ir, .int .i64 r.is, .int .i64 r.st, .int .i64 r.pn, .int .i64 r.pr, .int .i64 r.bn, .int .i64 r.br, .int .i64 r.c.k, .int .i64 r.c.tc, .int .i64 r.c.tn, .int .i64 r.c.tt, .int .i64 r.c.tk, .int .i64 r.c.sh, (.slice A3 r.c.rs.length c3), (.slice A4 r.c.ws.length c4), .bool r.c.cm, .int .i64 r.sq, .int .i64 r.d0, .int .i64 r.d1, .int .i64 r.d2, .int .i64 r.d3, .int .i64 r.d4, .int .i64 r.d5, .int .i64 r.d6, .bool r.kp] 41)) := below_new (Below.refl _ _)
      have HHO := Lib.hid (Hold.new wr [.int .i64 r.ir, .int .i64 r.is, .int .i64 r.st, .int .i64 r.pn, .int .i64 r.pr, .int .i64 r.bn, .int .i64 r.br, .int .i64 r.c.k, .int .i64 r.c.tc, .int .i64 r.c.tn, .int .i64 r.c.tt, .int .i64 r.c.tk, .int .i64 r.c.sh, (.slice A3 r.c.rs.length c3), (.slice A4 r.c.ws.length c4), .bool r.c.cm, .int .i64 r.sq, .int .i64 r.d0, .int .i64 r.d1, .int .i64 r.d2, .int .i64 r.d3, .int .i64 r.d4, .int .i64 r.d5, .int .i64 r.d6, .bool r.kp] 41)
      have HBX := Lib.hid (hold_range HHO.out 0 [.int .i64 r.ir, .int .i64 r.is, .int .i64 r.st, .int .i64 r.pn, .int .i64 r.pr, .int .i64 r.bn, .int .i64 r.br, .int .i64 r.c.k, .int .i64 r.c.tc, .int .i64 r.c.tn, .int .i64 r.c.tt, .int .i64 r.c.tk, .int .i64 r.c.sh, (.slice A3 r.c.rs.length c3), (.slice A4 r.c.ws.length c4), .bool r.c.cm, .int .i64 r.sq, .int .i64 r.d0, .int .i64 r.d1, .int .i64 r.d2, .int .i64 r.d3, .int .i64 r.d4, .int .i64 r.d5, .int .i64 r.d6, .bool r.kp] (fun j v hj => by rw [Nat.zero_add]; exact hj))
      have HW3 := Lib.hid (below_on HW.out hb3)
      have HO3 := Lib.hid (ownsRow_on HO.out hb3)
      have hsz : w1.heap.size ≤ wr.heap.size := HW.out.size
      have HCF := Lib.hid (conf_any (w := wr.alloc (.cells #[.int .i64 r.ir, .int .i64 r.is, .int .i64 r.st, .int .i64 r.pn, .int .i64 r.pr, .int .i64 r.bn, .int .i64 r.br, .int .i64 r.c.k, .int .i64 r.c.tc, .int .i64 r.c.tn, .int .i64 r.c.tt, .int .i64 r.c.tk, .int .i64 r.c.sh, (.slice A3 r.c.rs.length c3), (.slice A4 r.c.ws.length c4), .bool r.c.cm, .int .i64 r.sq, .int .i64 r.d0, .int .i64 r.d1, .int .i64 r.d2, .int .i64 r.d3, .int .i64 r.d4, .int .i64 r.d5, .int .i64 r.d6, .bool r.kp] 41)) r (i1, i2) c (p := w.heap.size) (q := w.heap.size + 1) (HX.out.below hb3) (range_on (by have := HS1.out; omega) HP1.out HW3.out) (by have := HS1.out; have := HW3.out.size; omega) (range_on (by have := HS1.out; omega) HQ1.out HW3.out) (by have := HS1.out; have := HW3.out.size; omega) (HG1.out.below HW3.out) (HG1'.out.below HW3.out) HMX.out G)
      clear hx hxm hbl hrr HX HMX
      rcases hq : confB (i1, i2) c ⟨r, .slice A3 r.c.rs.length c3, .slice A4 r.c.ws.length c4⟩ with _ | _
      · have HNX := Lib.hid (HFN.out hq)
        rw [hq] at HCF
        clear hq
        go_wp2_with (first
          | (with_reducible refine wpList_load_mid rfl 41 _ rfl b (o + k * 25) rfl [.int .i64 r.ir, .int .i64 r.is, .int .i64 r.st, .int .i64 r.pn, .int .i64 r.pr, .int .i64 r.bn, .int .i64 r.br, .int .i64 r.c.k, .int .i64 r.c.tc, .int .i64 r.c.tn, .int .i64 r.c.tt, .int .i64 r.c.tk, .int .i64 r.c.sh, (.slice A3 r.c.rs.length c3), (.slice A4 r.c.ws.length c4), .bool r.c.cm, .int .i64 r.sq, .int .i64 r.d0, .int .i64 r.d1, .int .i64 r.d2, .int .i64 r.d3, .int .i64 r.d4, .int .i64 r.d5, .int .i64 r.d6, .bool r.kp] _ HRR.out Tryz.underlying41 rfl (by kernel_rfl) ?_)
          | (with_reducible refine wpList_store_fresh rfl 41 _ _ rfl wr.heap.size rfl 41 _ [.int .i64 r.ir, .int .i64 r.is, .int .i64 r.st, .int .i64 r.pn, .int .i64 r.pr, .int .i64 r.bn, .int .i64 r.br, .int .i64 r.c.k, .int .i64 r.c.tc, .int .i64 r.c.tn, .int .i64 r.c.tt, .int .i64 r.c.tk, .int .i64 r.c.sh, (.slice A3 r.c.rs.length c3), (.slice A4 r.c.ws.length c4), .bool r.c.cm, .int .i64 r.sq, .int .i64 r.d0, .int .i64 r.d1, .int .i64 r.d2, .int .i64 r.d3, .int .i64 r.d4, .int .i64 r.d5, .int .i64 r.d6, .bool r.kp] rfl rfl rfl (by kernel_rfl) rfl ?_)
          | (with_reducible refine wpList_load_mid rfl 41 _ rfl wr.heap.size 0 rfl [.int .i64 r.ir, .int .i64 r.is, .int .i64 r.st, .int .i64 r.pn, .int .i64 r.pr, .int .i64 r.bn, .int .i64 r.br, .int .i64 r.c.k, .int .i64 r.c.tc, .int .i64 r.c.tn, .int .i64 r.c.tt, .int .i64 r.c.tk, .int .i64 r.c.sh, (.slice A3 r.c.rs.length c3), (.slice A4 r.c.ws.length c4), .bool r.c.cm, .int .i64 r.sq, .int .i64 r.d0, .int .i64 r.d1, .int .i64 r.d2, .int .i64 r.d3, .int .i64 r.d4, .int .i64 r.d5, .int .i64 r.d6, .bool r.kp] _ HBX.out Tryz.underlying41 rfl (by kernel_rfl) ?_)
          | fail)
        refine HCF.out.mono ?_
        rintro e w5 ⟨rfl, hb5⟩
        have HW5 := Lib.hid (below_on HW3.out hb5)
        have HO5 := Lib.hid (ownsRow_on HO3.out hb5)
        clear hb5
        go_wp2
        go_roundw
        case rel => exact ⟨k + 1, by go_num, hlt, HW5, by rw [HNX.out]; exact HO5⟩
        case measure => simp [intOf]; omega
      · have HYX := Lib.hid (HFY.out hq)
        rw [hq] at HCF
        clear hq
        go_wp2_with (first
          | (with_reducible refine wpList_load_mid rfl 41 _ rfl b (o + k * 25) rfl [.int .i64 r.ir, .int .i64 r.is, .int .i64 r.st, .int .i64 r.pn, .int .i64 r.pr, .int .i64 r.bn, .int .i64 r.br, .int .i64 r.c.k, .int .i64 r.c.tc, .int .i64 r.c.tn, .int .i64 r.c.tt, .int .i64 r.c.tk, .int .i64 r.c.sh, (.slice A3 r.c.rs.length c3), (.slice A4 r.c.ws.length c4), .bool r.c.cm, .int .i64 r.sq, .int .i64 r.d0, .int .i64 r.d1, .int .i64 r.d2, .int .i64 r.d3, .int .i64 r.d4, .int .i64 r.d5, .int .i64 r.d6, .bool r.kp] _ HRR.out Tryz.underlying41 rfl (by kernel_rfl) ?_)
          | (with_reducible refine wpList_store_fresh rfl 41 _ _ rfl wr.heap.size rfl 41 _ [.int .i64 r.ir, .int .i64 r.is, .int .i64 r.st, .int .i64 r.pn, .int .i64 r.pr, .int .i64 r.bn, .int .i64 r.br, .int .i64 r.c.k, .int .i64 r.c.tc, .int .i64 r.c.tn, .int .i64 r.c.tt, .int .i64 r.c.tk, .int .i64 r.c.sh, (.slice A3 r.c.rs.length c3), (.slice A4 r.c.ws.length c4), .bool r.c.cm, .int .i64 r.sq, .int .i64 r.d0, .int .i64 r.d1, .int .i64 r.d2, .int .i64 r.d3, .int .i64 r.d4, .int .i64 r.d5, .int .i64 r.d6, .bool r.kp] rfl rfl rfl (by kernel_rfl) rfl ?_)
          | (with_reducible refine wpList_load_mid rfl 41 _ rfl wr.heap.size 0 rfl [.int .i64 r.ir, .int .i64 r.is, .int .i64 r.st, .int .i64 r.pn, .int .i64 r.pr, .int .i64 r.bn, .int .i64 r.br, .int .i64 r.c.k, .int .i64 r.c.tc, .int .i64 r.c.tn, .int .i64 r.c.tt, .int .i64 r.c.tk, .int .i64 r.c.sh, (.slice A3 r.c.rs.length c3), (.slice A4 r.c.ws.length c4), .bool r.c.cm, .int .i64 r.sq, .int .i64 r.d0, .int .i64 r.d1, .int .i64 r.d2, .int .i64 r.d3, .int .i64 r.d4, .int .i64 r.d5, .int .i64 r.d6, .bool r.kp] _ HBX.out Tryz.underlying41 rfl (by kernel_rfl) ?_)
          | fail)
        refine HCF.out.mono ?_
        rintro e w5 ⟨rfl, hb5⟩
        have HW5 := Lib.hid (below_on HW3.out hb5)
        have HO5 := Lib.hid (ownsRow_on HO3.out hb5)
        have HBX5 := Lib.hid (range_on (by simp) HBX.out hb5)
        have HS5 := Lib.hid (show w1.heap.size ≤ w5.heap.size from HW5.out.size)
        clear hb5 HBX HRR
        go_wp2_with (first
          | (with_reducible refine wpList_load_mid rfl 41 _ rfl wr.heap.size 0 rfl [.int .i64 r.ir, .int .i64 r.is, .int .i64 r.st, .int .i64 r.pn, .int .i64 r.pr, .int .i64 r.bn, .int .i64 r.br, .int .i64 r.c.k, .int .i64 r.c.tc, .int .i64 r.c.tn, .int .i64 r.c.tt, .int .i64 r.c.tk, .int .i64 r.c.sh, (.slice A3 r.c.rs.length c3), (.slice A4 r.c.ws.length c4), .bool r.c.cm, .int .i64 r.sq, .int .i64 r.d0, .int .i64 r.d1, .int .i64 r.d2, .int .i64 r.d3, .int .i64 r.d4, .int .i64 r.d5, .int .i64 r.d6, .bool r.kp] _ HBX5.out Tryz.underlying41 rfl (by kernel_rfl) ?_)
          | (with_reducible refine wpList_build44 rfl (.tmp 23) rfl ⟨r, .slice A3 r.c.rs.length c3, .slice A4 r.c.ws.length c4⟩ rfl ?_)
          | (at_builtin; refine wpList_append_own _ rfl _ _ 22 rfl w1.heap.size 41 i0 Rv.zero.val 25 232 Tryz.underlying22 hi hz0 hz1 hz2 rfl (by decide) _ _ _ rfl (HO5.out.alloc _) ⟨w5.heap.size, 0, none⟩ 1 1 (Rv.cells ⟨r, .slice A3 r.c.rs.length c3, .slice A4 r.c.ws.length c4⟩) rfl rfl (rec_new _ ⟨r, .slice A3 r.c.rs.length c3, .slice A4 r.c.ws.length c4⟩) (rec_one rfl rfl) (by unfold maxLen; omega) (by omega) (by simp; have := HS5.out; omega) ?_; intro v' w6 hown' hgrow hnil)
          | fail)
        have hal : Below w5.heap.size w5 (w5.alloc (.cells (Rv.cells ⟨r, .slice A3 r.c.rs.length c3, .slice A4 r.c.ws.length c4⟩).toArray 41)) := below_new (Below.refl _ _)
        have HO6 := Lib.hid (show w6.ownsRow w1.heap.size 41 25 v' ((Y.take (k + 1)).filter (confB (i1, i2) c)).length (((Y.take (k + 1)).filter (confB (i1, i2) c)).flatMap Rv.cells) by rw [HYX.out, flat_snoc, List.length_append]; exact hown')
        have HW6 := Lib.hid ((below_on HW5.out hal).grown hgrow (below_on HW5.out hal).size (fun i hi => ((ownsRow_on HO5.out hal).lt i hi).1))
        clear hown' hgrow hnil hal
        go_wp2
        go_roundw
        case rel => exact ⟨k + 1, by go_num, hlt, HW6, HO6⟩
        case measure => simp [intOf]; omega
    · obtain rfl : k = Y.length := by omega
      have HOE := Lib.hid (show wr.ownsRow w.heap.size 41 25 _ (confs X (i1, i2) c).length ((confs X (i1, i2) c).flatMap Rv.cells) by
        have := ownsRow_baseN HO.out (show w.heap.size ≤ w1.heap.size from HB1.out.size)
        rwa [List.take_length, HYC.out] at this)
      have HBE := Lib.hid (below_on HB1.out HW.out)
      go_wp2
      go_ret
      exact ⟨_, rfl, HOE.out, HBE.out⟩
end Go.Proofs.YtpknkhgkejkpkaaGreat
