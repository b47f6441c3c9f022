/- The walk of WireMusts at a record, and at anything; no conditions but those that it names. -/
import Derived.Test.YtagngbdlpdilnaaLawM
namespace Go.Proofs.Ytagngbdlpdilnaa
open Go.ChangeShapes Go.WideShapes Go.ChangeAt Go.RowKit
attribute [local go_sem ↓] ta_yes33 ta_nil33 ta_yes37 ta_nil37 ta_yes39 ta_nil39 ta_no33_3 ta_no33_37 ta_no33_39 ta_no37_3 ta_no37_33 ta_no37_39 ta_no39_3 ta_no39_33 ta_no39_37

/-- A load of a whole value, as one step of a region that draws. -/
theorem step_load_mid {P : Program} {ops : Array Oper} {o : Oper} {a : Act} {w : World} {K : Act → World → Prop} {Q : Exit → Act → World → Prop} {E : Prop}
    (hw : Region.wanted o (yielded ops a.tmps) = true) (ty : TypeId) (x : Operand) (ho : o.op = .load ty x) (b off : Nat) (hx : a.eval x = .pointer (some ⟨b, off, none⟩)) (cs : List Value) (d : TypeDesc) (hc : w.rangeAt b off cs)
    (hu : P.underlying ty = some d) (hd : d.isRow = true) (hi : (P.info? ty).map (·.size) = some cs.length) (hK : K (a.put o.dst (.agg cs.toArray)) w) : if Region.wanted o (yielded ops a.tmps) = true then Oper.wp P o a w K Q else E := by
  rw [if_pos hw]
  unfold Oper.wp execOp
  simp only [ho, hx, Instr.loadAt, Instr.sureAddr, Sem.run_bind, Sem.run_pure, Result.andThen_ok, run_loadVar_mid w b off ty cs d hc hu hd hi, Oper.upon]
  exact hK

set_option maxHeartbeats 16000000 in
set_option maxRecDepth 100000 in
theorem musts_rec (r : M.Rec) {va vb : Value} (i y : Int) (w : World) (h : Rds w va r.c.rs) (h' : Wrs w vb r.c.ws) (f : M.modB r.c = true) (k3 : y.tmod 5 = 3) : Calls Try.prog 8 #[.agg #[.int .i64 r.ir, .int .i64 r.is, .int .i64 r.st, .int .i64 r.pn, .int .i64 r.pr, .int .i64 r.bn, .int .i64 r.br, .int .i64 r.c.k, .int .i64 r.c.tc, .int .i64 r.c.tn, .int .i64 r.c.tt, .int .i64 r.c.tk, .int .i64 r.c.sh, va, vb, .bool r.c.cm, .int .i64 r.sq, .int .i64 r.d0, .int .i64 r.d1, .int .i64 r.d2, .int .i64 r.d3, .int .i64 r.d4, .int .i64 r.d5, .int .i64 r.d6, .bool r.kp], .int .i64 i, .int .u8 y] w fun e w' => e = .returned (.bool true) ∧ Below w.heap.size w w' := by
  have X := Lib.hid ((Cel.new w [.int .i64 r.ir, .int .i64 r.is, .int .i64 r.st, .int .i64 r.pn, .int .i64 r.pr, .int .i64 r.bn, .int .i64 r.br, .int .i64 r.c.k, .int .i64 r.c.tc, .int .i64 r.c.tn, .int .i64 r.c.tt, .int .i64 r.c.tk, .int .i64 r.c.sh, va, vb, .bool r.c.cm, .int .i64 r.sq, .int .i64 r.d0, .int .i64 r.d1, .int .i64 r.d2, .int .i64 r.d3, .int .i64 r.d4, .int .i64 r.d5, .int .i64 r.d6, .bool r.kp] 37).range (pre := [.int .i64 r.ir, .int .i64 r.is, .int .i64 r.st, .int .i64 r.pn, .int .i64 r.pr, .int .i64 r.bn, .int .i64 r.br]) (L := [.int .i64 r.c.k, .int .i64 r.c.tc, .int .i64 r.c.tn, .int .i64 r.c.tt, .int .i64 r.c.tk, .int .i64 r.c.sh, va, vb, .bool r.c.cm] ++ [.int .i64 r.sq, .int .i64 r.d0, .int .i64 r.d1, .int .i64 r.d2, .int .i64 r.d3, .int .i64 r.d4, .int .i64 r.d5, .int .i64 r.d6, .bool r.kp]) (o := 7) rfl)
  have X1 := Lib.hid (Cel.new w [.int .i64 r.ir, .int .i64 r.is, .int .i64 r.st, .int .i64 r.pn, .int .i64 r.pr, .int .i64 r.bn, .int .i64 r.br, .int .i64 r.c.k, .int .i64 r.c.tc, .int .i64 r.c.tn, .int .i64 r.c.tt, .int .i64 r.c.tk, .int .i64 r.c.sh, va, vb, .bool r.c.cm, .int .i64 r.sq, .int .i64 r.d0, .int .i64 r.d1, .int .i64 r.d2, .int .i64 r.d3, .int .i64 r.d4, .int .i64 r.d5, .int .i64 r.d6, .bool r.kp] 37)
  have F := M.modB_iff.1 f
  have hl := F.l
  have hl' := F.l'
  have XC := Lib.hid (show (w.alloc (.cells #[.int .i64 r.ir, .int .i64 r.is, .int .i64 r.st, .int .i64 r.pn, .int .i64 r.pr, .int .i64 r.bn, .int .i64 r.br, .int .i64 r.c.k, .int .i64 r.c.tc, .int .i64 r.c.tn, .int .i64 r.c.tt, .int .i64 r.c.tk, .int .i64 r.c.sh, va, vb, .bool r.c.cm, .int .i64 r.sq, .int .i64 r.d0, .int .i64 r.d1, .int .i64 r.d2, .int .i64 r.d3, .int .i64 r.d4, .int .i64 r.d5, .int .i64 r.d6, .bool r.kp] 37)).rangeAt w.heap.size 7 [.int .i64 r.c.k, .int .i64 r.c.tc, .int .i64 r.c.tn, .int .i64 r.c.tt, .int .i64 r.c.tk, .int .i64 r.c.sh, va, vb, .bool r.c.cm] from fun j v hj => X.out j v (by rw [List.getElem?_append_left (List.getElem?_eq_some_iff.1 hj).1]; exact hj))
  have R := Lib.hid (h.push (.cells #[.int .i64 r.ir, .int .i64 r.is, .int .i64 r.st, .int .i64 r.pn, .int .i64 r.pr, .int .i64 r.bn, .int .i64 r.br, .int .i64 r.c.k, .int .i64 r.c.tc, .int .i64 r.c.tn, .int .i64 r.c.tt, .int .i64 r.c.tk, .int .i64 r.c.sh, va, vb, .bool r.c.cm, .int .i64 r.sq, .int .i64 r.d0, .int .i64 r.d1, .int .i64 r.d2, .int .i64 r.d3, .int .i64 r.d4, .int .i64 r.d5, .int .i64 r.d6, .bool r.kp] 37))
  have W := Lib.hid (h'.push (.cells #[.int .i64 r.ir, .int .i64 r.is, .int .i64 r.st, .int .i64 r.pn, .int .i64 r.pr, .int .i64 r.bn, .int .i64 r.br, .int .i64 r.c.k, .int .i64 r.c.tc, .int .i64 r.c.tn, .int .i64 r.c.tt, .int .i64 r.c.tk, .int .i64 r.c.sh, va, vb, .bool r.c.cm, .int .i64 r.sq, .int .i64 r.d0, .int .i64 r.d1, .int .i64 r.d2, .int .i64 r.d3, .int .i64 r.d4, .int .i64 r.d5, .int .i64 r.d6, .bool r.kp] 37))
  have B := Lib.hid (below_new (o := .cells #[.int .i64 r.c.k, .int .i64 r.c.tc, .int .i64 r.c.tn, .int .i64 r.c.tt, .int .i64 r.c.tk, .int .i64 r.c.sh, va, vb, .bool r.c.cm] 33) (below_new (o := .cells #[.int .i64 r.ir, .int .i64 r.is, .int .i64 r.st, .int .i64 r.pn, .int .i64 r.pr, .int .i64 r.bn, .int .i64 r.br, .int .i64 r.c.k, .int .i64 r.c.tc, .int .i64 r.c.tn, .int .i64 r.c.tt, .int .i64 r.c.tk, .int .i64 r.c.sh, va, vb, .bool r.c.cm, .int .i64 r.sq, .int .i64 r.d0, .int .i64 r.d1, .int .i64 r.d2, .int .i64 r.d3, .int .i64 r.d4, .int .i64 r.d5, .int .i64 r.d6, .bool r.kp] 37) (Below.refl w.heap.size w)))
  clear h h' X
  go_enter Try.func8, Try.ntmps8
  go_wp2_with
    (first
     | (with_reducible refine wpList_load_mid rfl 33 _ rfl w.heap.size 7 rfl _ _ XC.out Try.underlying33 rfl (by kernel_rfl) ?_)
     | (with_reducible refine wpList_load_mid rfl 37 _ rfl w.heap.size 0 rfl _ _ X1.out.whole Try.underlying37 rfl (by kernel_rfl) ?_)
     | (go_at_call 10
        refine (few_one (by simp) r.c R.out W.out).mono ?_
        rintro e w1 ⟨rfl, hb⟩
        replace B := Lib.hid (below_on B.out hb)
        rw [f]
        replace R := Lib.hid ((R.out.push _).below hb)
        replace W := Lib.hid ((W.out.push _).below hb)
        replace X1 := Lib.hid ((X1.out.push (.cells #[.int .i64 r.c.k, .int .i64 r.c.tc, .int .i64 r.c.tn, .int .i64 r.c.tt, .int .i64 r.c.tk, .int .i64 r.c.sh, va, vb, .bool r.c.cm] 33)).on hb)
        clear hb)
     | (go_at_call 28
        refine (record_rec r R.out W.out hl hl').mono ?_
        rintro e w2 ⟨va2, vb2, rfl, hr2, hw2, hb⟩
        obtain ⟨A1, k1, rfl, -⟩ := hr2.opened
        obtain ⟨A2, k2, rfl, -⟩ := hw2.opened
        replace R := Lib.hid ((R.out.below hb).push (.cells #[.int .i64 r.ir, .int .i64 r.is, .int .i64 r.st, .int .i64 r.pn, .int .i64 r.pr, .int .i64 r.bn, .int .i64 r.br, .int .i64 r.c.k, .int .i64 r.c.tc, .int .i64 r.c.tn, .int .i64 r.c.tt, .int .i64 r.c.tk, .int .i64 r.c.sh, (.slice A1 r.c.rs.length k1), (.slice A2 r.c.ws.length k2), .bool r.c.cm, .int .i64 r.sq, .int .i64 r.d0, .int .i64 r.d1, .int .i64 r.d2, .int .i64 r.d3, .int .i64 r.d4, .int .i64 r.d5, .int .i64 r.d6, .bool r.kp] 37))
        replace W := Lib.hid ((W.out.below hb).push (.cells #[.int .i64 r.ir, .int .i64 r.is, .int .i64 r.st, .int .i64 r.pn, .int .i64 r.pr, .int .i64 r.bn, .int .i64 r.br, .int .i64 r.c.k, .int .i64 r.c.tc, .int .i64 r.c.tn, .int .i64 r.c.tt, .int .i64 r.c.tk, .int .i64 r.c.sh, (.slice A1 r.c.rs.length k1), (.slice A2 r.c.ws.length k2), .bool r.c.cm, .int .i64 r.sq, .int .i64 r.d0, .int .i64 r.d1, .int .i64 r.d2, .int .i64 r.d3, .int .i64 r.d4, .int .i64 r.d5, .int .i64 r.d6, .bool r.kp] 37))
        have R2 := Lib.hid (hr2.push (.cells #[.int .i64 r.ir, .int .i64 r.is, .int .i64 r.st, .int .i64 r.pn, .int .i64 r.pr, .int .i64 r.bn, .int .i64 r.br, .int .i64 r.c.k, .int .i64 r.c.tc, .int .i64 r.c.tn, .int .i64 r.c.tt, .int .i64 r.c.tk, .int .i64 r.c.sh, (.slice A1 r.c.rs.length k1), (.slice A2 r.c.ws.length k2), .bool r.c.cm, .int .i64 r.sq, .int .i64 r.d0, .int .i64 r.d1, .int .i64 r.d2, .int .i64 r.d3, .int .i64 r.d4, .int .i64 r.d5, .int .i64 r.d6, .bool r.kp] 37))
        have W2 := Lib.hid (hw2.push (.cells #[.int .i64 r.ir, .int .i64 r.is, .int .i64 r.st, .int .i64 r.pn, .int .i64 r.pr, .int .i64 r.bn, .int .i64 r.br, .int .i64 r.c.k, .int .i64 r.c.tc, .int .i64 r.c.tn, .int .i64 r.c.tt, .int .i64 r.c.tk, .int .i64 r.c.sh, (.slice A1 r.c.rs.length k1), (.slice A2 r.c.ws.length k2), .bool r.c.cm, .int .i64 r.sq, .int .i64 r.d0, .int .i64 r.d1, .int .i64 r.d2, .int .i64 r.d3, .int .i64 r.d4, .int .i64 r.d5, .int .i64 r.d6, .bool r.kp] 37))
        replace B := Lib.hid (below_new (o := .cells #[.int .i64 r.ir, .int .i64 r.is, .int .i64 r.st, .int .i64 r.pn, .int .i64 r.pr, .int .i64 r.bn, .int .i64 r.br, .int .i64 r.c.k, .int .i64 r.c.tc, .int .i64 r.c.tn, .int .i64 r.c.tt, .int .i64 r.c.tk, .int .i64 r.c.sh, (.slice A1 r.c.rs.length k1), (.slice A2 r.c.ws.length k2), .bool r.c.cm, .int .i64 r.sq, .int .i64 r.d0, .int .i64 r.d1, .int .i64 r.d2, .int .i64 r.d3, .int .i64 r.d4, .int .i64 r.d5, .int .i64 r.d6, .bool r.kp] 37) (below_on B.out hb))
        replace X1 := Lib.hid ((X1.out.on hb).push (.cells #[.int .i64 r.ir, .int .i64 r.is, .int .i64 r.st, .int .i64 r.pn, .int .i64 r.pr, .int .i64 r.bn, .int .i64 r.br, .int .i64 r.c.k, .int .i64 r.c.tc, .int .i64 r.c.tn, .int .i64 r.c.tt, .int .i64 r.c.tk, .int .i64 r.c.sh, (.slice A1 r.c.rs.length k1), (.slice A2 r.c.ws.length k2), .bool r.c.cm, .int .i64 r.sq, .int .i64 r.d0, .int .i64 r.d1, .int .i64 r.d2, .int .i64 r.d3, .int .i64 r.d4, .int .i64 r.d5, .int .i64 r.d6, .bool r.kp] 37))
        have Y := Lib.hid ((Cel.new w2 [.int .i64 r.ir, .int .i64 r.is, .int .i64 r.st, .int .i64 r.pn, .int .i64 r.pr, .int .i64 r.bn, .int .i64 r.br, .int .i64 r.c.k, .int .i64 r.c.tc, .int .i64 r.c.tn, .int .i64 r.c.tt, .int .i64 r.c.tk, .int .i64 r.c.sh, (.slice A1 r.c.rs.length k1), (.slice A2 r.c.ws.length k2), .bool r.c.cm, .int .i64 r.sq, .int .i64 r.d0, .int .i64 r.d1, .int .i64 r.d2, .int .i64 r.d3, .int .i64 r.d4, .int .i64 r.d5, .int .i64 r.d6, .bool r.kp] 37).whole)
        clear hb hr2 hw2)
     | (with_reducible refine wpList_store_fresh rfl 37 _ _ rfl _ rfl 37 _ [.int .i64 r.ir, .int .i64 r.is, .int .i64 r.st, .int .i64 r.pn, .int .i64 r.pr, .int .i64 r.bn, .int .i64 r.br, .int .i64 r.c.k, .int .i64 r.c.tc, .int .i64 r.c.tn, .int .i64 r.c.tt, .int .i64 r.c.tk, .int .i64 r.c.sh, (.slice A1 r.c.rs.length k1), (.slice A2 r.c.ws.length k2), .bool r.c.cm, .int .i64 r.sq, .int .i64 r.d0, .int .i64 r.d1, .int .i64 r.d2, .int .i64 r.d3, .int .i64 r.d4, .int .i64 r.d5, .int .i64 r.d6, .bool r.kp] rfl rfl rfl (by kernel_rfl) rfl ?_))
  obtain ⟨w3, e3⟩ : ∃ w3, w3 = w2.alloc (.cells #[.int .i64 r.ir, .int .i64 r.is, .int .i64 r.st, .int .i64 r.pn, .int .i64 r.pr, .int .i64 r.bn, .int .i64 r.br, .int .i64 r.c.k, .int .i64 r.c.tc, .int .i64 r.c.tn, .int .i64 r.c.tt, .int .i64 r.c.tk, .int .i64 r.c.sh, (.slice A1 r.c.rs.length k1), (.slice A2 r.c.ws.length k2), .bool r.c.cm, .int .i64 r.sq, .int .i64 r.d0, .int .i64 r.d1, .int .i64 r.d2, .int .i64 r.d3, .int .i64 r.d4, .int .i64 r.d5, .int .i64 r.d6, .bool r.kp] 37) := ⟨_, rfl⟩
  rw [← e3] at R W R2 W2 B X1 Y ⊢
  clear e3
  have XE := Lib.hid X1.out
  have ZE := Lib.hid (show w3.drew.rangeAt w.heap.size 0 _ from X1.out.whole)
  refine wp_region_any (by kernel_rfl) ?_
  try (change wpAny _ _ _ _ _ _ _ (World.drew _))
  refine wpAny_take (i := 0) (v := ?va0_1) rfl (by kernel_rfl) (by kernel_rfl) (by kernel_rfl) (fun _ _ _ h => h) (Or.inl ⟨by rfl, ?ha0_1⟩) ?ra0_1
  case ha0_1 => intro w; go_simp; try with_reducible rfl
  go_simp
  refine wpAny_take (i := 1) (v := ?va1_2) rfl (by kernel_rfl) (by kernel_rfl) (by kernel_rfl) (fun _ _ _ h => h) (Or.inl ⟨by rfl, ?ha1_2⟩) ?ra1_2
  case ha1_2 => intro w; go_simp; try with_reducible rfl
  go_simp
  refine wpAny_ready (rs := [2, 3]) (by kernel_rfl) (by simp) ?_
  refine AllReady.cons rfl (fun K hK => ?_) (AllReady.cons rfl (fun K hK => ?_) AllReady.nil)
  · refine step_load_mid (by rfl) 37 _ rfl (w2.heap.size) 0 rfl _ _ (show w3.drew.rangeAt w2.heap.size 0 _ from Y.out) Try.underlying37 rfl (by kernel_rfl) ?_
    go_simp
    refine hK _ _ ?_
    clear hK K
    refine wpAny_ready (rs := [3]) (by kernel_rfl) (by simp) ?_
    refine AllReady.cons rfl (fun K hK => ?_) AllReady.nil
    refine step_load_mid (by rfl) 37 _ rfl w.heap.size 0 rfl _ _ ZE.out Try.underlying37 rfl (by kernel_rfl) ?_
    go_simp
    refine hK _ _ ?_
    clear hK K
    refine wpAny_ready (rs := [4]) (by kernel_rfl) (by simp) ?_
    refine AllReady.cons rfl (fun K hK => ?_) AllReady.nil
    go_simp
    go_wp2_with (fail)
    refine (dsame_rec r r (R2.out.below (Below.refl _ _).drew) (W2.out.below (Below.refl _ _).drew) (R.out.below (Below.refl _ _).drew) (W.out.below (Below.refl _ _).drew) hl hl').mono ?_
    rintro e w4 ⟨rfl, hb⟩
    rw [M.sameRec_refl]
    have BD := (Below.refl w3.heap.size w3).drew.trans hb
    replace R := Lib.hid (R.out.below BD)
    replace W := Lib.hid (W.out.below BD)
    replace B := Lib.hid (below_on B.out BD)
    replace XE := Lib.hid (XE.out.on BD)
    clear hb BD
    go_wp2_with (fail)
    refine wpAny_take (i := 5) (v := ?va5_3) rfl (by kernel_rfl) (by kernel_rfl) (by kernel_rfl) (fun _ _ _ h => h) (Or.inl ⟨by rfl, ?ha5_3⟩) ?ra5_3
    case ha5_3 => intro w; go_simp; try with_reducible rfl
    go_simp
    refine wpAny_take (i := 6) (v := ?va6_4) rfl (by kernel_rfl) (by kernel_rfl) (by kernel_rfl) (fun _ _ _ h => h) (Or.inl ⟨by rfl, ?ha6_4⟩) ?ra6_4
    case ha6_4 => intro w; go_simp; try with_reducible rfl
    go_simp
    refine wpAny_take (i := 7) (v := ?va7_5) rfl (by kernel_rfl) (by kernel_rfl) (by kernel_rfl) (fun _ _ _ h => h) (Or.inl ⟨by rfl, ?ha7_5⟩) ?ra7_5
    case ha7_5 => intro w; go_simp; try with_reducible rfl
    go_simp
    refine wpAny_ready (rs := [8]) (by kernel_rfl) (by simp) ?_
    refine AllReady.cons rfl (fun K hK => ?_) AllReady.nil
    go_simp
    go_wp2_with (fail)
    refine (panics_no r (must_rec r (R.out.push _) (W.out.push _) hl hl')).mono ?_
    rintro e w5 ⟨rfl, hb⟩
    replace R := Lib.hid (R.out.below hb)
    replace W := Lib.hid (W.out.below hb)
    replace B := Lib.hid (below_on B.out hb)
    replace XE := Lib.hid (XE.out.on hb)
    clear hb
    go_wp2_with (fail)
    refine wpAny_take (i := 9) (v := ?va9_6) rfl (by kernel_rfl) (by kernel_rfl) (by kernel_rfl) (fun _ _ _ h => h) (Or.inl ⟨by rfl, ?ha9_6⟩) ?ra9_6
    case ha9_6 => intro w; go_simp; try with_reducible rfl
    go_simp
    refine wpAny_take (i := 10) (v := ?va10_7) rfl (by kernel_rfl) (by kernel_rfl) (by kernel_rfl) (fun _ _ _ h => h) (Or.inl ⟨by rfl, ?ha10_7⟩) ?ra10_7
    case ha10_7 => intro w; go_simp; try with_reducible rfl
    go_simp
    refine wpAny_take (i := 11) (v := ?va11_8) rfl (by kernel_rfl) (by kernel_rfl) (by kernel_rfl) (fun _ _ _ h => h) (Or.inl ⟨by rfl, ?ha11_8⟩) ?ra11_8
    case ha11_8 => intro w; go_simp; try with_reducible rfl
    go_simp
    refine wpAny_take (i := 12) (v := ?va12_9) rfl (by kernel_rfl) (by kernel_rfl) (by kernel_rfl) (fun _ _ _ h => h) (Or.inl ⟨by rfl, ?ha12_9⟩) ?ra12_9
    case ha12_9 => intro w; go_simp; try with_reducible rfl
    go_simp
    refine wpAny_ready (rs := [13, 14]) (by kernel_rfl) (by simp) ?_
    refine AllReady.cons rfl (fun K hK => ?_) (AllReady.cons rfl (fun K hK => ?_) AllReady.nil)
    · go_simp
      go_wp2_with (fail)
      refine (must_rec r R.out W.out hl hl').mono ?_
      rintro e w6 ⟨va3, vb3, rfl, hr3, hw3, hb⟩
      replace R := Lib.hid (R.out.below hb)
      replace W := Lib.hid (W.out.below hb)
      have R3 := Lib.hid hr3
      have W3 := Lib.hid hw3
      replace B := Lib.hid (below_on B.out hb)
      replace XE := Lib.hid (XE.out.on hb)
      clear hb hr3 hw3
      go_wp2_with (fail)
      refine wpAny_ready (rs := [14]) (by kernel_rfl) (by simp) ?_
      refine AllReady.cons rfl (fun K hK => ?_) AllReady.nil
      refine step_load_mid (by rfl) 37 _ rfl w.heap.size 0 rfl _ _ XE.out.whole Try.underlying37 rfl (by kernel_rfl) ?_
      go_simp
      refine hK _ _ ?_
      clear hK K
      refine wpAny_ready (rs := [15]) (by kernel_rfl) (by simp) ?_
      refine AllReady.cons rfl (fun K hK => ?_) AllReady.nil
      go_simp
      go_wp2_with (fail)
      refine (dsame_rec r r R3.out W3.out R.out W.out hl hl').mono ?_
      rintro e w7 ⟨rfl, hb⟩
      rw [M.sameRec_refl]
      replace B := Lib.hid (below_on B.out hb)
      clear hb
      go_wp2_with (fail)
      refine wpAny_take (i := 16) (v := ?va16_10) rfl (by kernel_rfl) (by kernel_rfl) (by kernel_rfl) (fun _ _ _ h => h) (Or.inl ⟨by rfl, ?ha16_10⟩) ?ra16_10
      case ha16_10 => intro w; go_simp; try with_reducible rfl
      go_simp
      refine wpAny_take (i := 17) (v := ?va17_11) rfl (by kernel_rfl) (by kernel_rfl) (by kernel_rfl) (fun _ _ _ h => h) (Or.inl ⟨by rfl, ?ha17_11⟩) ?ra17_11
      case ha17_11 => intro w; go_simp; try with_reducible rfl
      go_simp
      refine wpAny_ready (rs := [18]) (by kernel_rfl) (by simp) ?_
      refine AllReady.cons rfl (fun K hK => ?_) AllReady.nil
      go_simp
      go_wp2_with (fail)
      refine (awake_any _).mono ?_
      rintro e w8 ⟨rfl, hb⟩
      replace B := Lib.hid (below_on B.out hb)
      clear hb
      go_wp2_with (fail)
      refine wpAny_take (i := 19) (v := ?va19_12) rfl (by kernel_rfl) (by kernel_rfl) (by kernel_rfl) (fun _ _ _ h => h) (Or.inl ⟨by rfl, ?ha19_12⟩) ?ra19_12
      case ha19_12 => intro w; go_simp; try with_reducible rfl
      go_simp
      refine wpAny_take (i := 20) (v := ?va20_13) rfl (by kernel_rfl) (by kernel_rfl) (by kernel_rfl) (fun _ _ _ h => h) (Or.inl ⟨by rfl, ?ha20_13⟩) ?ra20_13
      case ha20_13 => intro w; go_simp; try with_reducible rfl
      go_simp
      refine wpAny_done (by kernel_rfl) ?_ _
      go_wp2
      go_ret
      exact ⟨rfl, B.out⟩
    · refine step_load_mid (by rfl) 37 _ rfl w.heap.size 0 rfl _ _ XE.out.whole Try.underlying37 rfl (by kernel_rfl) ?_
      go_simp
      refine hK _ _ ?_
      clear hK K
      refine wpAny_ready (rs := [13]) (by kernel_rfl) (by simp) ?_
      refine AllReady.cons rfl (fun K hK => ?_) AllReady.nil
      go_simp
      go_wp2_with (fail)
      refine (must_rec r R.out W.out hl hl').mono ?_
      rintro e w6 ⟨va3, vb3, rfl, hr3, hw3, hb⟩
      replace R := Lib.hid (R.out.below hb)
      replace W := Lib.hid (W.out.below hb)
      have R3 := Lib.hid hr3
      have W3 := Lib.hid hw3
      replace B := Lib.hid (below_on B.out hb)
      replace XE := Lib.hid (XE.out.on hb)
      clear hb hr3 hw3
      go_wp2_with (fail)
      refine wpAny_ready (rs := [15]) (by kernel_rfl) (by simp) ?_
      refine AllReady.cons rfl (fun K hK => ?_) AllReady.nil
      go_simp
      go_wp2_with (fail)
      refine (dsame_rec r r R3.out W3.out R.out W.out hl hl').mono ?_
      rintro e w7 ⟨rfl, hb⟩
      rw [M.sameRec_refl]
      replace B := Lib.hid (below_on B.out hb)
      clear hb
      go_wp2_with (fail)
      refine wpAny_take (i := 16) (v := ?va16_14) rfl (by kernel_rfl) (by kernel_rfl) (by kernel_rfl) (fun _ _ _ h => h) (Or.inl ⟨by rfl, ?ha16_14⟩) ?ra16_14
      case ha16_14 => intro w; go_simp; try with_reducible rfl
      go_simp
      refine wpAny_take (i := 17) (v := ?va17_15) rfl (by kernel_rfl) (by kernel_rfl) (by kernel_rfl) (fun _ _ _ h => h) (Or.inl ⟨by rfl, ?ha17_15⟩) ?ra17_15
      case ha17_15 => intro w; go_simp; try with_reducible rfl
      go_simp
      refine wpAny_ready (rs := [18]) (by kernel_rfl) (by simp) ?_
      refine AllReady.cons rfl (fun K hK => ?_) AllReady.nil
      go_simp
      go_wp2_with (fail)
      refine (awake_any _).mono ?_
      rintro e w8 ⟨rfl, hb⟩
      replace B := Lib.hid (below_on B.out hb)
      clear hb
      go_wp2_with (fail)
      refine wpAny_take (i := 19) (v := ?va19_16) rfl (by kernel_rfl) (by kernel_rfl) (by kernel_rfl) (fun _ _ _ h => h) (Or.inl ⟨by rfl, ?ha19_16⟩) ?ra19_16
      case ha19_16 => intro w; go_simp; try with_reducible rfl
      go_simp
      refine wpAny_take (i := 20) (v := ?va20_17) rfl (by kernel_rfl) (by kernel_rfl) (by kernel_rfl) (fun _ _ _ h => h) (Or.inl ⟨by rfl, ?ha20_17⟩) ?ra20_17
      case ha20_17 => intro w; go_simp; try with_reducible rfl
      go_simp
      refine wpAny_done (by kernel_rfl) ?_ _
      go_wp2
      go_ret
      exact ⟨rfl, B.out⟩
  · refine step_load_mid (by rfl) 37 _ rfl w.heap.size 0 rfl _ _ ZE.out Try.underlying37 rfl (by kernel_rfl) ?_
    go_simp
    refine hK _ _ ?_
    clear hK K
    refine wpAny_ready (rs := [2]) (by kernel_rfl) (by simp) ?_
    refine AllReady.cons rfl (fun K hK => ?_) AllReady.nil
    refine step_load_mid (by rfl) 37 _ rfl (w2.heap.size) 0 rfl _ _ (show w3.drew.rangeAt w2.heap.size 0 _ from Y.out) Try.underlying37 rfl (by kernel_rfl) ?_
    go_simp
    refine hK _ _ ?_
    clear hK K
    refine wpAny_ready (rs := [4]) (by kernel_rfl) (by simp) ?_
    refine AllReady.cons rfl (fun K hK => ?_) AllReady.nil
    go_simp
    go_wp2_with (fail)
    refine (dsame_rec r r (R2.out.below (Below.refl _ _).drew) (W2.out.below (Below.refl _ _).drew) (R.out.below (Below.refl _ _).drew) (W.out.below (Below.refl _ _).drew) hl hl').mono ?_
    rintro e w4 ⟨rfl, hb⟩
    rw [M.sameRec_refl]
    have BD := (Below.refl w3.heap.size w3).drew.trans hb
    replace R := Lib.hid (R.out.below BD)
    replace W := Lib.hid (W.out.below BD)
    replace B := Lib.hid (below_on B.out BD)
    replace XE := Lib.hid (XE.out.on BD)
    clear hb BD
    go_wp2_with (fail)
    refine wpAny_take (i := 5) (v := ?va5_18) rfl (by kernel_rfl) (by kernel_rfl) (by kernel_rfl) (fun _ _ _ h => h) (Or.inl ⟨by rfl, ?ha5_18⟩) ?ra5_18
    case ha5_18 => intro w; go_simp; try with_reducible rfl
    go_simp
    refine wpAny_take (i := 6) (v := ?va6_19) rfl (by kernel_rfl) (by kernel_rfl) (by kernel_rfl) (fun _ _ _ h => h) (Or.inl ⟨by rfl, ?ha6_19⟩) ?ra6_19
    case ha6_19 => intro w; go_simp; try with_reducible rfl
    go_simp
    refine wpAny_take (i := 7) (v := ?va7_20) rfl (by kernel_rfl) (by kernel_rfl) (by kernel_rfl) (fun _ _ _ h => h) (Or.inl ⟨by rfl, ?ha7_20⟩) ?ra7_20
    case ha7_20 => intro w; go_simp; try with_reducible rfl
    go_simp
    refine wpAny_ready (rs := [8]) (by kernel_rfl) (by simp) ?_
    refine AllReady.cons rfl (fun K hK => ?_) AllReady.nil
    go_simp
    go_wp2_with (fail)
    refine (panics_no r (must_rec r (R.out.push _) (W.out.push _) hl hl')).mono ?_
    rintro e w5 ⟨rfl, hb⟩
    replace R := Lib.hid (R.out.below hb)
    replace W := Lib.hid (W.out.below hb)
    replace B := Lib.hid (below_on B.out hb)
    replace XE := Lib.hid (XE.out.on hb)
    clear hb
    go_wp2_with (fail)
    refine wpAny_take (i := 9) (v := ?va9_21) rfl (by kernel_rfl) (by kernel_rfl) (by kernel_rfl) (fun _ _ _ h => h) (Or.inl ⟨by rfl, ?ha9_21⟩) ?ra9_21
    case ha9_21 => intro w; go_simp; try with_reducible rfl
    go_simp
    refine wpAny_take (i := 10) (v := ?va10_22) rfl (by kernel_rfl) (by kernel_rfl) (by kernel_rfl) (fun _ _ _ h => h) (Or.inl ⟨by rfl, ?ha10_22⟩) ?ra10_22
    case ha10_22 => intro w; go_simp; try with_reducible rfl
    go_simp
    refine wpAny_take (i := 11) (v := ?va11_23) rfl (by kernel_rfl) (by kernel_rfl) (by kernel_rfl) (fun _ _ _ h => h) (Or.inl ⟨by rfl, ?ha11_23⟩) ?ra11_23
    case ha11_23 => intro w; go_simp; try with_reducible rfl
    go_simp
    refine wpAny_take (i := 12) (v := ?va12_24) rfl (by kernel_rfl) (by kernel_rfl) (by kernel_rfl) (fun _ _ _ h => h) (Or.inl ⟨by rfl, ?ha12_24⟩) ?ra12_24
    case ha12_24 => intro w; go_simp; try with_reducible rfl
    go_simp
    refine wpAny_ready (rs := [13, 14]) (by kernel_rfl) (by simp) ?_
    refine AllReady.cons rfl (fun K hK => ?_) (AllReady.cons rfl (fun K hK => ?_) AllReady.nil)
    · go_simp
      go_wp2_with (fail)
      refine (must_rec r R.out W.out hl hl').mono ?_
      rintro e w6 ⟨va3, vb3, rfl, hr3, hw3, hb⟩
      replace R := Lib.hid (R.out.below hb)
      replace W := Lib.hid (W.out.below hb)
      have R3 := Lib.hid hr3
      have W3 := Lib.hid hw3
      replace B := Lib.hid (below_on B.out hb)
      replace XE := Lib.hid (XE.out.on hb)
      clear hb hr3 hw3
      go_wp2_with (fail)
      refine wpAny_ready (rs := [14]) (by kernel_rfl) (by simp) ?_
      refine AllReady.cons rfl (fun K hK => ?_) AllReady.nil
      refine step_load_mid (by rfl) 37 _ rfl w.heap.size 0 rfl _ _ XE.out.whole Try.underlying37 rfl (by kernel_rfl) ?_
      go_simp
      refine hK _ _ ?_
      clear hK K
      refine wpAny_ready (rs := [15]) (by kernel_rfl) (by simp) ?_
      refine AllReady.cons rfl (fun K hK => ?_) AllReady.nil
      go_simp
      go_wp2_with (fail)
      refine (dsame_rec r r R3.out W3.out R.out W.out hl hl').mono ?_
      rintro e w7 ⟨rfl, hb⟩
      rw [M.sameRec_refl]
      replace B := Lib.hid (below_on B.out hb)
      clear hb
      go_wp2_with (fail)
      refine wpAny_take (i := 16) (v := ?va16_25) rfl (by kernel_rfl) (by kernel_rfl) (by kernel_rfl) (fun _ _ _ h => h) (Or.inl ⟨by rfl, ?ha16_25⟩) ?ra16_25
      case ha16_25 => intro w; go_simp; try with_reducible rfl
      go_simp
      refine wpAny_take (i := 17) (v := ?va17_26) rfl (by kernel_rfl) (by kernel_rfl) (by kernel_rfl) (fun _ _ _ h => h) (Or.inl ⟨by rfl, ?ha17_26⟩) ?ra17_26
      case ha17_26 => intro w; go_simp; try with_reducible rfl
      go_simp
      refine wpAny_ready (rs := [18]) (by kernel_rfl) (by simp) ?_
      refine AllReady.cons rfl (fun K hK => ?_) AllReady.nil
      go_simp
      go_wp2_with (fail)
      refine (awake_any _).mono ?_
      rintro e w8 ⟨rfl, hb⟩
      replace B := Lib.hid (below_on B.out hb)
      clear hb
      go_wp2_with (fail)
      refine wpAny_take (i := 19) (v := ?va19_27) rfl (by kernel_rfl) (by kernel_rfl) (by kernel_rfl) (fun _ _ _ h => h) (Or.inl ⟨by rfl, ?ha19_27⟩) ?ra19_27
      case ha19_27 => intro w; go_simp; try with_reducible rfl
      go_simp
      refine wpAny_take (i := 20) (v := ?va20_28) rfl (by kernel_rfl) (by kernel_rfl) (by kernel_rfl) (fun _ _ _ h => h) (Or.inl ⟨by rfl, ?ha20_28⟩) ?ra20_28
      case ha20_28 => intro w; go_simp; try with_reducible rfl
      go_simp
      refine wpAny_done (by kernel_rfl) ?_ _
      go_wp2
      go_ret
      exact ⟨rfl, B.out⟩
    · refine step_load_mid (by rfl) 37 _ rfl w.heap.size 0 rfl _ _ XE.out.whole Try.underlying37 rfl (by kernel_rfl) ?_
      go_simp
      refine hK _ _ ?_
      clear hK K
      refine wpAny_ready (rs := [13]) (by kernel_rfl) (by simp) ?_
      refine AllReady.cons rfl (fun K hK => ?_) AllReady.nil
      go_simp
      go_wp2_with (fail)
      refine (must_rec r R.out W.out hl hl').mono ?_
      rintro e w6 ⟨va3, vb3, rfl, hr3, hw3, hb⟩
      replace R := Lib.hid (R.out.below hb)
      replace W := Lib.hid (W.out.below hb)
      have R3 := Lib.hid hr3
      have W3 := Lib.hid hw3
      replace B := Lib.hid (below_on B.out hb)
      replace XE := Lib.hid (XE.out.on hb)
      clear hb hr3 hw3
      go_wp2_with (fail)
      refine wpAny_ready (rs := [15]) (by kernel_rfl) (by simp) ?_
      refine AllReady.cons rfl (fun K hK => ?_) AllReady.nil
      go_simp
      go_wp2_with (fail)
      refine (dsame_rec r r R3.out W3.out R.out W.out hl hl').mono ?_
      rintro e w7 ⟨rfl, hb⟩
      rw [M.sameRec_refl]
      replace B := Lib.hid (below_on B.out hb)
      clear hb
      go_wp2_with (fail)
      refine wpAny_take (i := 16) (v := ?va16_29) rfl (by kernel_rfl) (by kernel_rfl) (by kernel_rfl) (fun _ _ _ h => h) (Or.inl ⟨by rfl, ?ha16_29⟩) ?ra16_29
      case ha16_29 => intro w; go_simp; try with_reducible rfl
      go_simp
      refine wpAny_take (i := 17) (v := ?va17_30) rfl (by kernel_rfl) (by kernel_rfl) (by kernel_rfl) (fun _ _ _ h => h) (Or.inl ⟨by rfl, ?ha17_30⟩) ?ra17_30
      case ha17_30 => intro w; go_simp; try with_reducible rfl
      go_simp
      refine wpAny_ready (rs := [18]) (by kernel_rfl) (by simp) ?_
      refine AllReady.cons rfl (fun K hK => ?_) AllReady.nil
      go_simp
      go_wp2_with (fail)
      refine (awake_any _).mono ?_
      rintro e w8 ⟨rfl, hb⟩
      replace B := Lib.hid (below_on B.out hb)
      clear hb
      go_wp2_with (fail)
      refine wpAny_take (i := 19) (v := ?va19_31) rfl (by kernel_rfl) (by kernel_rfl) (by kernel_rfl) (fun _ _ _ h => h) (Or.inl ⟨by rfl, ?ha19_31⟩) ?ra19_31
      case ha19_31 => intro w; go_simp; try with_reducible rfl
      go_simp
      refine wpAny_take (i := 20) (v := ?va20_32) rfl (by kernel_rfl) (by kernel_rfl) (by kernel_rfl) (fun _ _ _ h => h) (Or.inl ⟨by rfl, ?ha20_32⟩) ?ra20_32
      case ha20_32 => intro w; go_simp; try with_reducible rfl
      go_simp
      refine wpAny_done (by kernel_rfl) ?_ _
      go_wp2
      go_ret
      exact ⟨rfl, B.out⟩

theorem musts_law (r : M.Rec) {va vb : Value} (i y : Int) (w : World) (h : Rds w va r.c.rs) (h' : Wrs w vb r.c.ws) : Calls Try.prog 8 #[.agg #[.int .i64 r.ir, .int .i64 r.is, .int .i64 r.st, .int .i64 r.pn, .int .i64 r.pr, .int .i64 r.bn, .int .i64 r.br, .int .i64 r.c.k, .int .i64 r.c.tc, .int .i64 r.c.tn, .int .i64 r.c.tt, .int .i64 r.c.tk, .int .i64 r.c.sh, va, vb, .bool r.c.cm, .int .i64 r.sq, .int .i64 r.d0, .int .i64 r.d1, .int .i64 r.d2, .int .i64 r.d3, .int .i64 r.d4, .int .i64 r.d5, .int .i64 r.d6, .bool r.kp], .int .i64 i, .int .u8 y] w fun e w' => e = .returned (.bool true) ∧ Below w.heap.size w w' := by
  by_cases f : M.modB r.c = true
  · by_cases k0 : y.tmod 5 = 0
    · exact musts_int r i y w h h' f k0
    · by_cases k1 : y.tmod 5 = 1
      · exact musts_cmd r i y w h h' f k1
      · by_cases k2 : y.tmod 5 = 2
        · exact musts_msg r i y w h h' f k2
        · by_cases k3 : y.tmod 5 = 3
          · exact musts_rec r i y w h h' f k3
          · exact musts_nil r i y w h h' f k0 k1 k2 k3
  · exact musts_out r i y w h h' (by simpa using f)
end Go.Proofs.Ytagngbdlpdilnaa
