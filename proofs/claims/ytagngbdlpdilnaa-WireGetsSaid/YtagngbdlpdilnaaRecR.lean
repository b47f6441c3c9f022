/- Contracts of fitsStatus and of RightRecord; no conditions but the lengths that they name. -/
import Derived.Test.YtagngbdlpdilnaaRecS
namespace Go.Proofs.Ytagngbdlpdilnaa
open Go.ChangeShapes Go.WideShapes Go.ChangeAt Go.RowKit
attribute [local go_sem ↓] run_same7 run_same_inst run_same_ballot

/-- A load of a whole value behind a guard. -/
theorem wpList_load_mid_g {P : Program} {ops : Array Oper} {rest : List Oper} {op : Oper} {a : Act} {w : World} {Q : Exit → Act → World → Prop} (hw : Region.wanted op (yielded ops a.tmps) = true) (ty : TypeId) (x : Operand) (ho : op.op = .load ty x)
    (b o : Nat) (hx : a.eval x = .pointer (some ⟨b, o, none⟩)) (cs : List Value) (d : TypeDesc) (hc : w.rangeAt b o cs)
    (hu : P.underlying ty = some d) (hd : d.isRow = true) (hi : (P.info? ty).map (·.size) = some cs.length)
    (h : wpList P ops Q rest (a.put op.dst (.agg cs.toArray)) w) : wpList P ops Q (op :: rest) a w :=
  wpList_step fun _ hK => by
    rw [if_pos hw]
    exact wp_load_mid ty x ho b o hx cs d hc hu hd hi (hK _ _ h)

namespace M
def zeroRec (r : Rec) : Rec := ⟨r.ir, r.is, 0, r.pn, r.pr, 0, 0, zero, 0, 0, 0, 0, 0, 0, 0, 0, false⟩
def seqB (r : Rec) : Bool := decide (1 ≤ r.sq) && decide (r.sq ≤ 1099511627776)
def fitsS (r : Rec) : Bool := if r.st = 0 then sameRec r (zeroRec r) else if r.st = 1 then seqB r else if r.st = 2 ∨ r.st = 3 then seqB r && !r.kp else false
def dep (r : Rec) : Nat → Int
  | 0 => r.d0
  | 1 => r.d1
  | 2 => r.d2
  | 3 => r.d3
  | 4 => r.d4
  | 5 => r.d5
  | _ => r.d6
def rightR (r : Rec) : Bool := pairB r.ir r.is 0 6 1 1048576 && (pairB r.pn r.pr 0 1099511627776 0 6 && (pairB r.bn r.br 0 1099511627776 0 6 && (decide (ord r.bn r.br r.pn r.pr ≤ 0) && (rightC r.c && (V7.right (dep r) && fitsS r)))))
end M
theorem deps7_any (r : M.Rec) (w : World) : Calls Try.prog 35 #[.agg #[.int .i64 r.d0, .int .i64 r.d1, .int .i64 r.d2, .int .i64 r.d3, .int .i64 r.d4, .int .i64 r.d5, .int .i64 r.d6]] w fun e w' => e = .returned (.bool (V7.right (M.dep r))) ∧ Below w.heap.size w w' := depsR_any (M.dep r) w

set_option maxHeartbeats 4000000 in
set_option maxRecDepth 100000 in
theorem fits_any {w : World} (r : M.Rec) {va vb : Value} (h : Rds w va r.c.rs) (h' : Wrs w vb r.c.ws) (hl : r.c.rs.length ≤ 1000) (hl' : r.c.ws.length ≤ 1000) :
    Calls Try.prog 36 #[.agg #[.int .i64 r.ir, .int .i64 r.is, .int .i64 r.st, .int .i64 r.pn, .int .i64 r.pr, .int .i64 r.bn, .int .i64 r.br, .int .i64 r.c.k, .int .i64 r.c.tc, .int .i64 r.c.tn, .int .i64 r.c.tt, .int .i64 r.c.tk, .int .i64 r.c.sh, va, vb, .bool r.c.cm, .int .i64 r.sq, .int .i64 r.d0, .int .i64 r.d1, .int .i64 r.d2, .int .i64 r.d3, .int .i64 r.d4, .int .i64 r.d5, .int .i64 r.d6, .bool r.kp]] w fun e w' => e = .returned (.bool (M.fitsS r)) ∧ Below w.heap.size w w' := by
  have X0 := Lib.hid (Cel.new w [.int .i64 r.ir, .int .i64 r.is, .int .i64 r.st, .int .i64 r.pn, .int .i64 r.pr, .int .i64 r.bn, .int .i64 r.br, .int .i64 r.c.k, .int .i64 r.c.tc, .int .i64 r.c.tn, .int .i64 r.c.tt, .int .i64 r.c.tk, .int .i64 r.c.sh, va, vb, .bool r.c.cm, .int .i64 r.sq, .int .i64 r.d0, .int .i64 r.d1, .int .i64 r.d2, .int .i64 r.d3, .int .i64 r.d4, .int .i64 r.d5, .int .i64 r.d6, .bool r.kp] 37)
  have R0 := Lib.hid (h.push (.cells #[.int .i64 r.ir, .int .i64 r.is, .int .i64 r.st, .int .i64 r.pn, .int .i64 r.pr, .int .i64 r.bn, .int .i64 r.br, .int .i64 r.c.k, .int .i64 r.c.tc, .int .i64 r.c.tn, .int .i64 r.c.tt, .int .i64 r.c.tk, .int .i64 r.c.sh, va, vb, .bool r.c.cm, .int .i64 r.sq, .int .i64 r.d0, .int .i64 r.d1, .int .i64 r.d2, .int .i64 r.d3, .int .i64 r.d4, .int .i64 r.d5, .int .i64 r.d6, .bool r.kp] 37))
  have W0 := Lib.hid (h'.push (.cells #[.int .i64 r.ir, .int .i64 r.is, .int .i64 r.st, .int .i64 r.pn, .int .i64 r.pr, .int .i64 r.bn, .int .i64 r.br, .int .i64 r.c.k, .int .i64 r.c.tc, .int .i64 r.c.tn, .int .i64 r.c.tt, .int .i64 r.c.tk, .int .i64 r.c.sh, va, vb, .bool r.c.cm, .int .i64 r.sq, .int .i64 r.d0, .int .i64 r.d1, .int .i64 r.d2, .int .i64 r.d3, .int .i64 r.d4, .int .i64 r.d5, .int .i64 r.d6, .bool r.kp] 37))
  have B0 := Lib.hid (below_new (o := .cells #[.int .i64 r.ir, .int .i64 r.is, .int .i64 r.st, .int .i64 r.pn, .int .i64 r.pr, .int .i64 r.bn, .int .i64 r.br, .int .i64 r.c.k, .int .i64 r.c.tc, .int .i64 r.c.tn, .int .i64 r.c.tt, .int .i64 r.c.tk, .int .i64 r.c.sh, va, vb, .bool r.c.cm, .int .i64 r.sq, .int .i64 r.d0, .int .i64 r.d1, .int .i64 r.d2, .int .i64 r.d3, .int .i64 r.d4, .int .i64 r.d5, .int .i64 r.d6, .bool r.kp] 37) (Below.refl w.heap.size w))
  clear h h'
  by_cases e0 : 1 ≤ r.sq
  · skip
    by_cases e1 : r.sq ≤ 1099511627776
    · skip
      by_cases e2 : r.st = 0
      · obtain ⟨q2a, q2b⟩ := eqI e2
        have HE := Lib.hid (show M.fitsS r = M.sameRec r (M.zeroRec r) by unfold M.fitsS M.seqB; simp [*])
        clear e2
        go_enter Try.func36, Try.ntmps36
        go_wp2_with (with_reducible refine wpList_load_mid rfl 37 _ rfl w.heap.size 0 rfl _ _ X0.out.whole Try.underlying37 rfl (by kernel_rfl) ?_)
        refine (same_rec r (M.zeroRec r) R0.out W0.out (Rds.nil _) (Wrs.nil _) hl hl').mono ?_
        rintro e w1 ⟨rfl, hb⟩
        have B1 := Lib.hid (below_on B0.out hb)
        have X1 := Lib.hid (X0.out.on hb)
        have R1 := Lib.hid (R0.out.below hb)
        have W1 := Lib.hid (W0.out.below hb)
        clear hb
        go_wp2
        go_ret
        exact ⟨ret_bool HE.out.symm, B1.out⟩
      · obtain ⟨q2a, q2b⟩ := neI e2
        by_cases e3 : r.st = 1
        · obtain ⟨q3a, q3b⟩ := eqI e3
          have HE := Lib.hid (show M.fitsS r = true by unfold M.fitsS M.seqB; simp [*])
          clear e2 e3
          go_enter Try.func36, Try.ntmps36
          go_wp2
          go_ret
          exact ⟨ret_bool HE.out.symm, B0.out⟩
        · obtain ⟨q3a, q3b⟩ := neI e3
          by_cases e4 : r.st = 2
          · obtain ⟨q4a, q4b⟩ := eqI e4
            have HE := Lib.hid (show M.fitsS r = (!r.kp) by unfold M.fitsS M.seqB; simp [*])
            clear e2 e3 e4
            go_enter Try.func36, Try.ntmps36
            go_wp2
            go_ret
            exact ⟨ret_bool HE.out.symm, B0.out⟩
          · obtain ⟨q4a, q4b⟩ := neI e4
            by_cases e5 : r.st = 3
            · obtain ⟨q5a, q5b⟩ := eqI e5
              have HE := Lib.hid (show M.fitsS r = (!r.kp) by unfold M.fitsS M.seqB; simp [*])
              clear e2 e3 e4 e5
              go_enter Try.func36, Try.ntmps36
              go_wp2
              go_ret
              exact ⟨ret_bool HE.out.symm, B0.out⟩
            · obtain ⟨q5a, q5b⟩ := neI e5
              have HE := Lib.hid (show M.fitsS r = false by unfold M.fitsS M.seqB; simp [*])
              clear e2 e3 e4 e5
              go_enter Try.func36, Try.ntmps36
              go_wp2
              go_ret
              exact ⟨ret_bool HE.out.symm, B0.out⟩
    · skip
      by_cases e2 : r.st = 0
      · obtain ⟨q2a, q2b⟩ := eqI e2
        have HE := Lib.hid (show M.fitsS r = M.sameRec r (M.zeroRec r) by unfold M.fitsS M.seqB; simp [*])
        clear e2
        go_enter Try.func36, Try.ntmps36
        go_wp2_with (with_reducible refine wpList_load_mid rfl 37 _ rfl w.heap.size 0 rfl _ _ X0.out.whole Try.underlying37 rfl (by kernel_rfl) ?_)
        refine (same_rec r (M.zeroRec r) R0.out W0.out (Rds.nil _) (Wrs.nil _) hl hl').mono ?_
        rintro e w1 ⟨rfl, hb⟩
        have B1 := Lib.hid (below_on B0.out hb)
        have X1 := Lib.hid (X0.out.on hb)
        have R1 := Lib.hid (R0.out.below hb)
        have W1 := Lib.hid (W0.out.below hb)
        clear hb
        go_wp2
        go_ret
        exact ⟨ret_bool HE.out.symm, B1.out⟩
      · obtain ⟨q2a, q2b⟩ := neI e2
        by_cases e3 : r.st = 1
        · obtain ⟨q3a, q3b⟩ := eqI e3
          have HE := Lib.hid (show M.fitsS r = false by unfold M.fitsS M.seqB; simp [*])
          clear e2 e3
          go_enter Try.func36, Try.ntmps36
          go_wp2
          go_ret
          exact ⟨ret_bool HE.out.symm, B0.out⟩
        · obtain ⟨q3a, q3b⟩ := neI e3
          by_cases e4 : r.st = 2
          · obtain ⟨q4a, q4b⟩ := eqI e4
            have HE := Lib.hid (show M.fitsS r = false by unfold M.fitsS M.seqB; simp [*])
            clear e2 e3 e4
            go_enter Try.func36, Try.ntmps36
            go_wp2
            go_ret
            exact ⟨ret_bool HE.out.symm, B0.out⟩
          · obtain ⟨q4a, q4b⟩ := neI e4
            by_cases e5 : r.st = 3
            · obtain ⟨q5a, q5b⟩ := eqI e5
              have HE := Lib.hid (show M.fitsS r = false by unfold M.fitsS M.seqB; simp [*])
              clear e2 e3 e4 e5
              go_enter Try.func36, Try.ntmps36
              go_wp2
              go_ret
              exact ⟨ret_bool HE.out.symm, B0.out⟩
            · obtain ⟨q5a, q5b⟩ := neI e5
              have HE := Lib.hid (show M.fitsS r = false by unfold M.fitsS M.seqB; simp [*])
              clear e2 e3 e4 e5
              go_enter Try.func36, Try.ntmps36
              go_wp2
              go_ret
              exact ⟨ret_bool HE.out.symm, B0.out⟩
  · skip
    by_cases e1 : r.st = 0
    · obtain ⟨q1a, q1b⟩ := eqI e1
      have HE := Lib.hid (show M.fitsS r = M.sameRec r (M.zeroRec r) by unfold M.fitsS M.seqB; simp [*])
      clear e1
      go_enter Try.func36, Try.ntmps36
      go_wp2_with (with_reducible refine wpList_load_mid rfl 37 _ rfl w.heap.size 0 rfl _ _ X0.out.whole Try.underlying37 rfl (by kernel_rfl) ?_)
      refine (same_rec r (M.zeroRec r) R0.out W0.out (Rds.nil _) (Wrs.nil _) hl hl').mono ?_
      rintro e w1 ⟨rfl, hb⟩
      have B1 := Lib.hid (below_on B0.out hb)
      have X1 := Lib.hid (X0.out.on hb)
      have R1 := Lib.hid (R0.out.below hb)
      have W1 := Lib.hid (W0.out.below hb)
      clear hb
      go_wp2
      go_ret
      exact ⟨ret_bool HE.out.symm, B1.out⟩
    · obtain ⟨q1a, q1b⟩ := neI e1
      by_cases e2 : r.st = 1
      · obtain ⟨q2a, q2b⟩ := eqI e2
        have HE := Lib.hid (show M.fitsS r = false by unfold M.fitsS M.seqB; simp [*])
        clear e1 e2
        go_enter Try.func36, Try.ntmps36
        go_wp2
        go_ret
        exact ⟨ret_bool HE.out.symm, B0.out⟩
      · obtain ⟨q2a, q2b⟩ := neI e2
        by_cases e3 : r.st = 2
        · obtain ⟨q3a, q3b⟩ := eqI e3
          have HE := Lib.hid (show M.fitsS r = false by unfold M.fitsS M.seqB; simp [*])
          clear e1 e2 e3
          go_enter Try.func36, Try.ntmps36
          go_wp2
          go_ret
          exact ⟨ret_bool HE.out.symm, B0.out⟩
        · obtain ⟨q3a, q3b⟩ := neI e3
          by_cases e4 : r.st = 3
          · obtain ⟨q4a, q4b⟩ := eqI e4
            have HE := Lib.hid (show M.fitsS r = false by unfold M.fitsS M.seqB; simp [*])
            clear e1 e2 e3 e4
            go_enter Try.func36, Try.ntmps36
            go_wp2
            go_ret
            exact ⟨ret_bool HE.out.symm, B0.out⟩
          · obtain ⟨q4a, q4b⟩ := neI e4
            have HE := Lib.hid (show M.fitsS r = false by unfold M.fitsS M.seqB; simp [*])
            clear e1 e2 e3 e4
            go_enter Try.func36, Try.ntmps36
            go_wp2
            go_ret
            exact ⟨ret_bool HE.out.symm, B0.out⟩

set_option maxHeartbeats 4000000 in
set_option maxRecDepth 100000 in
theorem right_rec {w : World} (r : M.Rec) {va vb : Value} (h : Rds w va r.c.rs) (h' : Wrs w vb r.c.ws) (hl : r.c.rs.length ≤ 1000) (hl' : r.c.ws.length ≤ 1000) :
    Calls Try.prog 12 #[.agg #[.int .i64 r.ir, .int .i64 r.is, .int .i64 r.st, .int .i64 r.pn, .int .i64 r.pr, .int .i64 r.bn, .int .i64 r.br, .int .i64 r.c.k, .int .i64 r.c.tc, .int .i64 r.c.tn, .int .i64 r.c.tt, .int .i64 r.c.tk, .int .i64 r.c.sh, va, vb, .bool r.c.cm, .int .i64 r.sq, .int .i64 r.d0, .int .i64 r.d1, .int .i64 r.d2, .int .i64 r.d3, .int .i64 r.d4, .int .i64 r.d5, .int .i64 r.d6, .bool r.kp]] w fun e w' => e = .returned (.bool (M.rightR r)) ∧ Below w.heap.size w w' := by
  have X0 := Lib.hid (Cel.new w [.int .i64 r.ir, .int .i64 r.is, .int .i64 r.st, .int .i64 r.pn, .int .i64 r.pr, .int .i64 r.bn, .int .i64 r.br, .int .i64 r.c.k, .int .i64 r.c.tc, .int .i64 r.c.tn, .int .i64 r.c.tt, .int .i64 r.c.tk, .int .i64 r.c.sh, va, vb, .bool r.c.cm, .int .i64 r.sq, .int .i64 r.d0, .int .i64 r.d1, .int .i64 r.d2, .int .i64 r.d3, .int .i64 r.d4, .int .i64 r.d5, .int .i64 r.d6, .bool r.kp] 37)
  have R0 := Lib.hid (h.push (.cells #[.int .i64 r.ir, .int .i64 r.is, .int .i64 r.st, .int .i64 r.pn, .int .i64 r.pr, .int .i64 r.bn, .int .i64 r.br, .int .i64 r.c.k, .int .i64 r.c.tc, .int .i64 r.c.tn, .int .i64 r.c.tt, .int .i64 r.c.tk, .int .i64 r.c.sh, va, vb, .bool r.c.cm, .int .i64 r.sq, .int .i64 r.d0, .int .i64 r.d1, .int .i64 r.d2, .int .i64 r.d3, .int .i64 r.d4, .int .i64 r.d5, .int .i64 r.d6, .bool r.kp] 37))
  have W0 := Lib.hid (h'.push (.cells #[.int .i64 r.ir, .int .i64 r.is, .int .i64 r.st, .int .i64 r.pn, .int .i64 r.pr, .int .i64 r.bn, .int .i64 r.br, .int .i64 r.c.k, .int .i64 r.c.tc, .int .i64 r.c.tn, .int .i64 r.c.tt, .int .i64 r.c.tk, .int .i64 r.c.sh, va, vb, .bool r.c.cm, .int .i64 r.sq, .int .i64 r.d0, .int .i64 r.d1, .int .i64 r.d2, .int .i64 r.d3, .int .i64 r.d4, .int .i64 r.d5, .int .i64 r.d6, .bool r.kp] 37))
  have B0 := Lib.hid (below_new (o := .cells #[.int .i64 r.ir, .int .i64 r.is, .int .i64 r.st, .int .i64 r.pn, .int .i64 r.pr, .int .i64 r.bn, .int .i64 r.br, .int .i64 r.c.k, .int .i64 r.c.tc, .int .i64 r.c.tn, .int .i64 r.c.tt, .int .i64 r.c.tk, .int .i64 r.c.sh, va, vb, .bool r.c.cm, .int .i64 r.sq, .int .i64 r.d0, .int .i64 r.d1, .int .i64 r.d2, .int .i64 r.d3, .int .i64 r.d4, .int .i64 r.d5, .int .i64 r.d6, .bool r.kp] 37) (Below.refl w.heap.size w))
  clear h h'
  rcases two (M.pairB r.ir r.is 0 6 1 1048576) with e0 | e0
  · skip
    rcases two (M.pairB r.pn r.pr 0 1099511627776 0 6) with e1 | e1
    · skip
      rcases two (M.pairB r.bn r.br 0 1099511627776 0 6) with e2 | e2
      · skip
        rcases two (decide (M.ord r.bn r.br r.pn r.pr ≤ 0)) with e3 | e3
        · skip
          rcases two (M.rightC r.c) with e4 | e4
          · skip
            rcases two (V7.right (M.dep r)) with e5 | e5
            · skip
              have HE := Lib.hid (show M.rightR r = M.fitsS r by simp [M.rightR, e0, e1, e2, e3, e4, e5])
              go_enter Try.func12, Try.ntmps12
              go_wp2_with (fail)
              refine (rightInst_any _ _ _).mono ?_
              rintro e w1 ⟨rfl, hb⟩
              have B1 := Lib.hid (below_on B0.out hb)
              have X1 := Lib.hid (X0.out.on hb)
              have R1 := Lib.hid (R0.out.below hb)
              have W1 := Lib.hid (W0.out.below hb)
              clear hb
              have fX3 := X1.out.get 3 _ rfl
              have fX4 := X1.out.get 4 _ rfl
              go_wp2_with (fail)
              refine (rightBallot_any _ _ _).mono ?_
              rintro e w2 ⟨rfl, hb⟩
              have B2 := Lib.hid (below_on B1.out hb)
              have X2 := Lib.hid (X1.out.on hb)
              have R2 := Lib.hid (R1.out.below hb)
              have W2 := Lib.hid (W1.out.below hb)
              clear hb fX3 fX4
              have fX5 := X2.out.get 5 _ rfl
              have fX6 := X2.out.get 6 _ rfl
              go_wp2_with (fail)
              refine (rightBallot_any _ _ _).mono ?_
              rintro e w3 ⟨rfl, hb⟩
              have B3 := Lib.hid (below_on B2.out hb)
              have X3 := Lib.hid (X2.out.on hb)
              have R3 := Lib.hid (R2.out.below hb)
              have W3 := Lib.hid (W2.out.below hb)
              clear hb fX5 fX6
              have fX3 := X3.out.get 3 _ rfl
              have fX4 := X3.out.get 4 _ rfl
              have fX5 := X3.out.get 5 _ rfl
              have fX6 := X3.out.get 6 _ rfl
              go_wp2_with (fail)
              refine (compareBallots_any _ _ _ _ _).mono ?_
              rintro e w4 ⟨rfl, hb⟩
              have B4 := Lib.hid (below_on B3.out hb)
              have X4 := Lib.hid (X3.out.on hb)
              have R4 := Lib.hid (R3.out.below hb)
              have W4 := Lib.hid (W3.out.below hb)
              clear hb fX3 fX4 fX5 fX6
              have fX7 := X4.out.get 7 _ rfl
              have fX8 := X4.out.get 8 _ rfl
              have fX9 := X4.out.get 9 _ rfl
              have fX10 := X4.out.get 10 _ rfl
              have fX11 := X4.out.get 11 _ rfl
              have fX12 := X4.out.get 12 _ rfl
              have fX13 := X4.out.get 13 _ rfl
              have fX14 := X4.out.get 14 _ rfl
              have fX15 := X4.out.get 15 _ rfl
              go_wp2_with (fail)
              refine (right_cmd r.c R4.out W4.out hl hl').mono ?_
              rintro e w5 ⟨rfl, hb⟩
              have B5 := Lib.hid (below_on B4.out hb)
              have X5 := Lib.hid (X4.out.on hb)
              have R5 := Lib.hid (R4.out.below hb)
              have W5 := Lib.hid (W4.out.below hb)
              clear hb fX7 fX8 fX9 fX10 fX11 fX12 fX13 fX14 fX15
              have fX17 := X5.out.get 17 _ rfl
              have fX18 := X5.out.get 18 _ rfl
              have fX19 := X5.out.get 19 _ rfl
              have fX20 := X5.out.get 20 _ rfl
              have fX21 := X5.out.get 21 _ rfl
              have fX22 := X5.out.get 22 _ rfl
              have fX23 := X5.out.get 23 _ rfl
              go_wp2_with (fail)
              refine (deps7_any r _).mono ?_
              rintro e w6 ⟨rfl, hb⟩
              have B6 := Lib.hid (below_on B5.out hb)
              have X6 := Lib.hid (X5.out.on hb)
              have R6 := Lib.hid (R5.out.below hb)
              have W6 := Lib.hid (W5.out.below hb)
              clear hb fX17 fX18 fX19 fX20 fX21 fX22 fX23
              go_wp2_with ((with_reducible refine wpList_load_mid_g ?_ 37 _ rfl w.heap.size 0 rfl _ _ X6.out.whole Try.underlying37 rfl (by kernel_rfl) ?_); rfl)
              refine (fits_any r R6.out W6.out hl hl').mono ?_
              rintro e w7 ⟨rfl, hb⟩
              have B7 := Lib.hid (below_on B6.out hb)
              have X7 := Lib.hid (X6.out.on hb)
              have R7 := Lib.hid (R6.out.below hb)
              have W7 := Lib.hid (W6.out.below hb)
              clear hb
              go_wp2
              go_ret
              exact ⟨ret_bool HE.out.symm, B7.out⟩
            · skip
              have HE := Lib.hid (show M.rightR r = false by simp [M.rightR, e0, e1, e2, e3, e4, e5])
              go_enter Try.func12, Try.ntmps12
              go_wp2_with (fail)
              refine (rightInst_any _ _ _).mono ?_
              rintro e w1 ⟨rfl, hb⟩
              have B1 := Lib.hid (below_on B0.out hb)
              have X1 := Lib.hid (X0.out.on hb)
              have R1 := Lib.hid (R0.out.below hb)
              have W1 := Lib.hid (W0.out.below hb)
              clear hb
              have fX3 := X1.out.get 3 _ rfl
              have fX4 := X1.out.get 4 _ rfl
              go_wp2_with (fail)
              refine (rightBallot_any _ _ _).mono ?_
              rintro e w2 ⟨rfl, hb⟩
              have B2 := Lib.hid (below_on B1.out hb)
              have X2 := Lib.hid (X1.out.on hb)
              have R2 := Lib.hid (R1.out.below hb)
              have W2 := Lib.hid (W1.out.below hb)
              clear hb fX3 fX4
              have fX5 := X2.out.get 5 _ rfl
              have fX6 := X2.out.get 6 _ rfl
              go_wp2_with (fail)
              refine (rightBallot_any _ _ _).mono ?_
              rintro e w3 ⟨rfl, hb⟩
              have B3 := Lib.hid (below_on B2.out hb)
              have X3 := Lib.hid (X2.out.on hb)
              have R3 := Lib.hid (R2.out.below hb)
              have W3 := Lib.hid (W2.out.below hb)
              clear hb fX5 fX6
              have fX3 := X3.out.get 3 _ rfl
              have fX4 := X3.out.get 4 _ rfl
              have fX5 := X3.out.get 5 _ rfl
              have fX6 := X3.out.get 6 _ rfl
              go_wp2_with (fail)
              refine (compareBallots_any _ _ _ _ _).mono ?_
              rintro e w4 ⟨rfl, hb⟩
              have B4 := Lib.hid (below_on B3.out hb)
              have X4 := Lib.hid (X3.out.on hb)
              have R4 := Lib.hid (R3.out.below hb)
              have W4 := Lib.hid (W3.out.below hb)
              clear hb fX3 fX4 fX5 fX6
              have fX7 := X4.out.get 7 _ rfl
              have fX8 := X4.out.get 8 _ rfl
              have fX9 := X4.out.get 9 _ rfl
              have fX10 := X4.out.get 10 _ rfl
              have fX11 := X4.out.get 11 _ rfl
              have fX12 := X4.out.get 12 _ rfl
              have fX13 := X4.out.get 13 _ rfl
              have fX14 := X4.out.get 14 _ rfl
              have fX15 := X4.out.get 15 _ rfl
              go_wp2_with (fail)
              refine (right_cmd r.c R4.out W4.out hl hl').mono ?_
              rintro e w5 ⟨rfl, hb⟩
              have B5 := Lib.hid (below_on B4.out hb)
              have X5 := Lib.hid (X4.out.on hb)
              have R5 := Lib.hid (R4.out.below hb)
              have W5 := Lib.hid (W4.out.below hb)
              clear hb fX7 fX8 fX9 fX10 fX11 fX12 fX13 fX14 fX15
              have fX17 := X5.out.get 17 _ rfl
              have fX18 := X5.out.get 18 _ rfl
              have fX19 := X5.out.get 19 _ rfl
              have fX20 := X5.out.get 20 _ rfl
              have fX21 := X5.out.get 21 _ rfl
              have fX22 := X5.out.get 22 _ rfl
              have fX23 := X5.out.get 23 _ rfl
              go_wp2_with (fail)
              refine (deps7_any r _).mono ?_
              rintro e w6 ⟨rfl, hb⟩
              have B6 := Lib.hid (below_on B5.out hb)
              have X6 := Lib.hid (X5.out.on hb)
              have R6 := Lib.hid (R5.out.below hb)
              have W6 := Lib.hid (W5.out.below hb)
              clear hb fX17 fX18 fX19 fX20 fX21 fX22 fX23
              go_wp2
              go_ret
              exact ⟨ret_bool HE.out.symm, B6.out⟩
          · skip
            have HE := Lib.hid (show M.rightR r = false by simp [M.rightR, e0, e1, e2, e3, e4])
            go_enter Try.func12, Try.ntmps12
            go_wp2_with (fail)
            refine (rightInst_any _ _ _).mono ?_
            rintro e w1 ⟨rfl, hb⟩
            have B1 := Lib.hid (below_on B0.out hb)
            have X1 := Lib.hid (X0.out.on hb)
            have R1 := Lib.hid (R0.out.below hb)
            have W1 := Lib.hid (W0.out.below hb)
            clear hb
            have fX3 := X1.out.get 3 _ rfl
            have fX4 := X1.out.get 4 _ rfl
            go_wp2_with (fail)
            refine (rightBallot_any _ _ _).mono ?_
            rintro e w2 ⟨rfl, hb⟩
            have B2 := Lib.hid (below_on B1.out hb)
            have X2 := Lib.hid (X1.out.on hb)
            have R2 := Lib.hid (R1.out.below hb)
            have W2 := Lib.hid (W1.out.below hb)
            clear hb fX3 fX4
            have fX5 := X2.out.get 5 _ rfl
            have fX6 := X2.out.get 6 _ rfl
            go_wp2_with (fail)
            refine (rightBallot_any _ _ _).mono ?_
            rintro e w3 ⟨rfl, hb⟩
            have B3 := Lib.hid (below_on B2.out hb)
            have X3 := Lib.hid (X2.out.on hb)
            have R3 := Lib.hid (R2.out.below hb)
            have W3 := Lib.hid (W2.out.below hb)
            clear hb fX5 fX6
            have fX3 := X3.out.get 3 _ rfl
            have fX4 := X3.out.get 4 _ rfl
            have fX5 := X3.out.get 5 _ rfl
            have fX6 := X3.out.get 6 _ rfl
            go_wp2_with (fail)
            refine (compareBallots_any _ _ _ _ _).mono ?_
            rintro e w4 ⟨rfl, hb⟩
            have B4 := Lib.hid (below_on B3.out hb)
            have X4 := Lib.hid (X3.out.on hb)
            have R4 := Lib.hid (R3.out.below hb)
            have W4 := Lib.hid (W3.out.below hb)
            clear hb fX3 fX4 fX5 fX6
            have fX7 := X4.out.get 7 _ rfl
            have fX8 := X4.out.get 8 _ rfl
            have fX9 := X4.out.get 9 _ rfl
            have fX10 := X4.out.get 10 _ rfl
            have fX11 := X4.out.get 11 _ rfl
            have fX12 := X4.out.get 12 _ rfl
            have fX13 := X4.out.get 13 _ rfl
            have fX14 := X4.out.get 14 _ rfl
            have fX15 := X4.out.get 15 _ rfl
            go_wp2_with (fail)
            refine (right_cmd r.c R4.out W4.out hl hl').mono ?_
            rintro e w5 ⟨rfl, hb⟩
            have B5 := Lib.hid (below_on B4.out hb)
            have X5 := Lib.hid (X4.out.on hb)
            have R5 := Lib.hid (R4.out.below hb)
            have W5 := Lib.hid (W4.out.below hb)
            clear hb fX7 fX8 fX9 fX10 fX11 fX12 fX13 fX14 fX15
            go_wp2
            go_ret
            exact ⟨ret_bool HE.out.symm, B5.out⟩
        · skip
          have HE := Lib.hid (show M.rightR r = false by simp [M.rightR, e0, e1, e2, e3])
          go_enter Try.func12, Try.ntmps12
          go_wp2_with (fail)
          refine (rightInst_any _ _ _).mono ?_
          rintro e w1 ⟨rfl, hb⟩
          have B1 := Lib.hid (below_on B0.out hb)
          have X1 := Lib.hid (X0.out.on hb)
          have R1 := Lib.hid (R0.out.below hb)
          have W1 := Lib.hid (W0.out.below hb)
          clear hb
          have fX3 := X1.out.get 3 _ rfl
          have fX4 := X1.out.get 4 _ rfl
          go_wp2_with (fail)
          refine (rightBallot_any _ _ _).mono ?_
          rintro e w2 ⟨rfl, hb⟩
          have B2 := Lib.hid (below_on B1.out hb)
          have X2 := Lib.hid (X1.out.on hb)
          have R2 := Lib.hid (R1.out.below hb)
          have W2 := Lib.hid (W1.out.below hb)
          clear hb fX3 fX4
          have fX5 := X2.out.get 5 _ rfl
          have fX6 := X2.out.get 6 _ rfl
          go_wp2_with (fail)
          refine (rightBallot_any _ _ _).mono ?_
          rintro e w3 ⟨rfl, hb⟩
          have B3 := Lib.hid (below_on B2.out hb)
          have X3 := Lib.hid (X2.out.on hb)
          have R3 := Lib.hid (R2.out.below hb)
          have W3 := Lib.hid (W2.out.below hb)
          clear hb fX5 fX6
          have fX3 := X3.out.get 3 _ rfl
          have fX4 := X3.out.get 4 _ rfl
          have fX5 := X3.out.get 5 _ rfl
          have fX6 := X3.out.get 6 _ rfl
          go_wp2_with (fail)
          refine (compareBallots_any _ _ _ _ _).mono ?_
          rintro e w4 ⟨rfl, hb⟩
          have B4 := Lib.hid (below_on B3.out hb)
          have X4 := Lib.hid (X3.out.on hb)
          have R4 := Lib.hid (R3.out.below hb)
          have W4 := Lib.hid (W3.out.below hb)
          clear hb fX3 fX4 fX5 fX6
          go_wp2
          go_ret
          exact ⟨ret_bool HE.out.symm, B4.out⟩
      · skip
        have HE := Lib.hid (show M.rightR r = false by simp [M.rightR, e0, e1, e2])
        go_enter Try.func12, Try.ntmps12
        go_wp2_with (fail)
        refine (rightInst_any _ _ _).mono ?_
        rintro e w1 ⟨rfl, hb⟩
        have B1 := Lib.hid (below_on B0.out hb)
        have X1 := Lib.hid (X0.out.on hb)
        have R1 := Lib.hid (R0.out.below hb)
        have W1 := Lib.hid (W0.out.below hb)
        clear hb
        have fX3 := X1.out.get 3 _ rfl
        have fX4 := X1.out.get 4 _ rfl
        go_wp2_with (fail)
        refine (rightBallot_any _ _ _).mono ?_
        rintro e w2 ⟨rfl, hb⟩
        have B2 := Lib.hid (below_on B1.out hb)
        have X2 := Lib.hid (X1.out.on hb)
        have R2 := Lib.hid (R1.out.below hb)
        have W2 := Lib.hid (W1.out.below hb)
        clear hb fX3 fX4
        have fX5 := X2.out.get 5 _ rfl
        have fX6 := X2.out.get 6 _ rfl
        go_wp2_with (fail)
        refine (rightBallot_any _ _ _).mono ?_
        rintro e w3 ⟨rfl, hb⟩
        have B3 := Lib.hid (below_on B2.out hb)
        have X3 := Lib.hid (X2.out.on hb)
        have R3 := Lib.hid (R2.out.below hb)
        have W3 := Lib.hid (W2.out.below hb)
        clear hb fX5 fX6
        go_wp2
        go_ret
        exact ⟨ret_bool HE.out.symm, B3.out⟩
    · skip
      have HE := Lib.hid (show M.rightR r = false by simp [M.rightR, e0, e1])
      go_enter Try.func12, Try.ntmps12
      go_wp2_with (fail)
      refine (rightInst_any _ _ _).mono ?_
      rintro e w1 ⟨rfl, hb⟩
      have B1 := Lib.hid (below_on B0.out hb)
      have X1 := Lib.hid (X0.out.on hb)
      have R1 := Lib.hid (R0.out.below hb)
      have W1 := Lib.hid (W0.out.below hb)
      clear hb
      have fX3 := X1.out.get 3 _ rfl
      have fX4 := X1.out.get 4 _ rfl
      go_wp2_with (fail)
      refine (rightBallot_any _ _ _).mono ?_
      rintro e w2 ⟨rfl, hb⟩
      have B2 := Lib.hid (below_on B1.out hb)
      have X2 := Lib.hid (X1.out.on hb)
      have R2 := Lib.hid (R1.out.below hb)
      have W2 := Lib.hid (W1.out.below hb)
      clear hb fX3 fX4
      go_wp2
      go_ret
      exact ⟨ret_bool HE.out.symm, B2.out⟩
  · skip
    have HE := Lib.hid (show M.rightR r = false by simp [M.rightR, e0])
    go_enter Try.func12, Try.ntmps12
    go_wp2_with (fail)
    refine (rightInst_any _ _ _).mono ?_
    rintro e w1 ⟨rfl, hb⟩
    have B1 := Lib.hid (below_on B0.out hb)
    have X1 := Lib.hid (X0.out.on hb)
    have R1 := Lib.hid (R0.out.below hb)
    have W1 := Lib.hid (W0.out.below hb)
    clear hb
    go_wp2
    go_ret
    exact ⟨ret_bool HE.out.symm, B1.out⟩

end Go.Proofs.Ytagngbdlpdilnaa
