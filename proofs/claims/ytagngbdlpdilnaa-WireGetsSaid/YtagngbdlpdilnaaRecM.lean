/- Contracts of RightMessage and of the document's, and of its SameMessage; no conditions but those that they name. -/
import Derived.Test.YtagngbdlpdilnaaRecD
namespace Go.Proofs.Ytagngbdlpdilnaa
open Go.ChangeShapes Go.WideShapes Go.ChangeAt Go.RowKit
attribute [local go_sem ↓] run_same7 run_same_inst run_same_ballot

namespace M
def rightM (m : Msg) : Bool := decide (1 ≤ m.k) && (decide (m.k ≤ 8) && (within m.fr 0 6 && (within m.to 0 6 && (pairB m.bn m.br 0 1099511627776 0 6 && rightR m.r))))
def drightM (m : Msg) : Bool := decide (1 ≤ m.k) && (decide (m.k ≤ 8) && (decide (0 ≤ m.fr) && (decide (m.fr ≤ 6) && (decide (0 ≤ m.to) && (decide (m.to ≤ 6) && (pairB m.bn m.br 0 1099511627776 0 6 && drightR m.r))))))
theorem zero7_iff {r : Rec} : zero7 r = true ↔ r.d0 = 0 ∧ r.d1 = 0 ∧ r.d2 = 0 ∧ r.d3 = 0 ∧ r.d4 = 0 ∧ r.d5 = 0 ∧ r.d6 = 0 := by simp [zero7, V7.same7]
theorem eq2_iff {a b c d : Int} : eq2 a b c d = true ↔ a = c ∧ b = d := by simp [eq2]
theorem eq2_self (a b : Int) : eq2 a b a b = true := by simp [eq2]
theorem sameC_kind {a b : Cmd} (h : sameC a b = true) : a.k = b.k := by
  simp [sameC] at h; exact h.1
theorem right_zero {c : Cmd} (h : sameC c zero = true) : rightC c = true := by
  have : c.k = 0 := sameC_kind h
  unfold rightC; rw [if_pos this, h]
theorem right7_zero {r : Rec} (h : zero7 r = true) : V7.right (dep r) = true := by
  obtain ⟨h0, h1, h2, h3, h4, h5, h6⟩ := zero7_iff.1 h
  rw [V7.right_iff, V7.all7 (p := fun k => 0 ≤ dep r k ∧ dep r k ≤ 1048576)]
  simp only [dep]
  omega
theorem ord_zero {a b : Int} (h : pairB a b 0 1099511627776 0 6 = true) : ord 0 0 a b ≤ 0 := by
  have := pair_iff.1 h
  unfold ord
  by_cases h1 : 0 < a
  · simp [h1]
  · by_cases h3 : 0 < b
    · have : ¬ a < 0 := by omega
      simp [h1, h3, this]
    · have h4 : ¬ a < 0 := by omega
      have h5 : ¬ b < 0 := by omega
      simp [h1, h3, h4, h5]
/-- The document's and the program's are one. -/
theorem right_eq (r : Rec) : drightR r = rightR r := by
  unfold drightR rightR
  cases h1 : pairB r.ir r.is 0 6 1 1048576
  · rfl
  cases h2 : pairB r.pn r.pr 0 1099511627776 0 6
  · rfl
  cases h3 : pairB r.bn r.br 0 1099511627776 0 6
  · rfl
  rw [← ord_anti]
  simp only [Bool.true_and]
  by_cases h0 : r.st = 0
  · unfold dtail fitsS
    rw [if_pos h0, if_pos h0]
    have e1 : sameRec r (zeroRec r) = (eq2 r.bn r.br 0 0 && (sameC r.c zero && (decide (r.sq = 0) && (zero7 r && !r.kp)))) := by
      simp [sameRec, zeroRec, h0, eq2_self, zero7]
      rfl
    rw [e1]
    cases h4 : eq2 r.bn r.br 0 0
    · simp
    cases h5 : sameC r.c zero
    · simp
    cases h6 : decide (r.sq = 0)
    · simp
    cases h7 : zero7 r
    · simp
    rw [right_zero h5, right7_zero h7]
    obtain ⟨e2, e3⟩ := eq2_iff.1 h4
    rw [e2, e3]
    have := ord_zero h2
    cases h8 : r.kp
    · simp
    · simp [h0]
  · by_cases h4 : r.st = 1
    · unfold dtail fitsS seqB
      rw [if_neg h0, if_neg h0, if_pos h4]
      simp [h4]
      cases decide (ord r.bn r.br r.pn r.pr ≤ 0) <;> cases rightC r.c <;> cases V7.right (dep r) <;> cases decide (1 ≤ r.sq) <;> cases decide (r.sq ≤ 1099511627776) <;> rfl
    · by_cases h5 : r.st = 2 ∨ r.st = 3
      · unfold dtail fitsS seqB
        have g1 : 1 ≤ r.st := by omega
        have g2 : r.st ≤ 3 := by omega
        rw [if_neg h0, if_neg h0, if_neg h4, if_pos h5, decide_eq_true g1, decide_eq_true g2, decide_eq_false h4]
        cases decide (ord r.bn r.br r.pn r.pr ≤ 0) <;> cases rightC r.c <;> cases V7.right (dep r) <;> cases decide (1 ≤ r.sq) <;> cases decide (r.sq ≤ 1099511627776) <;> cases r.kp <;> rfl
      · unfold dtail fitsS
        rw [if_neg h0, if_neg h0, if_neg h4, if_neg h5]
        by_cases g1 : 1 ≤ r.st
        · have g2 : ¬ r.st ≤ 3 := by omega
          simp [g2]
        · simp [g1]
theorem rightM_eq (m : Msg) : drightM m = rightM m := by
  unfold drightM rightM within
  rw [right_eq]
  simp only [Bool.and_assoc]
end M

set_option maxHeartbeats 400000 in
theorem isReplicaW_any (k : Int) (w : World) : Calls Try.prog 42 #[.int .i64 k] w fun e w' => e = .returned (.bool (M.within k 0 6)) ∧ w = w' := by
  by_cases h1 : 0 ≤ k
  · by_cases h2 : k ≤ 6
    · rw [M.within_true h1 h2]
      have h3 : k < 7 := by omega
      go_enter Try.func42, Try.ntmps42
      go_wp2
      go_ret
      exact ⟨rfl, rfl⟩
    · rw [M.within_high h2]
      have h3 : ¬ k < 7 := by omega
      go_enter Try.func42, Try.ntmps42
      go_wp2
      go_ret
      exact ⟨rfl, rfl⟩
  · rw [M.within_low h1]
    go_enter Try.func42, Try.ntmps42
    go_wp2
    go_ret
    exact ⟨rfl, rfl⟩

set_option maxHeartbeats 8000000 in
set_option maxRecDepth 100000 in
theorem right_msg {w : World} (m : M.Msg) {va vb : Value} (h : Rds w va m.r.c.rs) (h' : Wrs w vb m.r.c.ws) (hl : m.r.c.rs.length ≤ 1000) (hl' : m.r.c.ws.length ≤ 1000) :
    Calls Try.prog 14 #[.agg #[.int .i64 m.k, .int .i64 m.fr, .int .i64 m.to, .int .i64 m.bn, .int .i64 m.br, .int .i64 m.r.ir, .int .i64 m.r.is, .int .i64 m.r.st, .int .i64 m.r.pn, .int .i64 m.r.pr, .int .i64 m.r.bn, .int .i64 m.r.br, .int .i64 m.r.c.k, .int .i64 m.r.c.tc, .int .i64 m.r.c.tn, .int .i64 m.r.c.tt, .int .i64 m.r.c.tk, .int .i64 m.r.c.sh, va, vb, .bool m.r.c.cm, .int .i64 m.r.sq, .int .i64 m.r.d0, .int .i64 m.r.d1, .int .i64 m.r.d2, .int .i64 m.r.d3, .int .i64 m.r.d4, .int .i64 m.r.d5, .int .i64 m.r.d6, .bool m.r.kp]] w fun e w' => e = .returned (.bool (M.rightM m)) ∧ Below w.heap.size w w' := by
  have X0 := Lib.hid (Cel.new w [.int .i64 m.k, .int .i64 m.fr, .int .i64 m.to, .int .i64 m.bn, .int .i64 m.br, .int .i64 m.r.ir, .int .i64 m.r.is, .int .i64 m.r.st, .int .i64 m.r.pn, .int .i64 m.r.pr, .int .i64 m.r.bn, .int .i64 m.r.br, .int .i64 m.r.c.k, .int .i64 m.r.c.tc, .int .i64 m.r.c.tn, .int .i64 m.r.c.tt, .int .i64 m.r.c.tk, .int .i64 m.r.c.sh, va, vb, .bool m.r.c.cm, .int .i64 m.r.sq, .int .i64 m.r.d0, .int .i64 m.r.d1, .int .i64 m.r.d2, .int .i64 m.r.d3, .int .i64 m.r.d4, .int .i64 m.r.d5, .int .i64 m.r.d6, .bool m.r.kp] 39)
  have R0 := Lib.hid (h.push (.cells #[.int .i64 m.k, .int .i64 m.fr, .int .i64 m.to, .int .i64 m.bn, .int .i64 m.br, .int .i64 m.r.ir, .int .i64 m.r.is, .int .i64 m.r.st, .int .i64 m.r.pn, .int .i64 m.r.pr, .int .i64 m.r.bn, .int .i64 m.r.br, .int .i64 m.r.c.k, .int .i64 m.r.c.tc, .int .i64 m.r.c.tn, .int .i64 m.r.c.tt, .int .i64 m.r.c.tk, .int .i64 m.r.c.sh, va, vb, .bool m.r.c.cm, .int .i64 m.r.sq, .int .i64 m.r.d0, .int .i64 m.r.d1, .int .i64 m.r.d2, .int .i64 m.r.d3, .int .i64 m.r.d4, .int .i64 m.r.d5, .int .i64 m.r.d6, .bool m.r.kp] 39))
  have W0 := Lib.hid (h'.push (.cells #[.int .i64 m.k, .int .i64 m.fr, .int .i64 m.to, .int .i64 m.bn, .int .i64 m.br, .int .i64 m.r.ir, .int .i64 m.r.is, .int .i64 m.r.st, .int .i64 m.r.pn, .int .i64 m.r.pr, .int .i64 m.r.bn, .int .i64 m.r.br, .int .i64 m.r.c.k, .int .i64 m.r.c.tc, .int .i64 m.r.c.tn, .int .i64 m.r.c.tt, .int .i64 m.r.c.tk, .int .i64 m.r.c.sh, va, vb, .bool m.r.c.cm, .int .i64 m.r.sq, .int .i64 m.r.d0, .int .i64 m.r.d1, .int .i64 m.r.d2, .int .i64 m.r.d3, .int .i64 m.r.d4, .int .i64 m.r.d5, .int .i64 m.r.d6, .bool m.r.kp] 39))
  have B0 := Lib.hid (below_new (o := .cells #[.int .i64 m.k, .int .i64 m.fr, .int .i64 m.to, .int .i64 m.bn, .int .i64 m.br, .int .i64 m.r.ir, .int .i64 m.r.is, .int .i64 m.r.st, .int .i64 m.r.pn, .int .i64 m.r.pr, .int .i64 m.r.bn, .int .i64 m.r.br, .int .i64 m.r.c.k, .int .i64 m.r.c.tc, .int .i64 m.r.c.tn, .int .i64 m.r.c.tt, .int .i64 m.r.c.tk, .int .i64 m.r.c.sh, va, vb, .bool m.r.c.cm, .int .i64 m.r.sq, .int .i64 m.r.d0, .int .i64 m.r.d1, .int .i64 m.r.d2, .int .i64 m.r.d3, .int .i64 m.r.d4, .int .i64 m.r.d5, .int .i64 m.r.d6, .bool m.r.kp] 39) (Below.refl w.heap.size w))
  clear h h'
  by_cases e0 : 1 ≤ m.k
  · skip
    by_cases e1 : m.k ≤ 8
    · skip
      rcases two (M.within m.fr 0 6) with e2 | e2
      · skip
        rcases two (M.within m.to 0 6) with e3 | e3
        · skip
          rcases two (M.pairB m.bn m.br 0 1099511627776 0 6) with e4 | e4
          · skip
            have HE := Lib.hid (show M.rightM m = M.rightR m.r by unfold M.rightM; simp [*])
            go_enter Try.func14, Try.ntmps14
            go_wp2_with (fail)
            refine (isReplicaW_any _ _).mono ?_
            rintro e _ ⟨rfl, rfl⟩
            go_wp2_with (fail)
            refine (isReplicaW_any _ _).mono ?_
            rintro e _ ⟨rfl, rfl⟩
            go_wp2_with (fail)
            refine (rightBallot_any _ _ _).mono ?_
            rintro e w1 ⟨rfl, hb⟩
            have B1 := Lib.hid (below_on B0.out hb)
            have X1 := Lib.hid (X0.out.on hb)
            have R1 := Lib.hid (R0.out.below hb)
            have W1 := Lib.hid (W0.out.below hb)
            clear hb
            go_wp2_with ((with_reducible refine wpList_load_mid_g ?_ 37 _ rfl w.heap.size 5 rfl _ _ (X1.out.range (pre := [.int .i64 m.k, .int .i64 m.fr, .int .i64 m.to, .int .i64 m.bn, .int .i64 m.br]) (L := [.int .i64 m.r.ir, .int .i64 m.r.is, .int .i64 m.r.st, .int .i64 m.r.pn, .int .i64 m.r.pr, .int .i64 m.r.bn, .int .i64 m.r.br, .int .i64 m.r.c.k, .int .i64 m.r.c.tc, .int .i64 m.r.c.tn, .int .i64 m.r.c.tt, .int .i64 m.r.c.tk, .int .i64 m.r.c.sh, va, vb, .bool m.r.c.cm, .int .i64 m.r.sq, .int .i64 m.r.d0, .int .i64 m.r.d1, .int .i64 m.r.d2, .int .i64 m.r.d3, .int .i64 m.r.d4, .int .i64 m.r.d5, .int .i64 m.r.d6, .bool m.r.kp]) (o := 5) rfl) Try.underlying37 rfl (by kernel_rfl) ?_); rfl)
            refine (right_rec m.r R1.out W1.out hl hl').mono ?_
            rintro e w2 ⟨rfl, hb⟩
            have B2 := Lib.hid (below_on B1.out hb)
            have X2 := Lib.hid (X1.out.on hb)
            have R2 := Lib.hid (R1.out.below hb)
            have W2 := Lib.hid (W1.out.below hb)
            clear hb
            go_wp2
            go_ret
            exact ⟨ret_bool HE.out.symm, B2.out⟩
          · skip
            have HE := Lib.hid (show M.rightM m = false by unfold M.rightM; simp [*])
            go_enter Try.func14, Try.ntmps14
            go_wp2_with (fail)
            refine (isReplicaW_any _ _).mono ?_
            rintro e _ ⟨rfl, rfl⟩
            go_wp2_with (fail)
            refine (isReplicaW_any _ _).mono ?_
            rintro e _ ⟨rfl, rfl⟩
            go_wp2_with (fail)
            refine (rightBallot_any _ _ _).mono ?_
            rintro e w1 ⟨rfl, hb⟩
            have B1 := Lib.hid (below_on B0.out hb)
            have X1 := Lib.hid (X0.out.on hb)
            have R1 := Lib.hid (R0.out.below hb)
            have W1 := Lib.hid (W0.out.below hb)
            clear hb
            go_wp2
            go_ret
            exact ⟨ret_bool HE.out.symm, B1.out⟩
        · skip
          have HE := Lib.hid (show M.rightM m = false by unfold M.rightM; simp [*])
          go_enter Try.func14, Try.ntmps14
          go_wp2_with (fail)
          refine (isReplicaW_any _ _).mono ?_
          rintro e _ ⟨rfl, rfl⟩
          go_wp2_with (fail)
          refine (isReplicaW_any _ _).mono ?_
          rintro e _ ⟨rfl, rfl⟩
          go_wp2
          go_ret
          exact ⟨ret_bool HE.out.symm, B0.out⟩
      · skip
        have HE := Lib.hid (show M.rightM m = false by unfold M.rightM; simp [*])
        go_enter Try.func14, Try.ntmps14
        go_wp2_with (fail)
        refine (isReplicaW_any _ _).mono ?_
        rintro e _ ⟨rfl, rfl⟩
        go_wp2
        go_ret
        exact ⟨ret_bool HE.out.symm, B0.out⟩
    · skip
      have HE := Lib.hid (show M.rightM m = false by unfold M.rightM; simp [*])
      go_enter Try.func14, Try.ntmps14
      go_wp2
      go_ret
      exact ⟨ret_bool HE.out.symm, B0.out⟩
  · skip
    have HE := Lib.hid (show M.rightM m = false by unfold M.rightM; simp [*])
    go_enter Try.func14, Try.ntmps14
    go_wp2
    go_ret
    exact ⟨ret_bool HE.out.symm, B0.out⟩

set_option maxHeartbeats 8000000 in
set_option maxRecDepth 100000 in
theorem dright_msg {w : World} (m : M.Msg) {va vb : Value} (h : Rds w va m.r.c.rs) (h' : Wrs w vb m.r.c.ws) (F : M.Mod m.r.c) :
    Calls Try.prog 15 #[.agg #[.int .i64 m.k, .int .i64 m.fr, .int .i64 m.to, .int .i64 m.bn, .int .i64 m.br, .int .i64 m.r.ir, .int .i64 m.r.is, .int .i64 m.r.st, .int .i64 m.r.pn, .int .i64 m.r.pr, .int .i64 m.r.bn, .int .i64 m.r.br, .int .i64 m.r.c.k, .int .i64 m.r.c.tc, .int .i64 m.r.c.tn, .int .i64 m.r.c.tt, .int .i64 m.r.c.tk, .int .i64 m.r.c.sh, va, vb, .bool m.r.c.cm, .int .i64 m.r.sq, .int .i64 m.r.d0, .int .i64 m.r.d1, .int .i64 m.r.d2, .int .i64 m.r.d3, .int .i64 m.r.d4, .int .i64 m.r.d5, .int .i64 m.r.d6, .bool m.r.kp]] w fun e w' => e = .returned (.bool (M.drightM m)) ∧ Below w.heap.size w w' := by
  have X0 := Lib.hid (Cel.new w [.int .i64 m.k, .int .i64 m.fr, .int .i64 m.to, .int .i64 m.bn, .int .i64 m.br, .int .i64 m.r.ir, .int .i64 m.r.is, .int .i64 m.r.st, .int .i64 m.r.pn, .int .i64 m.r.pr, .int .i64 m.r.bn, .int .i64 m.r.br, .int .i64 m.r.c.k, .int .i64 m.r.c.tc, .int .i64 m.r.c.tn, .int .i64 m.r.c.tt, .int .i64 m.r.c.tk, .int .i64 m.r.c.sh, va, vb, .bool m.r.c.cm, .int .i64 m.r.sq, .int .i64 m.r.d0, .int .i64 m.r.d1, .int .i64 m.r.d2, .int .i64 m.r.d3, .int .i64 m.r.d4, .int .i64 m.r.d5, .int .i64 m.r.d6, .bool m.r.kp] 39)
  have R0 := Lib.hid (h.push (.cells #[.int .i64 m.k, .int .i64 m.fr, .int .i64 m.to, .int .i64 m.bn, .int .i64 m.br, .int .i64 m.r.ir, .int .i64 m.r.is, .int .i64 m.r.st, .int .i64 m.r.pn, .int .i64 m.r.pr, .int .i64 m.r.bn, .int .i64 m.r.br, .int .i64 m.r.c.k, .int .i64 m.r.c.tc, .int .i64 m.r.c.tn, .int .i64 m.r.c.tt, .int .i64 m.r.c.tk, .int .i64 m.r.c.sh, va, vb, .bool m.r.c.cm, .int .i64 m.r.sq, .int .i64 m.r.d0, .int .i64 m.r.d1, .int .i64 m.r.d2, .int .i64 m.r.d3, .int .i64 m.r.d4, .int .i64 m.r.d5, .int .i64 m.r.d6, .bool m.r.kp] 39))
  have W0 := Lib.hid (h'.push (.cells #[.int .i64 m.k, .int .i64 m.fr, .int .i64 m.to, .int .i64 m.bn, .int .i64 m.br, .int .i64 m.r.ir, .int .i64 m.r.is, .int .i64 m.r.st, .int .i64 m.r.pn, .int .i64 m.r.pr, .int .i64 m.r.bn, .int .i64 m.r.br, .int .i64 m.r.c.k, .int .i64 m.r.c.tc, .int .i64 m.r.c.tn, .int .i64 m.r.c.tt, .int .i64 m.r.c.tk, .int .i64 m.r.c.sh, va, vb, .bool m.r.c.cm, .int .i64 m.r.sq, .int .i64 m.r.d0, .int .i64 m.r.d1, .int .i64 m.r.d2, .int .i64 m.r.d3, .int .i64 m.r.d4, .int .i64 m.r.d5, .int .i64 m.r.d6, .bool m.r.kp] 39))
  have B0 := Lib.hid (below_new (o := .cells #[.int .i64 m.k, .int .i64 m.fr, .int .i64 m.to, .int .i64 m.bn, .int .i64 m.br, .int .i64 m.r.ir, .int .i64 m.r.is, .int .i64 m.r.st, .int .i64 m.r.pn, .int .i64 m.r.pr, .int .i64 m.r.bn, .int .i64 m.r.br, .int .i64 m.r.c.k, .int .i64 m.r.c.tc, .int .i64 m.r.c.tn, .int .i64 m.r.c.tt, .int .i64 m.r.c.tk, .int .i64 m.r.c.sh, va, vb, .bool m.r.c.cm, .int .i64 m.r.sq, .int .i64 m.r.d0, .int .i64 m.r.d1, .int .i64 m.r.d2, .int .i64 m.r.d3, .int .i64 m.r.d4, .int .i64 m.r.d5, .int .i64 m.r.d6, .bool m.r.kp] 39) (Below.refl w.heap.size w))
  clear h h'
  by_cases e0 : 1 ≤ m.k
  · skip
    by_cases e1 : m.k ≤ 8
    · skip
      by_cases e2 : 0 ≤ m.fr
      · skip
        by_cases e3 : m.fr ≤ 6
        · skip
          by_cases e4 : 0 ≤ m.to
          · skip
            by_cases e5 : m.to ≤ 6
            · skip
              rcases two (M.pairB m.bn m.br 0 1099511627776 0 6) with e6 | e6
              · skip
                have HE := Lib.hid (show M.drightM m = M.drightR m.r by unfold M.drightM; simp [*])
                go_enter Try.func15, Try.ntmps15
                go_wp2_with (fail)
                refine (refBallot_any _ _ _).mono ?_
                rintro e w1 ⟨rfl, hb⟩
                have B1 := Lib.hid (below_on B0.out hb)
                have X1 := Lib.hid (X0.out.on hb)
                have R1 := Lib.hid (R0.out.below hb)
                have W1 := Lib.hid (W0.out.below hb)
                clear hb
                go_wp2_with ((with_reducible refine wpList_load_mid_g ?_ 37 _ rfl w.heap.size 5 rfl _ _ (X1.out.range (pre := [.int .i64 m.k, .int .i64 m.fr, .int .i64 m.to, .int .i64 m.bn, .int .i64 m.br]) (L := [.int .i64 m.r.ir, .int .i64 m.r.is, .int .i64 m.r.st, .int .i64 m.r.pn, .int .i64 m.r.pr, .int .i64 m.r.bn, .int .i64 m.r.br, .int .i64 m.r.c.k, .int .i64 m.r.c.tc, .int .i64 m.r.c.tn, .int .i64 m.r.c.tt, .int .i64 m.r.c.tk, .int .i64 m.r.c.sh, va, vb, .bool m.r.c.cm, .int .i64 m.r.sq, .int .i64 m.r.d0, .int .i64 m.r.d1, .int .i64 m.r.d2, .int .i64 m.r.d3, .int .i64 m.r.d4, .int .i64 m.r.d5, .int .i64 m.r.d6, .bool m.r.kp]) (o := 5) rfl) Try.underlying37 rfl (by kernel_rfl) ?_); rfl)
                refine (dright_rec m.r R1.out W1.out F).mono ?_
                rintro e w2 ⟨rfl, hb⟩
                have B2 := Lib.hid (below_on B1.out hb)
                have X2 := Lib.hid (X1.out.on hb)
                have R2 := Lib.hid (R1.out.below hb)
                have W2 := Lib.hid (W1.out.below hb)
                clear hb
                go_wp2
                go_ret
                exact ⟨ret_bool HE.out.symm, B2.out⟩
              · skip
                have HE := Lib.hid (show M.drightM m = false by unfold M.drightM; simp [*])
                go_enter Try.func15, Try.ntmps15
                go_wp2_with (fail)
                refine (refBallot_any _ _ _).mono ?_
                rintro e w1 ⟨rfl, hb⟩
                have B1 := Lib.hid (below_on B0.out hb)
                have X1 := Lib.hid (X0.out.on hb)
                have R1 := Lib.hid (R0.out.below hb)
                have W1 := Lib.hid (W0.out.below hb)
                clear hb
                go_wp2
                go_ret
                exact ⟨ret_bool HE.out.symm, B1.out⟩
            · skip
              have HE := Lib.hid (show M.drightM m = false by unfold M.drightM; simp [*])
              go_enter Try.func15, Try.ntmps15
              go_wp2
              go_ret
              exact ⟨ret_bool HE.out.symm, B0.out⟩
          · skip
            have HE := Lib.hid (show M.drightM m = false by unfold M.drightM; simp [*])
            go_enter Try.func15, Try.ntmps15
            go_wp2
            go_ret
            exact ⟨ret_bool HE.out.symm, B0.out⟩
        · skip
          have HE := Lib.hid (show M.drightM m = false by unfold M.drightM; simp [*])
          go_enter Try.func15, Try.ntmps15
          go_wp2
          go_ret
          exact ⟨ret_bool HE.out.symm, B0.out⟩
      · skip
        have HE := Lib.hid (show M.drightM m = false by unfold M.drightM; simp [*])
        go_enter Try.func15, Try.ntmps15
        go_wp2
        go_ret
        exact ⟨ret_bool HE.out.symm, B0.out⟩
    · skip
      have HE := Lib.hid (show M.drightM m = false by unfold M.drightM; simp [*])
      go_enter Try.func15, Try.ntmps15
      go_wp2
      go_ret
      exact ⟨ret_bool HE.out.symm, B0.out⟩
  · skip
    have HE := Lib.hid (show M.drightM m = false by unfold M.drightM; simp [*])
    go_enter Try.func15, Try.ntmps15
    go_wp2
    go_ret
    exact ⟨ret_bool HE.out.symm, B0.out⟩

set_option maxHeartbeats 8000000 in
set_option maxRecDepth 100000 in
theorem dsame_msg {w : World} (a b : M.Msg) {va vb ua ub : Value} (h : Rds w va a.r.c.rs) (h' : Wrs w vb a.r.c.ws) (g : Rds w ua b.r.c.rs) (g' : Wrs w ub b.r.c.ws) (hl : a.r.c.rs.length ≤ 1000) (hl' : a.r.c.ws.length ≤ 1000) :
    Calls Try.prog 62 #[.agg #[.int .i64 a.k, .int .i64 a.fr, .int .i64 a.to, .int .i64 a.bn, .int .i64 a.br, .int .i64 a.r.ir, .int .i64 a.r.is, .int .i64 a.r.st, .int .i64 a.r.pn, .int .i64 a.r.pr, .int .i64 a.r.bn, .int .i64 a.r.br, .int .i64 a.r.c.k, .int .i64 a.r.c.tc, .int .i64 a.r.c.tn, .int .i64 a.r.c.tt, .int .i64 a.r.c.tk, .int .i64 a.r.c.sh, va, vb, .bool a.r.c.cm, .int .i64 a.r.sq, .int .i64 a.r.d0, .int .i64 a.r.d1, .int .i64 a.r.d2, .int .i64 a.r.d3, .int .i64 a.r.d4, .int .i64 a.r.d5, .int .i64 a.r.d6, .bool a.r.kp], .agg #[.int .i64 b.k, .int .i64 b.fr, .int .i64 b.to, .int .i64 b.bn, .int .i64 b.br, .int .i64 b.r.ir, .int .i64 b.r.is, .int .i64 b.r.st, .int .i64 b.r.pn, .int .i64 b.r.pr, .int .i64 b.r.bn, .int .i64 b.r.br, .int .i64 b.r.c.k, .int .i64 b.r.c.tc, .int .i64 b.r.c.tn, .int .i64 b.r.c.tt, .int .i64 b.r.c.tk, .int .i64 b.r.c.sh, ua, ub, .bool b.r.c.cm, .int .i64 b.r.sq, .int .i64 b.r.d0, .int .i64 b.r.d1, .int .i64 b.r.d2, .int .i64 b.r.d3, .int .i64 b.r.d4, .int .i64 b.r.d5, .int .i64 b.r.d6, .bool b.r.kp]] w fun e w' => e = .returned (.bool (M.sameMsg a b)) ∧ Below w.heap.size w w' := by
  have X0 := Lib.hid ((Cel.new w [.int .i64 a.k, .int .i64 a.fr, .int .i64 a.to, .int .i64 a.bn, .int .i64 a.br, .int .i64 a.r.ir, .int .i64 a.r.is, .int .i64 a.r.st, .int .i64 a.r.pn, .int .i64 a.r.pr, .int .i64 a.r.bn, .int .i64 a.r.br, .int .i64 a.r.c.k, .int .i64 a.r.c.tc, .int .i64 a.r.c.tn, .int .i64 a.r.c.tt, .int .i64 a.r.c.tk, .int .i64 a.r.c.sh, va, vb, .bool a.r.c.cm, .int .i64 a.r.sq, .int .i64 a.r.d0, .int .i64 a.r.d1, .int .i64 a.r.d2, .int .i64 a.r.d3, .int .i64 a.r.d4, .int .i64 a.r.d5, .int .i64 a.r.d6, .bool a.r.kp] 39).push (.cells #[.int .i64 b.k, .int .i64 b.fr, .int .i64 b.to, .int .i64 b.bn, .int .i64 b.br, .int .i64 b.r.ir, .int .i64 b.r.is, .int .i64 b.r.st, .int .i64 b.r.pn, .int .i64 b.r.pr, .int .i64 b.r.bn, .int .i64 b.r.br, .int .i64 b.r.c.k, .int .i64 b.r.c.tc, .int .i64 b.r.c.tn, .int .i64 b.r.c.tt, .int .i64 b.r.c.tk, .int .i64 b.r.c.sh, ua, ub, .bool b.r.c.cm, .int .i64 b.r.sq, .int .i64 b.r.d0, .int .i64 b.r.d1, .int .i64 b.r.d2, .int .i64 b.r.d3, .int .i64 b.r.d4, .int .i64 b.r.d5, .int .i64 b.r.d6, .bool b.r.kp] 39))
  have Y0 := Lib.hid (Cel.new1 w (.cells #[.int .i64 a.k, .int .i64 a.fr, .int .i64 a.to, .int .i64 a.bn, .int .i64 a.br, .int .i64 a.r.ir, .int .i64 a.r.is, .int .i64 a.r.st, .int .i64 a.r.pn, .int .i64 a.r.pr, .int .i64 a.r.bn, .int .i64 a.r.br, .int .i64 a.r.c.k, .int .i64 a.r.c.tc, .int .i64 a.r.c.tn, .int .i64 a.r.c.tt, .int .i64 a.r.c.tk, .int .i64 a.r.c.sh, va, vb, .bool a.r.c.cm, .int .i64 a.r.sq, .int .i64 a.r.d0, .int .i64 a.r.d1, .int .i64 a.r.d2, .int .i64 a.r.d3, .int .i64 a.r.d4, .int .i64 a.r.d5, .int .i64 a.r.d6, .bool a.r.kp] 39) [.int .i64 b.k, .int .i64 b.fr, .int .i64 b.to, .int .i64 b.bn, .int .i64 b.br, .int .i64 b.r.ir, .int .i64 b.r.is, .int .i64 b.r.st, .int .i64 b.r.pn, .int .i64 b.r.pr, .int .i64 b.r.bn, .int .i64 b.r.br, .int .i64 b.r.c.k, .int .i64 b.r.c.tc, .int .i64 b.r.c.tn, .int .i64 b.r.c.tt, .int .i64 b.r.c.tk, .int .i64 b.r.c.sh, ua, ub, .bool b.r.c.cm, .int .i64 b.r.sq, .int .i64 b.r.d0, .int .i64 b.r.d1, .int .i64 b.r.d2, .int .i64 b.r.d3, .int .i64 b.r.d4, .int .i64 b.r.d5, .int .i64 b.r.d6, .bool b.r.kp] 39)
  have R0 := Lib.hid ((h.push (.cells #[.int .i64 a.k, .int .i64 a.fr, .int .i64 a.to, .int .i64 a.bn, .int .i64 a.br, .int .i64 a.r.ir, .int .i64 a.r.is, .int .i64 a.r.st, .int .i64 a.r.pn, .int .i64 a.r.pr, .int .i64 a.r.bn, .int .i64 a.r.br, .int .i64 a.r.c.k, .int .i64 a.r.c.tc, .int .i64 a.r.c.tn, .int .i64 a.r.c.tt, .int .i64 a.r.c.tk, .int .i64 a.r.c.sh, va, vb, .bool a.r.c.cm, .int .i64 a.r.sq, .int .i64 a.r.d0, .int .i64 a.r.d1, .int .i64 a.r.d2, .int .i64 a.r.d3, .int .i64 a.r.d4, .int .i64 a.r.d5, .int .i64 a.r.d6, .bool a.r.kp] 39)).push (.cells #[.int .i64 b.k, .int .i64 b.fr, .int .i64 b.to, .int .i64 b.bn, .int .i64 b.br, .int .i64 b.r.ir, .int .i64 b.r.is, .int .i64 b.r.st, .int .i64 b.r.pn, .int .i64 b.r.pr, .int .i64 b.r.bn, .int .i64 b.r.br, .int .i64 b.r.c.k, .int .i64 b.r.c.tc, .int .i64 b.r.c.tn, .int .i64 b.r.c.tt, .int .i64 b.r.c.tk, .int .i64 b.r.c.sh, ua, ub, .bool b.r.c.cm, .int .i64 b.r.sq, .int .i64 b.r.d0, .int .i64 b.r.d1, .int .i64 b.r.d2, .int .i64 b.r.d3, .int .i64 b.r.d4, .int .i64 b.r.d5, .int .i64 b.r.d6, .bool b.r.kp] 39))
  have W0 := Lib.hid ((h'.push (.cells #[.int .i64 a.k, .int .i64 a.fr, .int .i64 a.to, .int .i64 a.bn, .int .i64 a.br, .int .i64 a.r.ir, .int .i64 a.r.is, .int .i64 a.r.st, .int .i64 a.r.pn, .int .i64 a.r.pr, .int .i64 a.r.bn, .int .i64 a.r.br, .int .i64 a.r.c.k, .int .i64 a.r.c.tc, .int .i64 a.r.c.tn, .int .i64 a.r.c.tt, .int .i64 a.r.c.tk, .int .i64 a.r.c.sh, va, vb, .bool a.r.c.cm, .int .i64 a.r.sq, .int .i64 a.r.d0, .int .i64 a.r.d1, .int .i64 a.r.d2, .int .i64 a.r.d3, .int .i64 a.r.d4, .int .i64 a.r.d5, .int .i64 a.r.d6, .bool a.r.kp] 39)).push (.cells #[.int .i64 b.k, .int .i64 b.fr, .int .i64 b.to, .int .i64 b.bn, .int .i64 b.br, .int .i64 b.r.ir, .int .i64 b.r.is, .int .i64 b.r.st, .int .i64 b.r.pn, .int .i64 b.r.pr, .int .i64 b.r.bn, .int .i64 b.r.br, .int .i64 b.r.c.k, .int .i64 b.r.c.tc, .int .i64 b.r.c.tn, .int .i64 b.r.c.tt, .int .i64 b.r.c.tk, .int .i64 b.r.c.sh, ua, ub, .bool b.r.c.cm, .int .i64 b.r.sq, .int .i64 b.r.d0, .int .i64 b.r.d1, .int .i64 b.r.d2, .int .i64 b.r.d3, .int .i64 b.r.d4, .int .i64 b.r.d5, .int .i64 b.r.d6, .bool b.r.kp] 39))
  have S0 := Lib.hid ((g.push (.cells #[.int .i64 a.k, .int .i64 a.fr, .int .i64 a.to, .int .i64 a.bn, .int .i64 a.br, .int .i64 a.r.ir, .int .i64 a.r.is, .int .i64 a.r.st, .int .i64 a.r.pn, .int .i64 a.r.pr, .int .i64 a.r.bn, .int .i64 a.r.br, .int .i64 a.r.c.k, .int .i64 a.r.c.tc, .int .i64 a.r.c.tn, .int .i64 a.r.c.tt, .int .i64 a.r.c.tk, .int .i64 a.r.c.sh, va, vb, .bool a.r.c.cm, .int .i64 a.r.sq, .int .i64 a.r.d0, .int .i64 a.r.d1, .int .i64 a.r.d2, .int .i64 a.r.d3, .int .i64 a.r.d4, .int .i64 a.r.d5, .int .i64 a.r.d6, .bool a.r.kp] 39)).push (.cells #[.int .i64 b.k, .int .i64 b.fr, .int .i64 b.to, .int .i64 b.bn, .int .i64 b.br, .int .i64 b.r.ir, .int .i64 b.r.is, .int .i64 b.r.st, .int .i64 b.r.pn, .int .i64 b.r.pr, .int .i64 b.r.bn, .int .i64 b.r.br, .int .i64 b.r.c.k, .int .i64 b.r.c.tc, .int .i64 b.r.c.tn, .int .i64 b.r.c.tt, .int .i64 b.r.c.tk, .int .i64 b.r.c.sh, ua, ub, .bool b.r.c.cm, .int .i64 b.r.sq, .int .i64 b.r.d0, .int .i64 b.r.d1, .int .i64 b.r.d2, .int .i64 b.r.d3, .int .i64 b.r.d4, .int .i64 b.r.d5, .int .i64 b.r.d6, .bool b.r.kp] 39))
  have V0 := Lib.hid ((g'.push (.cells #[.int .i64 a.k, .int .i64 a.fr, .int .i64 a.to, .int .i64 a.bn, .int .i64 a.br, .int .i64 a.r.ir, .int .i64 a.r.is, .int .i64 a.r.st, .int .i64 a.r.pn, .int .i64 a.r.pr, .int .i64 a.r.bn, .int .i64 a.r.br, .int .i64 a.r.c.k, .int .i64 a.r.c.tc, .int .i64 a.r.c.tn, .int .i64 a.r.c.tt, .int .i64 a.r.c.tk, .int .i64 a.r.c.sh, va, vb, .bool a.r.c.cm, .int .i64 a.r.sq, .int .i64 a.r.d0, .int .i64 a.r.d1, .int .i64 a.r.d2, .int .i64 a.r.d3, .int .i64 a.r.d4, .int .i64 a.r.d5, .int .i64 a.r.d6, .bool a.r.kp] 39)).push (.cells #[.int .i64 b.k, .int .i64 b.fr, .int .i64 b.to, .int .i64 b.bn, .int .i64 b.br, .int .i64 b.r.ir, .int .i64 b.r.is, .int .i64 b.r.st, .int .i64 b.r.pn, .int .i64 b.r.pr, .int .i64 b.r.bn, .int .i64 b.r.br, .int .i64 b.r.c.k, .int .i64 b.r.c.tc, .int .i64 b.r.c.tn, .int .i64 b.r.c.tt, .int .i64 b.r.c.tk, .int .i64 b.r.c.sh, ua, ub, .bool b.r.c.cm, .int .i64 b.r.sq, .int .i64 b.r.d0, .int .i64 b.r.d1, .int .i64 b.r.d2, .int .i64 b.r.d3, .int .i64 b.r.d4, .int .i64 b.r.d5, .int .i64 b.r.d6, .bool b.r.kp] 39))
  have B0 := Lib.hid (below_new (o := .cells #[.int .i64 b.k, .int .i64 b.fr, .int .i64 b.to, .int .i64 b.bn, .int .i64 b.br, .int .i64 b.r.ir, .int .i64 b.r.is, .int .i64 b.r.st, .int .i64 b.r.pn, .int .i64 b.r.pr, .int .i64 b.r.bn, .int .i64 b.r.br, .int .i64 b.r.c.k, .int .i64 b.r.c.tc, .int .i64 b.r.c.tn, .int .i64 b.r.c.tt, .int .i64 b.r.c.tk, .int .i64 b.r.c.sh, ua, ub, .bool b.r.c.cm, .int .i64 b.r.sq, .int .i64 b.r.d0, .int .i64 b.r.d1, .int .i64 b.r.d2, .int .i64 b.r.d3, .int .i64 b.r.d4, .int .i64 b.r.d5, .int .i64 b.r.d6, .bool b.r.kp] 39) (below_new (o := .cells #[.int .i64 a.k, .int .i64 a.fr, .int .i64 a.to, .int .i64 a.bn, .int .i64 a.br, .int .i64 a.r.ir, .int .i64 a.r.is, .int .i64 a.r.st, .int .i64 a.r.pn, .int .i64 a.r.pr, .int .i64 a.r.bn, .int .i64 a.r.br, .int .i64 a.r.c.k, .int .i64 a.r.c.tc, .int .i64 a.r.c.tn, .int .i64 a.r.c.tt, .int .i64 a.r.c.tk, .int .i64 a.r.c.sh, va, vb, .bool a.r.c.cm, .int .i64 a.r.sq, .int .i64 a.r.d0, .int .i64 a.r.d1, .int .i64 a.r.d2, .int .i64 a.r.d3, .int .i64 a.r.d4, .int .i64 a.r.d5, .int .i64 a.r.d6, .bool a.r.kp] 39) (Below.refl w.heap.size w)))
  clear h h' g g'
  by_cases e0 : a.k = b.k
  · obtain ⟨q0a, q0b⟩ := eqI e0
    by_cases e1 : a.fr = b.fr
    · obtain ⟨q1a, q1b⟩ := eqI e1
      by_cases e2 : a.to = b.to
      · obtain ⟨q2a, q2b⟩ := eqI e2
        rcases two (M.eq2 a.bn a.br b.bn b.br) with e3 | e3
        · skip
          have HE := Lib.hid (show M.sameMsg a b = M.sameRec a.r b.r by unfold M.sameMsg; simp [*])
          clear e0 e1 e2
          go_enter Try.func62, Try.ntmps62
          go_wp2_with (first | ((with_reducible refine wpList_load_mid_g ?_ 37 _ rfl w.heap.size 5 rfl _ _ (X0.out.range (pre := [.int .i64 a.k, .int .i64 a.fr, .int .i64 a.to, .int .i64 a.bn, .int .i64 a.br]) (L := [.int .i64 a.r.ir, .int .i64 a.r.is, .int .i64 a.r.st, .int .i64 a.r.pn, .int .i64 a.r.pr, .int .i64 a.r.bn, .int .i64 a.r.br, .int .i64 a.r.c.k, .int .i64 a.r.c.tc, .int .i64 a.r.c.tn, .int .i64 a.r.c.tt, .int .i64 a.r.c.tk, .int .i64 a.r.c.sh, va, vb, .bool a.r.c.cm, .int .i64 a.r.sq, .int .i64 a.r.d0, .int .i64 a.r.d1, .int .i64 a.r.d2, .int .i64 a.r.d3, .int .i64 a.r.d4, .int .i64 a.r.d5, .int .i64 a.r.d6, .bool a.r.kp]) (o := 5) rfl) Try.underlying37 rfl (by kernel_rfl) ?_); rfl) | ((with_reducible refine wpList_load_mid_g ?_ 37 _ rfl (w.heap.size + 1) 5 rfl _ _ (Y0.out.range (pre := [.int .i64 b.k, .int .i64 b.fr, .int .i64 b.to, .int .i64 b.bn, .int .i64 b.br]) (L := [.int .i64 b.r.ir, .int .i64 b.r.is, .int .i64 b.r.st, .int .i64 b.r.pn, .int .i64 b.r.pr, .int .i64 b.r.bn, .int .i64 b.r.br, .int .i64 b.r.c.k, .int .i64 b.r.c.tc, .int .i64 b.r.c.tn, .int .i64 b.r.c.tt, .int .i64 b.r.c.tk, .int .i64 b.r.c.sh, ua, ub, .bool b.r.c.cm, .int .i64 b.r.sq, .int .i64 b.r.d0, .int .i64 b.r.d1, .int .i64 b.r.d2, .int .i64 b.r.d3, .int .i64 b.r.d4, .int .i64 b.r.d5, .int .i64 b.r.d6, .bool b.r.kp]) (o := 5) rfl) Try.underlying37 rfl (by kernel_rfl) ?_); rfl))
          refine (dsame_rec a.r b.r R0.out W0.out S0.out V0.out hl hl').mono ?_
          rintro e w1 ⟨rfl, hb⟩
          have B1 := Lib.hid (below_on B0.out hb)
          have X1 := Lib.hid (X0.out.on hb)
          have Y1 := Lib.hid (Y0.out.on hb)
          have R1 := Lib.hid (R0.out.below hb)
          have W1 := Lib.hid (W0.out.below hb)
          have S1 := Lib.hid (S0.out.below hb)
          have V1 := Lib.hid (V0.out.below hb)
          clear hb
          go_wp2
          go_ret
          exact ⟨ret_bool HE.out.symm, B1.out⟩
        · skip
          have HE := Lib.hid (show M.sameMsg a b = false by unfold M.sameMsg; simp [*])
          clear e0 e1 e2
          go_enter Try.func62, Try.ntmps62
          go_wp2
          go_ret
          exact ⟨ret_bool HE.out.symm, B0.out⟩
      · obtain ⟨q2a, q2b⟩ := neI e2
        have HE := Lib.hid (show M.sameMsg a b = false by unfold M.sameMsg; simp [*])
        clear e0 e1 e2
        go_enter Try.func62, Try.ntmps62
        go_wp2
        go_ret
        exact ⟨ret_bool HE.out.symm, B0.out⟩
    · obtain ⟨q1a, q1b⟩ := neI e1
      have HE := Lib.hid (show M.sameMsg a b = false by unfold M.sameMsg; simp [*])
      clear e0 e1
      go_enter Try.func62, Try.ntmps62
      go_wp2
      go_ret
      exact ⟨ret_bool HE.out.symm, B0.out⟩
  · obtain ⟨q0a, q0b⟩ := neI e0
    have HE := Lib.hid (show M.sameMsg a b = false by unfold M.sameMsg; simp [*])
    clear e0
    go_enter Try.func62, Try.ntmps62
    go_wp2
    go_ret
    exact ⟨ret_bool HE.out.symm, B0.out⟩
end Go.Proofs.Ytagngbdlpdilnaa
