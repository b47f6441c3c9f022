/- Commands; boxes of commands carried behind calls; contracts of isEmpty, isTransaction, Same and Right; no conditions but the lengths that they name. -/
import Derived.Test.YtagngbdlpdilnaaCmdsD
namespace Go.Proofs.Ytagngbdlpdilnaa
open Go.ChangeShapes Go.WideShapes Go.ChangeAt Go.RowKit
attribute [local go_sem ↓] run_same_rd run_same_wr run_same_txn run_same_stamp

namespace M
/-- A command. -/
structure Cmd where
  k : Int
  tc : Int
  tn : Int
  tt : Int
  tk : Int
  sh : Int
  rs : List (List UInt8 × Int × Int)
  ws : List (List UInt8 × List UInt8)
  cm : Bool
def emptyB (n m : Nat) : Bool := decide (n = 0) && decide (m = 0)
def transB (c : Cmd) : Bool := pairB c.tc c.tn 0 3 1 1099511627776 && (pairB c.tt c.tk 0 1099511627776 0 3 && (decide (1 ≤ c.tt) && (decide (c.tk = c.tc) && (decide (1 ≤ c.sh) && (decide (c.sh ≤ 15) && (!emptyB c.rs.length c.ws.length && (areR c.rs c.tt c.tk && areW c.ws)))))))
def sameC (a b : Cmd) : Bool := decide (a.k = b.k) && (eq2 a.tc a.tn b.tc b.tn && (eq2 a.tt a.tk b.tt b.tk && (decide (a.sh = b.sh) && ((a.cm == b.cm) && (sameR a.rs b.rs && sameW a.ws b.ws)))))
end M

/-- A block of a command. -/
structure Box (w : World) (b : Nat) (c : M.Cmd) (va vb : Value) : Prop where
  lt : b < w.heap.size
  c0 : w.cell? ⟨b, 0, none⟩ = some (.int .i64 c.k)
  c1 : w.cell? ⟨b, 1, none⟩ = some (.int .i64 c.tc)
  c2 : w.cell? ⟨b, 2, none⟩ = some (.int .i64 c.tn)
  c3 : w.cell? ⟨b, 3, none⟩ = some (.int .i64 c.tt)
  c4 : w.cell? ⟨b, 4, none⟩ = some (.int .i64 c.tk)
  c5 : w.cell? ⟨b, 5, none⟩ = some (.int .i64 c.sh)
  c6 : w.cell? ⟨b, 6, none⟩ = some va
  c7 : w.cell? ⟨b, 7, none⟩ = some vb
  c8 : w.cell? ⟨b, 8, none⟩ = some (.bool c.cm)
theorem Box.new (w : World) (c : M.Cmd) (va vb : Value) : Box (w.alloc (.cells #[.int .i64 c.k, .int .i64 c.tc, .int .i64 c.tn, .int .i64 c.tt, .int .i64 c.tk, .int .i64 c.sh, va, vb, .bool c.cm] 33)) w.heap.size c va vb :=
  ⟨by simp, by simp, by simp, by simp, by simp, by simp, by simp, by simp, by simp, by simp⟩
theorem Box.push {w : World} {b : Nat} {c : M.Cmd} {va vb : Value} (h : Box w b c va vb) (o : Obj) : Box (w.alloc o) b c va vb :=
  ⟨by have := h.lt; simp; omega, (World.cell?_alloc_lt w o _ h.lt).trans h.c0, (World.cell?_alloc_lt w o _ h.lt).trans h.c1, (World.cell?_alloc_lt w o _ h.lt).trans h.c2, (World.cell?_alloc_lt w o _ h.lt).trans h.c3, (World.cell?_alloc_lt w o _ h.lt).trans h.c4, (World.cell?_alloc_lt w o _ h.lt).trans h.c5, (World.cell?_alloc_lt w o _ h.lt).trans h.c6, (World.cell?_alloc_lt w o _ h.lt).trans h.c7, (World.cell?_alloc_lt w o _ h.lt).trans h.c8⟩
theorem Box.on {w w' : World} {b : Nat} {c : M.Cmd} {va vb : Value} (h : Box w b c va vb) (k : Below w.heap.size w w') : Box w' b c va vb :=
  ⟨Nat.lt_of_lt_of_le h.lt k.size, (k.cell (p := ⟨b, 0, none⟩) h.lt).trans h.c0, (k.cell (p := ⟨b, 1, none⟩) h.lt).trans h.c1, (k.cell (p := ⟨b, 2, none⟩) h.lt).trans h.c2, (k.cell (p := ⟨b, 3, none⟩) h.lt).trans h.c3, (k.cell (p := ⟨b, 4, none⟩) h.lt).trans h.c4, (k.cell (p := ⟨b, 5, none⟩) h.lt).trans h.c5, (k.cell (p := ⟨b, 6, none⟩) h.lt).trans h.c6, (k.cell (p := ⟨b, 7, none⟩) h.lt).trans h.c7, (k.cell (p := ⟨b, 8, none⟩) h.lt).trans h.c8⟩
theorem Box.new1 (w : World) (o : Obj) (c : M.Cmd) (va vb : Value) : Box ((w.alloc o).alloc (.cells #[.int .i64 c.k, .int .i64 c.tc, .int .i64 c.tn, .int .i64 c.tt, .int .i64 c.tk, .int .i64 c.sh, va, vb, .bool c.cm] 33)) (w.heap.size + 1) c va vb := by
  simpa using Box.new (w.alloc o) c va vb
theorem Rds.push {w : World} {v : Value} {l : List (List UInt8 × Int × Int)} (h : Rds w v l) (o : Obj) : Rds (w.alloc o) v l := h.below (below_new (Below.refl _ _))
theorem Wrs.push {w : World} {v : Value} {l : List (List UInt8 × List UInt8)} (h : Wrs w v l) (o : Obj) : Wrs (w.alloc o) v l := h.below (below_new (Below.refl _ _))

theorem nz {n : Nat} (h : ¬ n = 0) : ((n : Int) == 0) = false ∧ (n == 0) = false := by
  constructor
  · rw [beq_eq_false_iff_ne]; omega
  · rw [beq_eq_false_iff_ne]; exact h
theorem zz {n : Nat} (h : n = 0) : ((n : Int) == 0) = true ∧ (n == 0) = true := by subst h; exact ⟨rfl, rfl⟩
theorem eqI {a b : Int} (h : a = b) : (a == b) = true ∧ (a != b) = false := by subst h; simp
theorem neI {a b : Int} (h : ¬ a = b) : (a == b) = false ∧ (a != b) = true := by
  have : (a == b) = false := by rw [beq_eq_false_iff_ne]; exact h
  exact ⟨this, by rw [bne, this]; rfl⟩

set_option maxHeartbeats 1000000 in
theorem isEmpty_any {w : World} (c : M.Cmd) {va vb : Value} (h : Rds w va c.rs) (h' : Wrs w vb c.ws) : Calls Try.prog 89 #[.agg #[.int .i64 c.k, .int .i64 c.tc, .int .i64 c.tn, .int .i64 c.tt, .int .i64 c.tk, .int .i64 c.sh, va, vb, .bool c.cm]] w fun e w' => e = .returned (.bool (M.emptyB c.rs.length c.ws.length)) ∧ Below w.heap.size w w' := by
  obtain ⟨A, c1, rfl, hc, -⟩ := h.opened
  obtain ⟨A', c2, rfl, hc', -⟩ := h'.opened
  clear h h'
  generalize c.rs.length = n at *
  generalize c.ws.length = m at *
  by_cases hn : n = 0
  · obtain ⟨q1, q2⟩ := zz hn
    by_cases hm : m = 0
    · obtain ⟨q3, q4⟩ := zz hm
      have HE := Lib.hid (show M.emptyB n m = true by simp [M.emptyB, hn, hm])
      clear hn hm
      go_enter Try.func89, Try.ntmps89
      go_wp2
      go_ret
      exact ⟨ret_bool HE.out.symm, below_new (Below.refl _ _)⟩
    · obtain ⟨q3, q4⟩ := nz hm
      have HE := Lib.hid (show M.emptyB n m = false by simp [M.emptyB, hm])
      clear hn hm
      go_enter Try.func89, Try.ntmps89
      go_wp2
      go_ret
      exact ⟨ret_bool HE.out.symm, below_new (Below.refl _ _)⟩
  · obtain ⟨q1, q2⟩ := nz hn
    have HE := Lib.hid (show M.emptyB n m = false by simp [M.emptyB, hn])
    clear hn
    go_enter Try.func89, Try.ntmps89
    go_wp2
    go_ret
    exact ⟨ret_bool HE.out.symm, below_new (Below.refl _ _)⟩


set_option maxHeartbeats 4000000 in
set_option maxRecDepth 100000 in
theorem isTransaction_any {w : World} (c : M.Cmd) {va vb : Value} (h : Rds w va c.rs) (h' : Wrs w vb c.ws) (hl : c.rs.length ≤ 1000) (hl' : c.ws.length ≤ 1000) : Calls Try.prog 68 #[.agg #[.int .i64 c.k, .int .i64 c.tc, .int .i64 c.tn, .int .i64 c.tt, .int .i64 c.tk, .int .i64 c.sh, va, vb, .bool c.cm]] w fun e w' => e = .returned (.bool (M.transB c)) ∧ Below w.heap.size w w' := by
  have X0 := Lib.hid (Box.new w c va vb)
  have R0 := Lib.hid (h.push (.cells #[.int .i64 c.k, .int .i64 c.tc, .int .i64 c.tn, .int .i64 c.tt, .int .i64 c.tk, .int .i64 c.sh, va, vb, .bool c.cm] 33))
  have W0 := Lib.hid (h'.push (.cells #[.int .i64 c.k, .int .i64 c.tc, .int .i64 c.tn, .int .i64 c.tt, .int .i64 c.tk, .int .i64 c.sh, va, vb, .bool c.cm] 33))
  have B0 := Lib.hid (below_new (o := .cells #[.int .i64 c.k, .int .i64 c.tc, .int .i64 c.tn, .int .i64 c.tt, .int .i64 c.tk, .int .i64 c.sh, va, vb, .bool c.cm] 33) (Below.refl w.heap.size w))
  clear h h'
  rcases two (M.pairB c.tc c.tn 0 3 1 1099511627776) with e0 | e0
  · rcases two (M.pairB c.tt c.tk 0 1099511627776 0 3) with e1 | e1
    · by_cases e2 : 1 ≤ c.tt
      · by_cases e3 : c.tk = c.tc
        · obtain ⟨q3a, q3b⟩ := eqI e3
          by_cases e4 : 1 ≤ c.sh
          · by_cases e5 : c.sh ≤ 15
            · rcases two (M.emptyB c.rs.length c.ws.length) with e6 | e6
              · have HE := Lib.hid (show M.transB c = false by unfold M.transB; rw [e0, e1, decide_eq_true e2, decide_eq_true e3, decide_eq_true e4, decide_eq_true e5, e6]; rfl)
                clear e3
                go_enter Try.func68, Try.ntmps68
                go_wp2_with (fail)
                refine (rightTxn_any _ _ _).mono ?_
                rintro e w1 ⟨rfl, hb⟩
                have B1 := Lib.hid (below_on B0.out hb)
                have X1 := Lib.hid (X0.out.on hb)
                have R1 := Lib.hid (R0.out.below hb)
                have W1 := Lib.hid (W0.out.below hb)
                clear hb B0 X0 R0 W0
                obtain ⟨l1, p10, p11, p12, p13, p14, p15, p16, p17, p18⟩ := X1.out
                go_wp2_with (fail)
                refine (rightStamp_any _ _ _).mono ?_
                rintro e w2 ⟨rfl, hb⟩
                have B2 := Lib.hid (below_on B1.out hb)
                have X2 := Lib.hid (X1.out.on hb)
                have R2 := Lib.hid (R1.out.below hb)
                have W2 := Lib.hid (W1.out.below hb)
                clear hb B1 X1 R1 W1
                clear l1 p10 p11 p12 p13 p14 p15 p16 p17 p18
                obtain ⟨l2, p20, p21, p22, p23, p24, p25, p26, p27, p28⟩ := X2.out
                go_wp2_with (fail)
                refine (isEmpty_any c R2.out W2.out).mono ?_
                rintro e w3 ⟨rfl, hb⟩
                have B3 := Lib.hid (below_on B2.out hb)
                have X3 := Lib.hid (X2.out.on hb)
                have R3 := Lib.hid (R2.out.below hb)
                have W3 := Lib.hid (W2.out.below hb)
                clear hb B2 X2 R2 W2
                clear l2 p20 p21 p22 p23 p24 p25 p26 p27 p28
                obtain ⟨l3, p30, p31, p32, p33, p34, p35, p36, p37, p38⟩ := X3.out
                go_wp2
                go_ret
                exact ⟨ret_bool HE.out.symm, B3.out⟩
              · rcases two (M.areR c.rs c.tt c.tk) with e7 | e7
                · have HE := Lib.hid (show M.transB c = M.areW c.ws by unfold M.transB; rw [e0, e1, decide_eq_true e2, decide_eq_true e3, decide_eq_true e4, decide_eq_true e5, e6, e7]; rfl)
                  clear e3
                  go_enter Try.func68, Try.ntmps68
                  go_wp2_with (fail)
                  refine (rightTxn_any _ _ _).mono ?_
                  rintro e w1 ⟨rfl, hb⟩
                  have B1 := Lib.hid (below_on B0.out hb)
                  have X1 := Lib.hid (X0.out.on hb)
                  have R1 := Lib.hid (R0.out.below hb)
                  have W1 := Lib.hid (W0.out.below hb)
                  clear hb B0 X0 R0 W0
                  obtain ⟨l1, p10, p11, p12, p13, p14, p15, p16, p17, p18⟩ := X1.out
                  go_wp2_with (fail)
                  refine (rightStamp_any _ _ _).mono ?_
                  rintro e w2 ⟨rfl, hb⟩
                  have B2 := Lib.hid (below_on B1.out hb)
                  have X2 := Lib.hid (X1.out.on hb)
                  have R2 := Lib.hid (R1.out.below hb)
                  have W2 := Lib.hid (W1.out.below hb)
                  clear hb B1 X1 R1 W1
                  clear l1 p10 p11 p12 p13 p14 p15 p16 p17 p18
                  obtain ⟨l2, p20, p21, p22, p23, p24, p25, p26, p27, p28⟩ := X2.out
                  go_wp2_with (fail)
                  refine (isEmpty_any c R2.out W2.out).mono ?_
                  rintro e w3 ⟨rfl, hb⟩
                  have B3 := Lib.hid (below_on B2.out hb)
                  have X3 := Lib.hid (X2.out.on hb)
                  have R3 := Lib.hid (R2.out.below hb)
                  have W3 := Lib.hid (W2.out.below hb)
                  clear hb B2 X2 R2 W2
                  clear l2 p20 p21 p22 p23 p24 p25 p26 p27 p28
                  obtain ⟨l3, p30, p31, p32, p33, p34, p35, p36, p37, p38⟩ := X3.out
                  go_wp2_with (fail)
                  refine (areReads_any _ _ R3.out hl).mono ?_
                  rintro e w4 ⟨rfl, hb⟩
                  have B4 := Lib.hid (below_on B3.out hb)
                  have X4 := Lib.hid (X3.out.on hb)
                  have R4 := Lib.hid (R3.out.below hb)
                  have W4 := Lib.hid (W3.out.below hb)
                  clear hb B3 X3 R3 W3
                  clear l3 p30 p31 p32 p33 p34 p35 p36 p37 p38
                  obtain ⟨l4, p40, p41, p42, p43, p44, p45, p46, p47, p48⟩ := X4.out
                  go_wp2_with (fail)
                  refine (areWrites_any W4.out hl').mono ?_
                  rintro e w5 ⟨rfl, hb⟩
                  have B5 := Lib.hid (below_on B4.out hb)
                  have X5 := Lib.hid (X4.out.on hb)
                  have R5 := Lib.hid (R4.out.below hb)
                  have W5 := Lib.hid (W4.out.below hb)
                  clear hb B4 X4 R4 W4
                  clear l4 p40 p41 p42 p43 p44 p45 p46 p47 p48
                  obtain ⟨l5, p50, p51, p52, p53, p54, p55, p56, p57, p58⟩ := X5.out
                  go_wp2
                  go_ret
                  exact ⟨ret_bool HE.out.symm, B5.out⟩
                · have HE := Lib.hid (show M.transB c = false by unfold M.transB; rw [e0, e1, decide_eq_true e2, decide_eq_true e3, decide_eq_true e4, decide_eq_true e5, e6, e7]; rfl)
                  clear e3
                  go_enter Try.func68, Try.ntmps68
                  go_wp2_with (fail)
                  refine (rightTxn_any _ _ _).mono ?_
                  rintro e w1 ⟨rfl, hb⟩
                  have B1 := Lib.hid (below_on B0.out hb)
                  have X1 := Lib.hid (X0.out.on hb)
                  have R1 := Lib.hid (R0.out.below hb)
                  have W1 := Lib.hid (W0.out.below hb)
                  clear hb B0 X0 R0 W0
                  obtain ⟨l1, p10, p11, p12, p13, p14, p15, p16, p17, p18⟩ := X1.out
                  go_wp2_with (fail)
                  refine (rightStamp_any _ _ _).mono ?_
                  rintro e w2 ⟨rfl, hb⟩
                  have B2 := Lib.hid (below_on B1.out hb)
                  have X2 := Lib.hid (X1.out.on hb)
                  have R2 := Lib.hid (R1.out.below hb)
                  have W2 := Lib.hid (W1.out.below hb)
                  clear hb B1 X1 R1 W1
                  clear l1 p10 p11 p12 p13 p14 p15 p16 p17 p18
                  obtain ⟨l2, p20, p21, p22, p23, p24, p25, p26, p27, p28⟩ := X2.out
                  go_wp2_with (fail)
                  refine (isEmpty_any c R2.out W2.out).mono ?_
                  rintro e w3 ⟨rfl, hb⟩
                  have B3 := Lib.hid (below_on B2.out hb)
                  have X3 := Lib.hid (X2.out.on hb)
                  have R3 := Lib.hid (R2.out.below hb)
                  have W3 := Lib.hid (W2.out.below hb)
                  clear hb B2 X2 R2 W2
                  clear l2 p20 p21 p22 p23 p24 p25 p26 p27 p28
                  obtain ⟨l3, p30, p31, p32, p33, p34, p35, p36, p37, p38⟩ := X3.out
                  go_wp2_with (fail)
                  refine (areReads_any _ _ R3.out hl).mono ?_
                  rintro e w4 ⟨rfl, hb⟩
                  have B4 := Lib.hid (below_on B3.out hb)
                  have X4 := Lib.hid (X3.out.on hb)
                  have R4 := Lib.hid (R3.out.below hb)
                  have W4 := Lib.hid (W3.out.below hb)
                  clear hb B3 X3 R3 W3
                  clear l3 p30 p31 p32 p33 p34 p35 p36 p37 p38
                  obtain ⟨l4, p40, p41, p42, p43, p44, p45, p46, p47, p48⟩ := X4.out
                  go_wp2
                  go_ret
                  exact ⟨ret_bool HE.out.symm, B4.out⟩
            · have HE := Lib.hid (show M.transB c = false by unfold M.transB; rw [e0, e1, decide_eq_true e2, decide_eq_true e3, decide_eq_true e4, decide_eq_false e5]; rfl)
              clear e3
              go_enter Try.func68, Try.ntmps68
              go_wp2_with (fail)
              refine (rightTxn_any _ _ _).mono ?_
              rintro e w1 ⟨rfl, hb⟩
              have B1 := Lib.hid (below_on B0.out hb)
              have X1 := Lib.hid (X0.out.on hb)
              have R1 := Lib.hid (R0.out.below hb)
              have W1 := Lib.hid (W0.out.below hb)
              clear hb B0 X0 R0 W0
              obtain ⟨l1, p10, p11, p12, p13, p14, p15, p16, p17, p18⟩ := X1.out
              go_wp2_with (fail)
              refine (rightStamp_any _ _ _).mono ?_
              rintro e w2 ⟨rfl, hb⟩
              have B2 := Lib.hid (below_on B1.out hb)
              have X2 := Lib.hid (X1.out.on hb)
              have R2 := Lib.hid (R1.out.below hb)
              have W2 := Lib.hid (W1.out.below hb)
              clear hb B1 X1 R1 W1
              clear l1 p10 p11 p12 p13 p14 p15 p16 p17 p18
              obtain ⟨l2, p20, p21, p22, p23, p24, p25, p26, p27, p28⟩ := X2.out
              go_wp2
              go_ret
              exact ⟨ret_bool HE.out.symm, B2.out⟩
          · have HE := Lib.hid (show M.transB c = false by unfold M.transB; rw [e0, e1, decide_eq_true e2, decide_eq_true e3, decide_eq_false e4]; rfl)
            clear e3
            go_enter Try.func68, Try.ntmps68
            go_wp2_with (fail)
            refine (rightTxn_any _ _ _).mono ?_
            rintro e w1 ⟨rfl, hb⟩
            have B1 := Lib.hid (below_on B0.out hb)
            have X1 := Lib.hid (X0.out.on hb)
            have R1 := Lib.hid (R0.out.below hb)
            have W1 := Lib.hid (W0.out.below hb)
            clear hb B0 X0 R0 W0
            obtain ⟨l1, p10, p11, p12, p13, p14, p15, p16, p17, p18⟩ := X1.out
            go_wp2_with (fail)
            refine (rightStamp_any _ _ _).mono ?_
            rintro e w2 ⟨rfl, hb⟩
            have B2 := Lib.hid (below_on B1.out hb)
            have X2 := Lib.hid (X1.out.on hb)
            have R2 := Lib.hid (R1.out.below hb)
            have W2 := Lib.hid (W1.out.below hb)
            clear hb B1 X1 R1 W1
            clear l1 p10 p11 p12 p13 p14 p15 p16 p17 p18
            obtain ⟨l2, p20, p21, p22, p23, p24, p25, p26, p27, p28⟩ := X2.out
            go_wp2
            go_ret
            exact ⟨ret_bool HE.out.symm, B2.out⟩
        · obtain ⟨q3a, q3b⟩ := neI e3
          have HE := Lib.hid (show M.transB c = false by unfold M.transB; rw [e0, e1, decide_eq_true e2, decide_eq_false e3]; rfl)
          clear e3
          go_enter Try.func68, Try.ntmps68
          go_wp2_with (fail)
          refine (rightTxn_any _ _ _).mono ?_
          rintro e w1 ⟨rfl, hb⟩
          have B1 := Lib.hid (below_on B0.out hb)
          have X1 := Lib.hid (X0.out.on hb)
          have R1 := Lib.hid (R0.out.below hb)
          have W1 := Lib.hid (W0.out.below hb)
          clear hb B0 X0 R0 W0
          obtain ⟨l1, p10, p11, p12, p13, p14, p15, p16, p17, p18⟩ := X1.out
          go_wp2_with (fail)
          refine (rightStamp_any _ _ _).mono ?_
          rintro e w2 ⟨rfl, hb⟩
          have B2 := Lib.hid (below_on B1.out hb)
          have X2 := Lib.hid (X1.out.on hb)
          have R2 := Lib.hid (R1.out.below hb)
          have W2 := Lib.hid (W1.out.below hb)
          clear hb B1 X1 R1 W1
          clear l1 p10 p11 p12 p13 p14 p15 p16 p17 p18
          obtain ⟨l2, p20, p21, p22, p23, p24, p25, p26, p27, p28⟩ := X2.out
          go_wp2
          go_ret
          exact ⟨ret_bool HE.out.symm, B2.out⟩
      · have HE := Lib.hid (show M.transB c = false by unfold M.transB; rw [e0, e1, decide_eq_false e2]; rfl)
        go_enter Try.func68, Try.ntmps68
        go_wp2_with (fail)
        refine (rightTxn_any _ _ _).mono ?_
        rintro e w1 ⟨rfl, hb⟩
        have B1 := Lib.hid (below_on B0.out hb)
        have X1 := Lib.hid (X0.out.on hb)
        have R1 := Lib.hid (R0.out.below hb)
        have W1 := Lib.hid (W0.out.below hb)
        clear hb B0 X0 R0 W0
        obtain ⟨l1, p10, p11, p12, p13, p14, p15, p16, p17, p18⟩ := X1.out
        go_wp2_with (fail)
        refine (rightStamp_any _ _ _).mono ?_
        rintro e w2 ⟨rfl, hb⟩
        have B2 := Lib.hid (below_on B1.out hb)
        have X2 := Lib.hid (X1.out.on hb)
        have R2 := Lib.hid (R1.out.below hb)
        have W2 := Lib.hid (W1.out.below hb)
        clear hb B1 X1 R1 W1
        clear l1 p10 p11 p12 p13 p14 p15 p16 p17 p18
        obtain ⟨l2, p20, p21, p22, p23, p24, p25, p26, p27, p28⟩ := X2.out
        go_wp2
        go_ret
        exact ⟨ret_bool HE.out.symm, B2.out⟩
    · have HE := Lib.hid (show M.transB c = false by unfold M.transB; rw [e0, e1]; rfl)
      go_enter Try.func68, Try.ntmps68
      go_wp2_with (fail)
      refine (rightTxn_any _ _ _).mono ?_
      rintro e w1 ⟨rfl, hb⟩
      have B1 := Lib.hid (below_on B0.out hb)
      have X1 := Lib.hid (X0.out.on hb)
      have R1 := Lib.hid (R0.out.below hb)
      have W1 := Lib.hid (W0.out.below hb)
      clear hb B0 X0 R0 W0
      obtain ⟨l1, p10, p11, p12, p13, p14, p15, p16, p17, p18⟩ := X1.out
      go_wp2_with (fail)
      refine (rightStamp_any _ _ _).mono ?_
      rintro e w2 ⟨rfl, hb⟩
      have B2 := Lib.hid (below_on B1.out hb)
      have X2 := Lib.hid (X1.out.on hb)
      have R2 := Lib.hid (R1.out.below hb)
      have W2 := Lib.hid (W1.out.below hb)
      clear hb B1 X1 R1 W1
      clear l1 p10 p11 p12 p13 p14 p15 p16 p17 p18
      obtain ⟨l2, p20, p21, p22, p23, p24, p25, p26, p27, p28⟩ := X2.out
      go_wp2
      go_ret
      exact ⟨ret_bool HE.out.symm, B2.out⟩
  · have HE := Lib.hid (show M.transB c = false by unfold M.transB; rw [e0]; rfl)
    go_enter Try.func68, Try.ntmps68
    go_wp2_with (fail)
    refine (rightTxn_any _ _ _).mono ?_
    rintro e w1 ⟨rfl, hb⟩
    have B1 := Lib.hid (below_on B0.out hb)
    have X1 := Lib.hid (X0.out.on hb)
    have R1 := Lib.hid (R0.out.below hb)
    have W1 := Lib.hid (W0.out.below hb)
    clear hb B0 X0 R0 W0
    obtain ⟨l1, p10, p11, p12, p13, p14, p15, p16, p17, p18⟩ := X1.out
    go_wp2
    go_ret
    exact ⟨ret_bool HE.out.symm, B1.out⟩
end Go.Proofs.Ytagngbdlpdilnaa
