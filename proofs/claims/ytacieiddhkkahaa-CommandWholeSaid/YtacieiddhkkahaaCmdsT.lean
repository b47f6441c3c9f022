/- Contract of Part at what may be; no conditions but the lengths that it names. -/
import Derived.Test.YtacieiddhkkahaaCmdsS
namespace Go.Proofs.Ytacieiddhkkahaa
open Go.ChangeShapes Go.WideShapes Go.ChangeAt Go.RowKit

theorem store_func (w : World) (fn : Fn) (a b : Array Value) : (store ⟨w.heap.size, 0, none⟩ (.func fn a b)).run Try.prog (w.alloc (.cells #[.nilFunc] 56)) = .ok () (w.alloc (.cells #[.func fn a b] 56)) := by
  rw [run_store _ _ _ _ _ rfl]
  go_simp

/-- A part, of memory that is new. -/
def PartPost (c : M.Cmd) (k n : Int) (w : World) (e : Ending) (w' : World) : Prop := ∃ va vb, e = .returned (.tuple #[.agg #[.int .i64 c.k, .int .i64 c.tc, .int .i64 c.tn, .int .i64 c.tt, .int .i64 c.tk, .int .i64 c.sh, va, vb, .bool c.cm], .int .i64 0]) ∧ Rds w' va (M.partR k n c.rs) ∧ Wrs w' vb (M.partW k n c.ws) ∧ Below w.heap.size w w'

set_option maxHeartbeats 8000000 in
set_option maxRecDepth 100000 in
theorem part_none {w : World} (c : M.Cmd) (k n : Int) {va vb : Value} (h : Rds w va c.rs) (h' : Wrs w vb c.ws) (hl : c.rs.length ≤ 1000) (hl' : c.ws.length ≤ 1000) (hd : M.pokB c n = true) (hv : M.voidB c k n = true) : Calls Try.prog 10 #[.agg #[.int .i64 c.k, .int .i64 c.tc, .int .i64 c.tn, .int .i64 c.tt, .int .i64 c.tk, .int .i64 c.sh, va, vb, .bool c.cm], .int .i64 k, .int .i64 n] w (fun e w' => e = .returned (.tuple #[.agg #[.int .i64 0, .int .i64 0, .int .i64 0, .int .i64 0, .int .i64 0, .int .i64 0, .slice none 0 0, .slice none 0 0, .bool false], .int .i64 10]) ∧ Below w.heap.size w w') := by
  have X0 := Lib.hid ((((Box.new w c va vb).push (.cells #[.int .i64 k] 3)).push (.cells #[.int .i64 n] 3)).push (.cells #[.int .i64 0, .int .i64 0, .int .i64 0, .int .i64 0, .int .i64 0, .int .i64 0, .slice none 0 0, .slice none 0 0, .bool false] 29))
  have Y0 := Lib.hid (show Box ((((w.alloc (.cells #[.int .i64 c.k, .int .i64 c.tc, .int .i64 c.tn, .int .i64 c.tt, .int .i64 c.tk, .int .i64 c.sh, va, vb, .bool c.cm] 29)).alloc (.cells #[.int .i64 k] 3)).alloc (.cells #[.int .i64 n] 3)).alloc (.cells #[.int .i64 0, .int .i64 0, .int .i64 0, .int .i64 0, .int .i64 0, .int .i64 0, .slice none 0 0, .slice none 0 0, .bool false] 29)) (w.heap.size + 1 + 1 + 1) M.zero (.slice none 0 0) (.slice none 0 0) from Box.new' _ M.zero _ _ (by simp))
  have R0 := Lib.hid ((((h.push (.cells #[.int .i64 c.k, .int .i64 c.tc, .int .i64 c.tn, .int .i64 c.tt, .int .i64 c.tk, .int .i64 c.sh, va, vb, .bool c.cm] 29)).push (.cells #[.int .i64 k] 3)).push (.cells #[.int .i64 n] 3)).push (.cells #[.int .i64 0, .int .i64 0, .int .i64 0, .int .i64 0, .int .i64 0, .int .i64 0, .slice none 0 0, .slice none 0 0, .bool false] 29))
  have W0 := Lib.hid ((((h'.push (.cells #[.int .i64 c.k, .int .i64 c.tc, .int .i64 c.tn, .int .i64 c.tt, .int .i64 c.tk, .int .i64 c.sh, va, vb, .bool c.cm] 29)).push (.cells #[.int .i64 k] 3)).push (.cells #[.int .i64 n] 3)).push (.cells #[.int .i64 0, .int .i64 0, .int .i64 0, .int .i64 0, .int .i64 0, .int .i64 0, .slice none 0 0, .slice none 0 0, .bool false] 29))
  have B0 := Lib.hid (below_new (o := .cells #[.int .i64 0, .int .i64 0, .int .i64 0, .int .i64 0, .int .i64 0, .int .i64 0, .slice none 0 0, .slice none 0 0, .bool false] 29) (below_new (o := .cells #[.int .i64 n] 3) (below_new (o := .cells #[.int .i64 k] 3) (below_new (o := .cells #[.int .i64 c.k, .int .i64 c.tc, .int .i64 c.tn, .int .i64 c.tt, .int .i64 c.tk, .int .i64 c.sh, va, vb, .bool c.cm] 29) (Below.refl w.heap.size w)))))
  have T0 := Lib.hid (show Soft9 ((((w.alloc (.cells #[.int .i64 c.k, .int .i64 c.tc, .int .i64 c.tn, .int .i64 c.tt, .int .i64 c.tk, .int .i64 c.sh, va, vb, .bool c.cm] 29)).alloc (.cells #[.int .i64 k] 3)).alloc (.cells #[.int .i64 n] 3)).alloc (.cells #[.int .i64 0, .int .i64 0, .int .i64 0, .int .i64 0, .int .i64 0, .int .i64 0, .slice none 0 0, .slice none 0 0, .bool false] 29)) (w.heap.size + 1 + 1 + 1) from soft_new' _ _ _ (by simp))
  have N0 := Lib.hid (show World.cell? ((((w.alloc (.cells #[.int .i64 c.k, .int .i64 c.tc, .int .i64 c.tn, .int .i64 c.tt, .int .i64 c.tk, .int .i64 c.sh, va, vb, .bool c.cm] 29)).alloc (.cells #[.int .i64 k] 3)).alloc (.cells #[.int .i64 n] 3)).alloc (.cells #[.int .i64 0, .int .i64 0, .int .i64 0, .int .i64 0, .int .i64 0, .int .i64 0, .slice none 0 0, .slice none 0 0, .bool false] 29)) ⟨w.heap.size + 1 + 1, 0, none⟩ = some (.int .i64 n) from cell_push (cell_new' _ _ _ (by simp)) _)
  have K0 := Lib.hid (show World.cell? ((((w.alloc (.cells #[.int .i64 c.k, .int .i64 c.tc, .int .i64 c.tn, .int .i64 c.tt, .int .i64 c.tk, .int .i64 c.sh, va, vb, .bool c.cm] 29)).alloc (.cells #[.int .i64 k] 3)).alloc (.cells #[.int .i64 n] 3)).alloc (.cells #[.int .i64 0, .int .i64 0, .int .i64 0, .int .i64 0, .int .i64 0, .int .i64 0, .slice none 0 0, .slice none 0 0, .bool false] 29)) ⟨w.heap.size + 1, 0, none⟩ = some (.int .i64 k) from cell_push (cell_push (cell_new' _ _ _ (by simp)) _) _)
  clear h h'
  have e : M.rightC c = true := by unfold M.pokB at hd; simp only [Bool.and_eq_true] at hd; exact hd.1
  have ek : ¬ c.k = 0 := by unfold M.pokB at hd; simp only [Bool.and_eq_true, Bool.not_eq_true', decide_eq_false_iff_not] at hd; exact hd.2.1
  have h1 : 1 ≤ n := by unfold M.pokB at hd; simp only [Bool.and_eq_true, decide_eq_true_eq] at hd; exact hd.2.2.1
  have h4 : n ≤ 4 := by unfold M.pokB at hd; simp only [Bool.and_eq_true, decide_eq_true_eq] at hd; exact hd.2.2.2
  obtain ⟨q1, q2⟩ := neI ek
  clear ek hd
  have hv2 : M.emptyB (M.cut c k n).rs.length (M.cut c k n).ws.length = true := hv
  clear hv
  go_enter Try.func10, Try.ntmps10
  go_wp2_with (fail)
  refine (right_cmd c R0.out W0.out hl hl').mono ?_
  rintro e w1 ⟨rfl, hb⟩
  have X1 := Lib.hid (X0.out.on hb)
  have Y1 := Lib.hid (Y0.out.on hb)
  have R1 := Lib.hid (R0.out.below hb)
  have W1 := Lib.hid (W0.out.below hb)
  have B1 := Lib.hid (below_on B0.out hb)
  have T1 := Lib.hid (T0.out.on Y0.out.lt hb)
  have N1 := Lib.hid ((hb.cell (p := ⟨w.heap.size + 1 + 1, 0, none⟩) (by simp)).trans N0.out)
  have K1 := Lib.hid ((hb.cell (p := ⟨w.heap.size + 1, 0, none⟩) (by simp)).trans K0.out)
  clear hb X0 Y0 R0 W0 B0 T0 N0 K0
  obtain ⟨l0, p0, p1, p2, p3, p4, p5, p6, p7, p8⟩ := X1.out
  have n1 := N1.out
  have k1' := K1.out
  have ly := Y1.out.lt
  have s1 : w.heap.size ≤ w1.heap.size := B1.out.size
  have hmf := hmf
  have hsf := store_func w1
  have CP1 := Lib.hid (show Cap (w1.alloc (.cells #[.func (.func 26) #[] #[.pointer (some ⟨w.heap.size + 1 + 1, 0, none⟩), .pointer (some ⟨w.heap.size + 1, 0, none⟩)]] 56)) (w.heap.size + 1 + 1) (w.heap.size + 1) w1.heap.size n k from ⟨by simp; omega, by simp; omega, by simp, cell_push N1.out _, cell_push K1.out _, cell_new' _ _ _ rfl⟩)
  have SA := Lib.hid (show (w1.alloc (.cells #[.func (.func 26) #[] #[.pointer (some ⟨w.heap.size + 1 + 1, 0, none⟩), .pointer (some ⟨w.heap.size + 1, 0, none⟩)]] 56)).heap.size = w1.heap.size + 1 by simp)
  go_wp2_with (fail)
  refine (clone_any c (R1.out.push _) (W1.out.push _) hl hl').mono ?_
  rintro e w2 ⟨va2, vb2, rfl, o1, o2, hb⟩
  obtain ⟨A1, j1, rfl⟩ := ownsRow_slice o1
  obtain ⟨A2, j2, rfl⟩ := ownsRow_slice o2
  have O1 := Lib.hid o1
  have O2 := Lib.hid o2
  have Y2 := Lib.hid ((Y1.out.push (.cells #[.func (.func 26) #[] #[.pointer (some ⟨w.heap.size + 1 + 1, 0, none⟩), .pointer (some ⟨w.heap.size + 1, 0, none⟩)]] 56)).on hb)
  have T2 := Lib.hid ((soft_push T1.out Y1.out.lt (.cells #[.func (.func 26) #[] #[.pointer (some ⟨w.heap.size + 1 + 1, 0, none⟩), .pointer (some ⟨w.heap.size + 1, 0, none⟩)]] 56)).on (Y1.out.push (.cells #[.func (.func 26) #[] #[.pointer (some ⟨w.heap.size + 1 + 1, 0, none⟩), .pointer (some ⟨w.heap.size + 1, 0, none⟩)]] 56)).lt hb)
  have B2 := Lib.hid (below_on (below_new B1.out) hb)
  have CP2 := Lib.hid (CP1.out.on hb)
  have s2 : w1.heap.size + 1 ≤ w2.heap.size := by have := hb.size; rw [SA.out] at this; exact this
  clear o1 o2 hb X1 Y1 R1 W1 B1 T1 N1 K1 CP1 n1 k1' hsf l0 p0 p1 p2 p3 p4 p5 p6 p7 p8
  have PX := Lib.hid (Box.new w2 c (.slice A1 c.rs.length j1) (.slice A2 c.ws.length j2))
  have PT := Lib.hid (soft_new w2 #[.int .i64 c.k, .int .i64 c.tc, .int .i64 c.tn, .int .i64 c.tt, .int .i64 c.tk, .int .i64 c.sh, .slice A1 c.rs.length j1, .slice A2 c.ws.length j2, .bool c.cm] 29)
  go_wp2_with (fail)
  refine (deleteR_any (O1.out.alloc (.cells #[.int .i64 c.k, .int .i64 c.tc, .int .i64 c.tn, .int .i64 c.tt, .int .i64 c.tk, .int .i64 c.sh, .slice A1 c.rs.length j1, .slice A2 c.ws.length j2, .bool c.cm] 29)) hl (CP2.out.push _) (by rw [SA.out]; omega) (by rw [SA.out]; omega) (by rw [SA.out]; omega)).mono ?_
  rintro e w3 ⟨v3, rfl, o3, g3, b3⟩
  obtain ⟨A3, j3, rfl⟩ := ownsRow_slice o3
  have ne2 := own_ne (b := w2.heap.size) O1.out (.inr (Nat.le_refl _))
  have P3 := Lib.hid (PX.out.far g3 ne2)
  have U3 := Lib.hid (PT.out.far PX.out.lt g3 ne2)
  have Y3 := Lib.hid ((Y2.out.push (.cells #[.int .i64 c.k, .int .i64 c.tc, .int .i64 c.tn, .int .i64 c.tt, .int .i64 c.tk, .int .i64 c.sh, .slice A1 c.rs.length j1, .slice A2 c.ws.length j2, .bool c.cm] 29)).far g3 (own_ne O1.out (.inl (by rw [SA.out]; omega))))
  have T3 := Lib.hid ((soft_push T2.out Y2.out.lt (.cells #[.int .i64 c.k, .int .i64 c.tc, .int .i64 c.tn, .int .i64 c.tt, .int .i64 c.tk, .int .i64 c.sh, .slice A1 c.rs.length j1, .slice A2 c.ws.length j2, .bool c.cm] 29)).far (Y2.out.push (.cells #[.int .i64 c.k, .int .i64 c.tc, .int .i64 c.tn, .int .i64 c.tt, .int .i64 c.tk, .int .i64 c.sh, .slice A1 c.rs.length j1, .slice A2 c.ws.length j2, .bool c.cm] 29)).lt g3 (own_ne O1.out (.inl (by rw [SA.out]; omega))))
  have CP3 := Lib.hid ((CP2.out.push (.cells #[.int .i64 c.k, .int .i64 c.tc, .int .i64 c.tn, .int .i64 c.tt, .int .i64 c.tk, .int .i64 c.sh, .slice A1 c.rs.length j1, .slice A2 c.ws.length j2, .bool c.cm] 29)).away g3 (own_ne O1.out (.inl (by rw [SA.out]; omega))) (own_ne O1.out (.inl (by rw [SA.out]; omega))) (own_ne O1.out (.inl (by rw [SA.out]; omega))))
  have O3 := Lib.hid o3
  have E3 := Lib.hid (show some w2.heap.size ≠ (Value.slice A3 (M.partR k n c.rs).length j3).ownBlock by rw [b3]; exact ne2)
  have Q3 := Lib.hid ((O2.out.alloc (.cells #[.int .i64 c.k, .int .i64 c.tc, .int .i64 c.tn, .int .i64 c.tt, .int .i64 c.tk, .int .i64 c.sh, .slice A1 c.rs.length j1, .slice A2 c.ws.length j2, .bool c.cm] 29)).kept g3 (apart (O1.out.alloc (.cells #[.int .i64 c.k, .int .i64 c.tc, .int .i64 c.tn, .int .i64 c.tt, .int .i64 c.tk, .int .i64 c.sh, .slice A1 c.rs.length j1, .slice A2 c.ws.length j2, .bool c.cm] 29)) (O2.out.alloc (.cells #[.int .i64 c.k, .int .i64 c.tc, .int .i64 c.tn, .int .i64 c.tt, .int .i64 c.tk, .int .i64 c.sh, .slice A1 c.rs.length j1, .slice A2 c.ws.length j2, .bool c.cm] 29))).2)
  have F3 := Lib.hid (own_ne (b := w2.heap.size) O2.out (.inr (Nat.le_refl _)))
  have B3 := Lib.hid ((below_new (o := .cells #[.int .i64 c.k, .int .i64 c.tc, .int .i64 c.tn, .int .i64 c.tt, .int .i64 c.tk, .int .i64 c.sh, .slice A1 c.rs.length j1, .slice A2 c.ws.length j2, .bool c.cm] 29) B2.out).grown g3 (by simp; omega) (fun i hi => by have := (O1.out.lt i hi).1; rw [SA.out] at this; omega))
  have s3 : w2.heap.size + 1 ≤ w3.heap.size := by have := g3.size; simpa using this
  clear o3 g3 b3 ne2 PX PT Y2 T2 CP2 O1 O2 B2
  obtain ⟨lp, a0, a1, a2, a3, a4, a5, a6, a7, a8⟩ := P3.out
  have z6 : w3.frozen? ⟨w2.heap.size, 6, none⟩ = false := U3.out 6
  have gs := grown_set w3 ⟨w2.heap.size, 6, none⟩ (.slice A3 (M.partR k n c.rs).length j3)
  have P4 := Lib.hid (P3.out.set6 (.slice A3 (M.partR k n c.rs).length j3))
  have U4 := Lib.hid (show Soft9 (w3.setCell ⟨w2.heap.size, 6, none⟩ (.slice A3 (M.partR k n c.rs).length j3)) w2.heap.size from fun o => by rw [World.frozen?_setCell]; exact U3.out o)
  have Y4 := Lib.hid (Y3.out.far gs (fun e => by have := Option.some.inj e; dsimp only at this; omega))
  have T4 := Lib.hid (T3.out.far Y3.out.lt gs (fun e => by have := Option.some.inj e; dsimp only at this; omega))
  have CP4 := Lib.hid (CP3.out.away gs (fun e => by have := Option.some.inj e; dsimp only at this; omega) (fun e => by have := Option.some.inj e; dsimp only at this; omega) (fun e => by have := Option.some.inj e; dsimp only at this; omega))
  have O4 := Lib.hid (O3.out.kept gs (.inr (fun e => E3.out e.symm)))
  have Q4 := Lib.hid (Q3.out.kept gs (.inr (fun e => F3.out e.symm)))
  have B4 := Lib.hid (B3.out.setCell (p := ⟨w2.heap.size, 6, none⟩) (by dsimp only; omega) (.slice A3 (M.partR k n c.rs).length j3))
  clear gs P3 U3 Y3 T3 CP3 O3 Q3 B3
  go_wp2_with (fail)
  have s4 : (w3.setCell ⟨w2.heap.size, 6, none⟩ (.slice A3 (M.partR k n c.rs).length j3)).heap.size = w3.heap.size := by simp [World.setCell]
  have S4 := Lib.hid s4
  clear s4 z6 lp a0 a1 a2 a3 a4 a5 a6 a7 a8
  generalize (w3.setCell ⟨w2.heap.size, 6, none⟩ (.slice A3 (M.partR k n c.rs).length j3)) = w4 at *
  refine (deleteW_any Q4.out hl' CP4.out (by rw [SA.out]; omega) (by rw [SA.out]; omega) (by rw [SA.out]; omega)).mono ?_
  rintro e w5 ⟨v4, rfl, o5, g5, b5⟩
  obtain ⟨A4, j4, rfl⟩ := ownsRow_slice o5
  have P5 := Lib.hid (P4.out.far g5 F3.out)
  have U5 := Lib.hid (U4.out.far P4.out.lt g5 F3.out)
  have Y5 := Lib.hid (Y4.out.far g5 (own_ne Q4.out (.inl (by rw [SA.out]; omega))))
  have T5 := Lib.hid (T4.out.far Y4.out.lt g5 (own_ne Q4.out (.inl (by rw [SA.out]; omega))))
  have O5 := Lib.hid (O4.out.kept g5 (apart O4.out Q4.out).1)
  have Q5 := Lib.hid o5
  have F5 := Lib.hid (show some w2.heap.size ≠ (Value.slice A4 (M.partW k n c.ws).length j4).ownBlock by rw [b5]; exact F3.out)
  have B5 := Lib.hid (B4.out.grown g5 (by rw [S4.out]; omega) (fun i hi => by have := (Q4.out.lt i hi).1; rw [SA.out] at this; omega))
  have s5 : w3.heap.size ≤ w5.heap.size := by have := g5.size; rw [S4.out] at this; exact this
  clear o5 g5 b5 P4 U4 Y4 T4 CP4 O4 Q4 B4
  obtain ⟨lp, a0, a1, a2, a3, a4, a5, a6, a7, a8⟩ := P5.out
  have z7 : w5.frozen? ⟨w2.heap.size, 7, none⟩ = false := U5.out 7
  have gs := grown_set w5 ⟨w2.heap.size, 7, none⟩ (.slice A4 (M.partW k n c.ws).length j4)
  have P6 := Lib.hid (P5.out.set7 (.slice A4 (M.partW k n c.ws).length j4))
  have Y6 := Lib.hid (Y5.out.far gs (fun e => by have := Option.some.inj e; dsimp only at this; omega))
  have T6 := Lib.hid (T5.out.far Y5.out.lt gs (fun e => by have := Option.some.inj e; dsimp only at this; omega))
  have O6 := Lib.hid (O5.out.kept gs (.inr (fun e => E3.out e.symm)))
  have Q6 := Lib.hid (Q5.out.kept gs (.inr (fun e => F5.out e.symm)))
  have B6 := Lib.hid (B5.out.setCell (p := ⟨w2.heap.size, 7, none⟩) (by dsimp only; omega) (.slice A4 (M.partW k n c.ws).length j4))
  have S6 := Lib.hid (show (w5.setCell ⟨w2.heap.size, 7, none⟩ (.slice A4 (M.partW k n c.ws).length j4)).heap.size = w5.heap.size by simp [World.setCell])
  clear gs P5 U5 Y5 T5 O5 Q5 B5
  go_wp2_with (fail)
  clear z7 lp a0 a1 a2 a3 a4 a5 a6 a7 a8
  generalize (w5.setCell ⟨w2.heap.size, 7, none⟩ (.slice A4 (M.partW k n c.ws).length j4)) = w6 at *
  refine (isEmpty_any (M.cut c k n) (show Rds w6 _ (M.cut c k n).rs from RowN.of_owns O6.out) (show Wrs w6 _ (M.cut c k n).ws from RowN.of_owns Q6.out)).mono ?_
  rintro e w7 ⟨rfl, hb⟩
  have P7 := Lib.hid (P6.out.on hb)
  have Y7 := Lib.hid (Y6.out.on hb)
  have T7 := Lib.hid (T6.out.on Y6.out.lt hb)
  have O7 := Lib.hid (ownsRow_on O6.out hb)
  have Q7 := Lib.hid (ownsRow_on Q6.out hb)
  have B7 := Lib.hid (B6.out.trans (hb.mono (by rw [S6.out]; omega)))
  have s7 : w5.heap.size ≤ w7.heap.size := by have := hb.size; rw [S6.out] at this; exact this
  clear hb P6 Y6 T6 O6 Q6 B6
  obtain ⟨lp, a0, a1, a2, a3, a4, a5, a6, a7, a8⟩ := P7.out
  obtain ⟨m1, y0, y1, y2, y3, y4, y5, y6, y7, y8⟩ := Y7.out
  have hz : ∀ o, w7.frozen? ⟨w.heap.size + 1 + 1 + 1, o, none⟩ = false := T7.out
  go_wp2
  refine bodyPost_ret (v := .tuple #[.agg #[.int .i64 0, .int .i64 0, .int .i64 0, .int .i64 0, .int .i64 0, .int .i64 0, .slice none 0 0, .slice none 0 0, .bool false], .int .i64 10]) (by simp [results, Try.results10, go_sem, y0, y1, y2, y3, y4, y5, y6, y7, y8]) rfl ?_
  exact ⟨rfl, below_set9 B7.out (by omega) _ _ _ _ _ _ _ _ _⟩
set_option maxHeartbeats 8000000 in
set_option maxRecDepth 100000 in
theorem part_some {w : World} (c : M.Cmd) (k n : Int) {va vb : Value} (h : Rds w va c.rs) (h' : Wrs w vb c.ws) (hl : c.rs.length ≤ 1000) (hl' : c.ws.length ≤ 1000) (hd : M.pokB c n = true) (hv : M.voidB c k n = false) : Calls Try.prog 10 #[.agg #[.int .i64 c.k, .int .i64 c.tc, .int .i64 c.tn, .int .i64 c.tt, .int .i64 c.tk, .int .i64 c.sh, va, vb, .bool c.cm], .int .i64 k, .int .i64 n] w (PartPost c k n w) := by
  have X0 := Lib.hid ((((Box.new w c va vb).push (.cells #[.int .i64 k] 3)).push (.cells #[.int .i64 n] 3)).push (.cells #[.int .i64 0, .int .i64 0, .int .i64 0, .int .i64 0, .int .i64 0, .int .i64 0, .slice none 0 0, .slice none 0 0, .bool false] 29))
  have Y0 := Lib.hid (show Box ((((w.alloc (.cells #[.int .i64 c.k, .int .i64 c.tc, .int .i64 c.tn, .int .i64 c.tt, .int .i64 c.tk, .int .i64 c.sh, va, vb, .bool c.cm] 29)).alloc (.cells #[.int .i64 k] 3)).alloc (.cells #[.int .i64 n] 3)).alloc (.cells #[.int .i64 0, .int .i64 0, .int .i64 0, .int .i64 0, .int .i64 0, .int .i64 0, .slice none 0 0, .slice none 0 0, .bool false] 29)) (w.heap.size + 1 + 1 + 1) M.zero (.slice none 0 0) (.slice none 0 0) from Box.new' _ M.zero _ _ (by simp))
  have R0 := Lib.hid ((((h.push (.cells #[.int .i64 c.k, .int .i64 c.tc, .int .i64 c.tn, .int .i64 c.tt, .int .i64 c.tk, .int .i64 c.sh, va, vb, .bool c.cm] 29)).push (.cells #[.int .i64 k] 3)).push (.cells #[.int .i64 n] 3)).push (.cells #[.int .i64 0, .int .i64 0, .int .i64 0, .int .i64 0, .int .i64 0, .int .i64 0, .slice none 0 0, .slice none 0 0, .bool false] 29))
  have W0 := Lib.hid ((((h'.push (.cells #[.int .i64 c.k, .int .i64 c.tc, .int .i64 c.tn, .int .i64 c.tt, .int .i64 c.tk, .int .i64 c.sh, va, vb, .bool c.cm] 29)).push (.cells #[.int .i64 k] 3)).push (.cells #[.int .i64 n] 3)).push (.cells #[.int .i64 0, .int .i64 0, .int .i64 0, .int .i64 0, .int .i64 0, .int .i64 0, .slice none 0 0, .slice none 0 0, .bool false] 29))
  have B0 := Lib.hid (below_new (o := .cells #[.int .i64 0, .int .i64 0, .int .i64 0, .int .i64 0, .int .i64 0, .int .i64 0, .slice none 0 0, .slice none 0 0, .bool false] 29) (below_new (o := .cells #[.int .i64 n] 3) (below_new (o := .cells #[.int .i64 k] 3) (below_new (o := .cells #[.int .i64 c.k, .int .i64 c.tc, .int .i64 c.tn, .int .i64 c.tt, .int .i64 c.tk, .int .i64 c.sh, va, vb, .bool c.cm] 29) (Below.refl w.heap.size w)))))
  have T0 := Lib.hid (show Soft9 ((((w.alloc (.cells #[.int .i64 c.k, .int .i64 c.tc, .int .i64 c.tn, .int .i64 c.tt, .int .i64 c.tk, .int .i64 c.sh, va, vb, .bool c.cm] 29)).alloc (.cells #[.int .i64 k] 3)).alloc (.cells #[.int .i64 n] 3)).alloc (.cells #[.int .i64 0, .int .i64 0, .int .i64 0, .int .i64 0, .int .i64 0, .int .i64 0, .slice none 0 0, .slice none 0 0, .bool false] 29)) (w.heap.size + 1 + 1 + 1) from soft_new' _ _ _ (by simp))
  have N0 := Lib.hid (show World.cell? ((((w.alloc (.cells #[.int .i64 c.k, .int .i64 c.tc, .int .i64 c.tn, .int .i64 c.tt, .int .i64 c.tk, .int .i64 c.sh, va, vb, .bool c.cm] 29)).alloc (.cells #[.int .i64 k] 3)).alloc (.cells #[.int .i64 n] 3)).alloc (.cells #[.int .i64 0, .int .i64 0, .int .i64 0, .int .i64 0, .int .i64 0, .int .i64 0, .slice none 0 0, .slice none 0 0, .bool false] 29)) ⟨w.heap.size + 1 + 1, 0, none⟩ = some (.int .i64 n) from cell_push (cell_new' _ _ _ (by simp)) _)
  have K0 := Lib.hid (show World.cell? ((((w.alloc (.cells #[.int .i64 c.k, .int .i64 c.tc, .int .i64 c.tn, .int .i64 c.tt, .int .i64 c.tk, .int .i64 c.sh, va, vb, .bool c.cm] 29)).alloc (.cells #[.int .i64 k] 3)).alloc (.cells #[.int .i64 n] 3)).alloc (.cells #[.int .i64 0, .int .i64 0, .int .i64 0, .int .i64 0, .int .i64 0, .int .i64 0, .slice none 0 0, .slice none 0 0, .bool false] 29)) ⟨w.heap.size + 1, 0, none⟩ = some (.int .i64 k) from cell_push (cell_push (cell_new' _ _ _ (by simp)) _) _)
  clear h h'
  have e : M.rightC c = true := by unfold M.pokB at hd; simp only [Bool.and_eq_true] at hd; exact hd.1
  have ek : ¬ c.k = 0 := by unfold M.pokB at hd; simp only [Bool.and_eq_true, Bool.not_eq_true', decide_eq_false_iff_not] at hd; exact hd.2.1
  have h1 : 1 ≤ n := by unfold M.pokB at hd; simp only [Bool.and_eq_true, decide_eq_true_eq] at hd; exact hd.2.2.1
  have h4 : n ≤ 4 := by unfold M.pokB at hd; simp only [Bool.and_eq_true, decide_eq_true_eq] at hd; exact hd.2.2.2
  obtain ⟨q1, q2⟩ := neI ek
  clear ek hd
  have hv2 : M.emptyB (M.cut c k n).rs.length (M.cut c k n).ws.length = false := hv
  clear hv
  go_enter Try.func10, Try.ntmps10
  go_wp2_with (fail)
  refine (right_cmd c R0.out W0.out hl hl').mono ?_
  rintro e w1 ⟨rfl, hb⟩
  have X1 := Lib.hid (X0.out.on hb)
  have Y1 := Lib.hid (Y0.out.on hb)
  have R1 := Lib.hid (R0.out.below hb)
  have W1 := Lib.hid (W0.out.below hb)
  have B1 := Lib.hid (below_on B0.out hb)
  have T1 := Lib.hid (T0.out.on Y0.out.lt hb)
  have N1 := Lib.hid ((hb.cell (p := ⟨w.heap.size + 1 + 1, 0, none⟩) (by simp)).trans N0.out)
  have K1 := Lib.hid ((hb.cell (p := ⟨w.heap.size + 1, 0, none⟩) (by simp)).trans K0.out)
  clear hb X0 Y0 R0 W0 B0 T0 N0 K0
  obtain ⟨l0, p0, p1, p2, p3, p4, p5, p6, p7, p8⟩ := X1.out
  have n1 := N1.out
  have k1' := K1.out
  have ly := Y1.out.lt
  have s1 : w.heap.size ≤ w1.heap.size := B1.out.size
  have hmf := hmf
  have hsf := store_func w1
  have CP1 := Lib.hid (show Cap (w1.alloc (.cells #[.func (.func 26) #[] #[.pointer (some ⟨w.heap.size + 1 + 1, 0, none⟩), .pointer (some ⟨w.heap.size + 1, 0, none⟩)]] 56)) (w.heap.size + 1 + 1) (w.heap.size + 1) w1.heap.size n k from ⟨by simp; omega, by simp; omega, by simp, cell_push N1.out _, cell_push K1.out _, cell_new' _ _ _ rfl⟩)
  have SA := Lib.hid (show (w1.alloc (.cells #[.func (.func 26) #[] #[.pointer (some ⟨w.heap.size + 1 + 1, 0, none⟩), .pointer (some ⟨w.heap.size + 1, 0, none⟩)]] 56)).heap.size = w1.heap.size + 1 by simp)
  go_wp2_with (fail)
  refine (clone_any c (R1.out.push _) (W1.out.push _) hl hl').mono ?_
  rintro e w2 ⟨va2, vb2, rfl, o1, o2, hb⟩
  obtain ⟨A1, j1, rfl⟩ := ownsRow_slice o1
  obtain ⟨A2, j2, rfl⟩ := ownsRow_slice o2
  have O1 := Lib.hid o1
  have O2 := Lib.hid o2
  have Y2 := Lib.hid ((Y1.out.push (.cells #[.func (.func 26) #[] #[.pointer (some ⟨w.heap.size + 1 + 1, 0, none⟩), .pointer (some ⟨w.heap.size + 1, 0, none⟩)]] 56)).on hb)
  have T2 := Lib.hid ((soft_push T1.out Y1.out.lt (.cells #[.func (.func 26) #[] #[.pointer (some ⟨w.heap.size + 1 + 1, 0, none⟩), .pointer (some ⟨w.heap.size + 1, 0, none⟩)]] 56)).on (Y1.out.push (.cells #[.func (.func 26) #[] #[.pointer (some ⟨w.heap.size + 1 + 1, 0, none⟩), .pointer (some ⟨w.heap.size + 1, 0, none⟩)]] 56)).lt hb)
  have B2 := Lib.hid (below_on (below_new B1.out) hb)
  have CP2 := Lib.hid (CP1.out.on hb)
  have s2 : w1.heap.size + 1 ≤ w2.heap.size := by have := hb.size; rw [SA.out] at this; exact this
  clear o1 o2 hb X1 Y1 R1 W1 B1 T1 N1 K1 CP1 n1 k1' hsf l0 p0 p1 p2 p3 p4 p5 p6 p7 p8
  have PX := Lib.hid (Box.new w2 c (.slice A1 c.rs.length j1) (.slice A2 c.ws.length j2))
  have PT := Lib.hid (soft_new w2 #[.int .i64 c.k, .int .i64 c.tc, .int .i64 c.tn, .int .i64 c.tt, .int .i64 c.tk, .int .i64 c.sh, .slice A1 c.rs.length j1, .slice A2 c.ws.length j2, .bool c.cm] 29)
  go_wp2_with (fail)
  refine (deleteR_any (O1.out.alloc (.cells #[.int .i64 c.k, .int .i64 c.tc, .int .i64 c.tn, .int .i64 c.tt, .int .i64 c.tk, .int .i64 c.sh, .slice A1 c.rs.length j1, .slice A2 c.ws.length j2, .bool c.cm] 29)) hl (CP2.out.push _) (by rw [SA.out]; omega) (by rw [SA.out]; omega) (by rw [SA.out]; omega)).mono ?_
  rintro e w3 ⟨v3, rfl, o3, g3, b3⟩
  obtain ⟨A3, j3, rfl⟩ := ownsRow_slice o3
  have ne2 := own_ne (b := w2.heap.size) O1.out (.inr (Nat.le_refl _))
  have P3 := Lib.hid (PX.out.far g3 ne2)
  have U3 := Lib.hid (PT.out.far PX.out.lt g3 ne2)
  have Y3 := Lib.hid ((Y2.out.push (.cells #[.int .i64 c.k, .int .i64 c.tc, .int .i64 c.tn, .int .i64 c.tt, .int .i64 c.tk, .int .i64 c.sh, .slice A1 c.rs.length j1, .slice A2 c.ws.length j2, .bool c.cm] 29)).far g3 (own_ne O1.out (.inl (by rw [SA.out]; omega))))
  have T3 := Lib.hid ((soft_push T2.out Y2.out.lt (.cells #[.int .i64 c.k, .int .i64 c.tc, .int .i64 c.tn, .int .i64 c.tt, .int .i64 c.tk, .int .i64 c.sh, .slice A1 c.rs.length j1, .slice A2 c.ws.length j2, .bool c.cm] 29)).far (Y2.out.push (.cells #[.int .i64 c.k, .int .i64 c.tc, .int .i64 c.tn, .int .i64 c.tt, .int .i64 c.tk, .int .i64 c.sh, .slice A1 c.rs.length j1, .slice A2 c.ws.length j2, .bool c.cm] 29)).lt g3 (own_ne O1.out (.inl (by rw [SA.out]; omega))))
  have CP3 := Lib.hid ((CP2.out.push (.cells #[.int .i64 c.k, .int .i64 c.tc, .int .i64 c.tn, .int .i64 c.tt, .int .i64 c.tk, .int .i64 c.sh, .slice A1 c.rs.length j1, .slice A2 c.ws.length j2, .bool c.cm] 29)).away g3 (own_ne O1.out (.inl (by rw [SA.out]; omega))) (own_ne O1.out (.inl (by rw [SA.out]; omega))) (own_ne O1.out (.inl (by rw [SA.out]; omega))))
  have O3 := Lib.hid o3
  have E3 := Lib.hid (show some w2.heap.size ≠ (Value.slice A3 (M.partR k n c.rs).length j3).ownBlock by rw [b3]; exact ne2)
  have Q3 := Lib.hid ((O2.out.alloc (.cells #[.int .i64 c.k, .int .i64 c.tc, .int .i64 c.tn, .int .i64 c.tt, .int .i64 c.tk, .int .i64 c.sh, .slice A1 c.rs.length j1, .slice A2 c.ws.length j2, .bool c.cm] 29)).kept g3 (apart (O1.out.alloc (.cells #[.int .i64 c.k, .int .i64 c.tc, .int .i64 c.tn, .int .i64 c.tt, .int .i64 c.tk, .int .i64 c.sh, .slice A1 c.rs.length j1, .slice A2 c.ws.length j2, .bool c.cm] 29)) (O2.out.alloc (.cells #[.int .i64 c.k, .int .i64 c.tc, .int .i64 c.tn, .int .i64 c.tt, .int .i64 c.tk, .int .i64 c.sh, .slice A1 c.rs.length j1, .slice A2 c.ws.length j2, .bool c.cm] 29))).2)
  have F3 := Lib.hid (own_ne (b := w2.heap.size) O2.out (.inr (Nat.le_refl _)))
  have B3 := Lib.hid ((below_new (o := .cells #[.int .i64 c.k, .int .i64 c.tc, .int .i64 c.tn, .int .i64 c.tt, .int .i64 c.tk, .int .i64 c.sh, .slice A1 c.rs.length j1, .slice A2 c.ws.length j2, .bool c.cm] 29) B2.out).grown g3 (by simp; omega) (fun i hi => by have := (O1.out.lt i hi).1; rw [SA.out] at this; omega))
  have s3 : w2.heap.size + 1 ≤ w3.heap.size := by have := g3.size; simpa using this
  clear o3 g3 b3 ne2 PX PT Y2 T2 CP2 O1 O2 B2
  obtain ⟨lp, a0, a1, a2, a3, a4, a5, a6, a7, a8⟩ := P3.out
  have z6 : w3.frozen? ⟨w2.heap.size, 6, none⟩ = false := U3.out 6
  have gs := grown_set w3 ⟨w2.heap.size, 6, none⟩ (.slice A3 (M.partR k n c.rs).length j3)
  have P4 := Lib.hid (P3.out.set6 (.slice A3 (M.partR k n c.rs).length j3))
  have U4 := Lib.hid (show Soft9 (w3.setCell ⟨w2.heap.size, 6, none⟩ (.slice A3 (M.partR k n c.rs).length j3)) w2.heap.size from fun o => by rw [World.frozen?_setCell]; exact U3.out o)
  have Y4 := Lib.hid (Y3.out.far gs (fun e => by have := Option.some.inj e; dsimp only at this; omega))
  have T4 := Lib.hid (T3.out.far Y3.out.lt gs (fun e => by have := Option.some.inj e; dsimp only at this; omega))
  have CP4 := Lib.hid (CP3.out.away gs (fun e => by have := Option.some.inj e; dsimp only at this; omega) (fun e => by have := Option.some.inj e; dsimp only at this; omega) (fun e => by have := Option.some.inj e; dsimp only at this; omega))
  have O4 := Lib.hid (O3.out.kept gs (.inr (fun e => E3.out e.symm)))
  have Q4 := Lib.hid (Q3.out.kept gs (.inr (fun e => F3.out e.symm)))
  have B4 := Lib.hid (B3.out.setCell (p := ⟨w2.heap.size, 6, none⟩) (by dsimp only; omega) (.slice A3 (M.partR k n c.rs).length j3))
  clear gs P3 U3 Y3 T3 CP3 O3 Q3 B3
  go_wp2_with (fail)
  have s4 : (w3.setCell ⟨w2.heap.size, 6, none⟩ (.slice A3 (M.partR k n c.rs).length j3)).heap.size = w3.heap.size := by simp [World.setCell]
  have S4 := Lib.hid s4
  clear s4 z6 lp a0 a1 a2 a3 a4 a5 a6 a7 a8
  generalize (w3.setCell ⟨w2.heap.size, 6, none⟩ (.slice A3 (M.partR k n c.rs).length j3)) = w4 at *
  refine (deleteW_any Q4.out hl' CP4.out (by rw [SA.out]; omega) (by rw [SA.out]; omega) (by rw [SA.out]; omega)).mono ?_
  rintro e w5 ⟨v4, rfl, o5, g5, b5⟩
  obtain ⟨A4, j4, rfl⟩ := ownsRow_slice o5
  have P5 := Lib.hid (P4.out.far g5 F3.out)
  have U5 := Lib.hid (U4.out.far P4.out.lt g5 F3.out)
  have Y5 := Lib.hid (Y4.out.far g5 (own_ne Q4.out (.inl (by rw [SA.out]; omega))))
  have T5 := Lib.hid (T4.out.far Y4.out.lt g5 (own_ne Q4.out (.inl (by rw [SA.out]; omega))))
  have O5 := Lib.hid (O4.out.kept g5 (apart O4.out Q4.out).1)
  have Q5 := Lib.hid o5
  have F5 := Lib.hid (show some w2.heap.size ≠ (Value.slice A4 (M.partW k n c.ws).length j4).ownBlock by rw [b5]; exact F3.out)
  have B5 := Lib.hid (B4.out.grown g5 (by rw [S4.out]; omega) (fun i hi => by have := (Q4.out.lt i hi).1; rw [SA.out] at this; omega))
  have s5 : w3.heap.size ≤ w5.heap.size := by have := g5.size; rw [S4.out] at this; exact this
  clear o5 g5 b5 P4 U4 Y4 T4 CP4 O4 Q4 B4
  obtain ⟨lp, a0, a1, a2, a3, a4, a5, a6, a7, a8⟩ := P5.out
  have z7 : w5.frozen? ⟨w2.heap.size, 7, none⟩ = false := U5.out 7
  have gs := grown_set w5 ⟨w2.heap.size, 7, none⟩ (.slice A4 (M.partW k n c.ws).length j4)
  have P6 := Lib.hid (P5.out.set7 (.slice A4 (M.partW k n c.ws).length j4))
  have Y6 := Lib.hid (Y5.out.far gs (fun e => by have := Option.some.inj e; dsimp only at this; omega))
  have T6 := Lib.hid (T5.out.far Y5.out.lt gs (fun e => by have := Option.some.inj e; dsimp only at this; omega))
  have O6 := Lib.hid (O5.out.kept gs (.inr (fun e => E3.out e.symm)))
  have Q6 := Lib.hid (Q5.out.kept gs (.inr (fun e => F5.out e.symm)))
  have B6 := Lib.hid (B5.out.setCell (p := ⟨w2.heap.size, 7, none⟩) (by dsimp only; omega) (.slice A4 (M.partW k n c.ws).length j4))
  have S6 := Lib.hid (show (w5.setCell ⟨w2.heap.size, 7, none⟩ (.slice A4 (M.partW k n c.ws).length j4)).heap.size = w5.heap.size by simp [World.setCell])
  clear gs P5 U5 Y5 T5 O5 Q5 B5
  go_wp2_with (fail)
  clear z7 lp a0 a1 a2 a3 a4 a5 a6 a7 a8
  generalize (w5.setCell ⟨w2.heap.size, 7, none⟩ (.slice A4 (M.partW k n c.ws).length j4)) = w6 at *
  refine (isEmpty_any (M.cut c k n) (show Rds w6 _ (M.cut c k n).rs from RowN.of_owns O6.out) (show Wrs w6 _ (M.cut c k n).ws from RowN.of_owns Q6.out)).mono ?_
  rintro e w7 ⟨rfl, hb⟩
  have P7 := Lib.hid (P6.out.on hb)
  have Y7 := Lib.hid (Y6.out.on hb)
  have T7 := Lib.hid (T6.out.on Y6.out.lt hb)
  have O7 := Lib.hid (ownsRow_on O6.out hb)
  have Q7 := Lib.hid (ownsRow_on Q6.out hb)
  have B7 := Lib.hid (B6.out.trans (hb.mono (by rw [S6.out]; omega)))
  have s7 : w5.heap.size ≤ w7.heap.size := by have := hb.size; rw [S6.out] at this; exact this
  clear hb P6 Y6 T6 O6 Q6 B6
  obtain ⟨lp, a0, a1, a2, a3, a4, a5, a6, a7, a8⟩ := P7.out
  obtain ⟨m1, y0, y1, y2, y3, y4, y5, y6, y7, y8⟩ := Y7.out
  have hz : ∀ o, w7.frozen? ⟨w.heap.size + 1 + 1 + 1, o, none⟩ = false := T7.out
  go_wp2
  refine bodyPost_ret (v := .tuple #[.agg #[.int .i64 c.k, .int .i64 c.tc, .int .i64 c.tn, .int .i64 c.tt, .int .i64 c.tk, .int .i64 c.sh, .slice A3 (M.partR k n c.rs).length j3, .slice A4 (M.partW k n c.ws).length j4, .bool c.cm], .int .i64 0]) (by simp [results, Try.results10, go_sem, y0, y1, y2, y3, y4, y5, y6, y7, y8]) rfl ?_
  exact ⟨_, _, rfl, RowN.of_owns (owns_set9 O7.out (by rw [SA.out]; omega) _ _ _ _ _ _ _ _ _), RowN.of_owns (owns_set9 Q7.out (by rw [SA.out]; omega) _ _ _ _ _ _ _ _ _), below_set9 B7.out (by omega) _ _ _ _ _ _ _ _ _⟩
end Go.Proofs.Ytacieiddhkkahaa
