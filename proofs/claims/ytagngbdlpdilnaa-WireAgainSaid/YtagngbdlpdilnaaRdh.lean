/- Contract of command; no conditions but those that it names. -/
import Derived.Test.YtagngbdlpdilnaaRdg
import Derived.Test.YtagngbdlpdilnaaCmdsH
namespace Go.Proofs.Ytagngbdlpdilnaa
open Go.ChangeShapes Go.WideShapes Go.ChangeAt Go.RowKit

theorem bel_setCells (w : World) (b : Nat) : ∀ (L : List Value) (o : Nat), Bel b w.heap.size w (w.setCells b o L) := fun L o =>
  ⟨(below_setCells (Nat.zero_le b) L o w w (Below.refl 0 w)).os, (below_setCells (Nat.zero_le b) L o w w (Below.refl 0 w)).tape, (below_setCells (Nat.zero_le b) L o w w (Below.refl 0 w)).output, (below_setCells (Nat.zero_le b) L o w w (Below.refl 0 w)).size, fun _ hk hb => World.heap_setCells_other w b o L hk hb⟩

/-- What command answers: a command, in rows of its own, read as the plain reading says. -/
def RdC (g : Nat) (s : P.Sr) (w : World) (e : Ending) (w' : World) : Prop := ∃ (s1 : P.Sr) (c : M.Cmd) (va vb : Value), e = .returned (.agg #[.int .i64 c.k, .int .i64 c.tc, .int .i64 c.tn, .int .i64 c.tt, .int .i64 c.tk, .int .i64 c.sh, va, vb, .bool c.cm]) ∧ w'.ownsRow w.heap.size 74 3 va c.rs.length (rdsC c.rs) ∧ w'.ownsRow w.heap.size 76 2 vb c.ws.length (wrsC c.ws) ∧ Rdr w' g s1 ∧ Bel g w.heap.size w w' ∧ P.Ran P.cmd s s1 c ∧ c.rs.length ≤ 8 ∧ c.ws.length ≤ 8

set_option maxHeartbeats 16000000 in
set_option maxRecDepth 100000 in
theorem command_any {w : World} {g : Nat} {s : P.Sr} (h : Rdr w g s) : Calls Try.prog 80 #[.pointer (some ⟨g, 0, none⟩)] w (RdC g s w) := by
  have hg := h.lt
  have hmf := hmf
  have R0 := Lib.hid (((h.alloc (.cells #[.pointer (some ⟨g, 0, none⟩)] 125)).alloc (.cells #[.int .i64 0, .int .i64 0, .int .i64 0, .int .i64 0, .int .i64 0, .int .i64 0, .slice none 0 0, .slice none 0 0, .bool false] 33)).alloc (.cells #[.int .i64 0, .int .i64 0, .int .i64 0, .int .i64 0, .int .i64 0, .int .i64 0, .slice none 0 0, .slice none 0 0, .bool false] 33))
  have B0 := Lib.hid ((((Bel.refl g w.heap.size w).alloc (Nat.le_refl _) (.cells #[.pointer (some ⟨g, 0, none⟩)] 125)).alloc (by simp) (.cells #[.int .i64 0, .int .i64 0, .int .i64 0, .int .i64 0, .int .i64 0, .int .i64 0, .slice none 0 0, .slice none 0 0, .bool false] 33)).alloc (by simp; omega) (.cells #[.int .i64 0, .int .i64 0, .int .i64 0, .int .i64 0, .int .i64 0, .int .i64 0, .slice none 0 0, .slice none 0 0, .bool false] 33))
  have Q0 := Lib.hid (((Hold.new w [.pointer (some ⟨g, 0, none⟩)] 125).alloc (.cells #[.int .i64 0, .int .i64 0, .int .i64 0, .int .i64 0, .int .i64 0, .int .i64 0, .slice none 0 0, .slice none 0 0, .bool false] 33)).alloc (.cells #[.int .i64 0, .int .i64 0, .int .i64 0, .int .i64 0, .int .i64 0, .int .i64 0, .slice none 0 0, .slice none 0 0, .bool false] 33))
  have Z0 := Lib.hid ((show Hold ((w.alloc (.cells #[.pointer (some ⟨g, 0, none⟩)] 125)).alloc (.cells #[.int .i64 0, .int .i64 0, .int .i64 0, .int .i64 0, .int .i64 0, .int .i64 0, .slice none 0 0, .slice none 0 0, .bool false] 33)) (w.heap.size + 1) 33 [.int .i64 0, .int .i64 0, .int .i64 0, .int .i64 0, .int .i64 0, .int .i64 0, .slice none 0 0, .slice none 0 0, .bool false] by simpa using Hold.new (w.alloc (.cells #[.pointer (some ⟨g, 0, none⟩)] 125)) [.int .i64 0, .int .i64 0, .int .i64 0, .int .i64 0, .int .i64 0, .int .i64 0, .slice none 0 0, .slice none 0 0, .bool false] 33).alloc (.cells #[.int .i64 0, .int .i64 0, .int .i64 0, .int .i64 0, .int .i64 0, .int .i64 0, .slice none 0 0, .slice none 0 0, .bool false] 33))
  have C0 := Lib.hid (show Hold (((w.alloc (.cells #[.pointer (some ⟨g, 0, none⟩)] 125)).alloc (.cells #[.int .i64 0, .int .i64 0, .int .i64 0, .int .i64 0, .int .i64 0, .int .i64 0, .slice none 0 0, .slice none 0 0, .bool false] 33)).alloc (.cells #[.int .i64 0, .int .i64 0, .int .i64 0, .int .i64 0, .int .i64 0, .int .i64 0, .slice none 0 0, .slice none 0 0, .bool false] 33)) (w.heap.size + 2) 33 [.int .i64 0, .int .i64 0, .int .i64 0, .int .i64 0, .int .i64 0, .int .i64 0, .slice none 0 0, .slice none 0 0, .bool false] by simpa using Hold.new ((w.alloc (.cells #[.pointer (some ⟨g, 0, none⟩)] 125)).alloc (.cells #[.int .i64 0, .int .i64 0, .int .i64 0, .int .i64 0, .int .i64 0, .int .i64 0, .slice none 0 0, .slice none 0 0, .bool false] 33)) [.int .i64 0, .int .i64 0, .int .i64 0, .int .i64 0, .int .i64 0, .int .i64 0, .slice none 0 0, .slice none 0 0, .bool false] 33)
  clear h
  go_enter Try.func80, Try.ntmps80
  go_wp2_with (fail)
  refine (number_any R0.out).mono ?_
  rintro e w1 ⟨s1, a1, rfl, -, hr, hb, ha1⟩
  have R1 := Lib.hid hr
  have B1 := Lib.hid (B0.out.trans hb (by have := B0.out.size; omega))
  have Q1 := Lib.hid (Q0.out.bel hb (by omega))
  have Z1 := Lib.hid (Z0.out.bel hb (by omega))
  have C1 := Lib.hid (C0.out.bel hb (by omega))
  have Pa1 := Lib.hid ha1
  clear hr hb ha1
  clear R0 B0 Q0 Z0 C0
  have bq := Q1.out.cell 0 rfl
  have c0 := C1.out.cell 0 rfl
  have f0 := C1.out.soft 0
  have R1a := Lib.hid (R1.out.bel (Bel.store (w1) (w.heap.size + 2) 0 (encN a1)) (by omega))
  have B1a := Lib.hid (B1.out.on (Bel.store (w1) (w.heap.size + 2) 0 (encN a1)) (.inr (by omega)) B1.out.size)
  have Q1a := Lib.hid (Q1.out.bel (Bel.store (w1) (w.heap.size + 2) 0 (encN a1)) (by omega))
  have Z1a := Lib.hid (Z1.out.bel (Bel.store (w1) (w.heap.size + 2) 0 (encN a1)) (by omega))
  have C1a := Lib.hid (show Hold ((w1).setCell ⟨(w.heap.size + 2), 0, none⟩ (encN a1)) (w.heap.size + 2) 33 [encN a1, .int .i64 0, .int .i64 0, .int .i64 0, .int .i64 0, .int .i64 0, .slice none 0 0, .slice none 0 0, .bool false] from C1.out.put 0 (encN a1))
  clear R1 B1 Q1 Z1 C1
  go_wp2_with (fail)
  refine (number_any R1a.out).mono ?_
  rintro e w2 ⟨s2, a2, rfl, -, hr, hb, ha2⟩
  have R2 := Lib.hid hr
  have B2 := Lib.hid (B1a.out.trans hb (by have := B1a.out.size; omega))
  have Q2 := Lib.hid (Q1a.out.bel hb (by omega))
  have Z2 := Lib.hid (Z1a.out.bel hb (by omega))
  have C2 := Lib.hid (C1a.out.bel hb (by omega))
  have Pa2 := Lib.hid ha2
  clear hr hb ha2
  clear R1a B1a Q1a Z1a C1a
  clear bq c0 f0
  have bq := Q2.out.cell 0 rfl
  have c0 := C2.out.cell 1 rfl
  have f0 := C2.out.soft 1
  have R2a := Lib.hid (R2.out.bel (Bel.store (w2) (w.heap.size + 2) 1 (encN a2)) (by omega))
  have B2a := Lib.hid (B2.out.on (Bel.store (w2) (w.heap.size + 2) 1 (encN a2)) (.inr (by omega)) B2.out.size)
  have Q2a := Lib.hid (Q2.out.bel (Bel.store (w2) (w.heap.size + 2) 1 (encN a2)) (by omega))
  have Z2a := Lib.hid (Z2.out.bel (Bel.store (w2) (w.heap.size + 2) 1 (encN a2)) (by omega))
  have C2a := Lib.hid (show Hold ((w2).setCell ⟨(w.heap.size + 2), 1, none⟩ (encN a2)) (w.heap.size + 2) 33 [encN a1, encN a2, .int .i64 0, .int .i64 0, .int .i64 0, .int .i64 0, .slice none 0 0, .slice none 0 0, .bool false] from C2.out.put 1 (encN a2))
  clear R2 B2 Q2 Z2 C2
  go_wp2_with (fail)
  refine (number_any R2a.out).mono ?_
  rintro e w3 ⟨s3, a3, rfl, -, hr, hb, ha3⟩
  have R3 := Lib.hid hr
  have B3 := Lib.hid (B2a.out.trans hb (by have := B2a.out.size; omega))
  have Q3 := Lib.hid (Q2a.out.bel hb (by omega))
  have Z3 := Lib.hid (Z2a.out.bel hb (by omega))
  have C3 := Lib.hid (C2a.out.bel hb (by omega))
  have Pa3 := Lib.hid ha3
  clear hr hb ha3
  clear R2a B2a Q2a Z2a C2a
  clear bq c0 f0
  have bq := Q3.out.cell 0 rfl
  have c0 := C3.out.cell 2 rfl
  have f0 := C3.out.soft 2
  have R3a := Lib.hid (R3.out.bel (Bel.store (w3) (w.heap.size + 2) 2 (encN a3)) (by omega))
  have B3a := Lib.hid (B3.out.on (Bel.store (w3) (w.heap.size + 2) 2 (encN a3)) (.inr (by omega)) B3.out.size)
  have Q3a := Lib.hid (Q3.out.bel (Bel.store (w3) (w.heap.size + 2) 2 (encN a3)) (by omega))
  have Z3a := Lib.hid (Z3.out.bel (Bel.store (w3) (w.heap.size + 2) 2 (encN a3)) (by omega))
  have C3a := Lib.hid (show Hold ((w3).setCell ⟨(w.heap.size + 2), 2, none⟩ (encN a3)) (w.heap.size + 2) 33 [encN a1, encN a2, encN a3, .int .i64 0, .int .i64 0, .int .i64 0, .slice none 0 0, .slice none 0 0, .bool false] from C3.out.put 2 (encN a3))
  clear R3 B3 Q3 Z3 C3
  go_wp2_with (fail)
  refine (stamp_any R3a.out).mono ?_
  rintro e w4 ⟨t4, s4, a4, a5, rfl, -, -, hr, hb, ha4, ha5⟩
  have R4 := Lib.hid hr
  have B4 := Lib.hid (B3a.out.trans hb (by have := B3a.out.size; omega))
  have Q4 := Lib.hid (Q3a.out.bel hb (by omega))
  have Z4 := Lib.hid (Z3a.out.bel hb (by omega))
  have C4 := Lib.hid (C3a.out.bel hb (by omega))
  have Pa4 := Lib.hid ha4
  have Pa5 := Lib.hid ha5
  clear hr hb ha4 ha5
  clear R3a B3a Q3a Z3a C3a
  clear bq c0 f0
  have bq := Q4.out.cell 0 rfl
  have c0 := C4.out.cell 3 rfl
  have f0 := C4.out.soft 3
  have c1 := C4.out.cell 4 rfl
  have f1 := C4.out.soft 4
  have R4a := Lib.hid (R4.out.bel (Bel.store (w4) (w.heap.size + 2) 3 (encN a4)) (by omega))
  have B4a := Lib.hid (B4.out.on (Bel.store (w4) (w.heap.size + 2) 3 (encN a4)) (.inr (by omega)) B4.out.size)
  have Q4a := Lib.hid (Q4.out.bel (Bel.store (w4) (w.heap.size + 2) 3 (encN a4)) (by omega))
  have Z4a := Lib.hid (Z4.out.bel (Bel.store (w4) (w.heap.size + 2) 3 (encN a4)) (by omega))
  have C4a := Lib.hid (show Hold ((w4).setCell ⟨(w.heap.size + 2), 3, none⟩ (encN a4)) (w.heap.size + 2) 33 [encN a1, encN a2, encN a3, encN a4, .int .i64 0, .int .i64 0, .slice none 0 0, .slice none 0 0, .bool false] from C4.out.put 3 (encN a4))
  clear R4 B4 Q4 Z4 C4
  have R4b := Lib.hid (R4a.out.bel (Bel.store ((w4).setCell ⟨(w.heap.size + 2), 3, none⟩ (encN a4)) (w.heap.size + 2) 4 (encN a5)) (by omega))
  have B4b := Lib.hid (B4a.out.on (Bel.store ((w4).setCell ⟨(w.heap.size + 2), 3, none⟩ (encN a4)) (w.heap.size + 2) 4 (encN a5)) (.inr (by omega)) B4a.out.size)
  have Q4b := Lib.hid (Q4a.out.bel (Bel.store ((w4).setCell ⟨(w.heap.size + 2), 3, none⟩ (encN a4)) (w.heap.size + 2) 4 (encN a5)) (by omega))
  have Z4b := Lib.hid (Z4a.out.bel (Bel.store ((w4).setCell ⟨(w.heap.size + 2), 3, none⟩ (encN a4)) (w.heap.size + 2) 4 (encN a5)) (by omega))
  have C4b := Lib.hid (show Hold (((w4).setCell ⟨(w.heap.size + 2), 3, none⟩ (encN a4)).setCell ⟨(w.heap.size + 2), 4, none⟩ (encN a5)) (w.heap.size + 2) 33 [encN a1, encN a2, encN a3, encN a4, encN a5, .int .i64 0, .slice none 0 0, .slice none 0 0, .bool false] from C4a.out.put 4 (encN a5))
  clear R4a B4a Q4a Z4a C4a
  go_wp2_with (fail)
  refine (number_any R4b.out).mono ?_
  rintro e w5 ⟨s5, a6, rfl, -, hr, hb, ha6⟩
  have R5 := Lib.hid hr
  have B5 := Lib.hid (B4b.out.trans hb (by have := B4b.out.size; omega))
  have Q5 := Lib.hid (Q4b.out.bel hb (by omega))
  have Z5 := Lib.hid (Z4b.out.bel hb (by omega))
  have C5 := Lib.hid (C4b.out.bel hb (by omega))
  have Pa6 := Lib.hid ha6
  clear hr hb ha6
  clear R4b B4b Q4b Z4b C4b
  clear bq c0 f0 c1 f1
  have bq := Q5.out.cell 0 rfl
  have c0 := C5.out.cell 5 rfl
  have f0 := C5.out.soft 5
  have R5a := Lib.hid (R5.out.bel (Bel.store (w5) (w.heap.size + 2) 5 (encN a6)) (by omega))
  have B5a := Lib.hid (B5.out.on (Bel.store (w5) (w.heap.size + 2) 5 (encN a6)) (.inr (by omega)) B5.out.size)
  have Q5a := Lib.hid (Q5.out.bel (Bel.store (w5) (w.heap.size + 2) 5 (encN a6)) (by omega))
  have Z5a := Lib.hid (Z5.out.bel (Bel.store (w5) (w.heap.size + 2) 5 (encN a6)) (by omega))
  have C5a := Lib.hid (show Hold ((w5).setCell ⟨(w.heap.size + 2), 5, none⟩ (encN a6)) (w.heap.size + 2) 33 [encN a1, encN a2, encN a3, encN a4, encN a5, encN a6, .slice none 0 0, .slice none 0 0, .bool false] from C5.out.put 5 (encN a6))
  clear R5 B5 Q5 Z5 C5
  have T0 := Lib.hid (show Cst ((w5).setCell ⟨(w.heap.size + 2), 5, none⟩ (encN a6)) g w.heap.size (w.heap.size + 2) (w.heap.size + 3) [encN a1, encN a2, encN a3, encN a4, encN a5, encN a6] (.slice none 0 0) (.slice none 0 0) false [] [] from ⟨Q5a.out, Z5a.out, C5a.out, World.ownsRow_nil _ _ _ _, World.ownsRow_nil _ _ _ _, rfl, by omega, by omega, by omega, by have := C5a.out.lt; omega⟩)
  go_wp2_with (fail)
  refine (each_rd R5a.out T0.out rfl).mono ?_
  rintro e w6 ⟨rfl, u1, s6, n1, rs, va, hf, hr, hc, hb, hp, hn, hlen⟩
  have R6 := Lib.hid hr
  have T6 := Lib.hid hc
  have B6 := Lib.hid (B5a.out.next hb)
  have P7 := Lib.hid hf
  have P8 := Lib.hid hp
  have N1 := Lib.hid (show rs.length ≤ 8 by omega)
  have M1 := Lib.hid hlen
  clear hf hr hc hb hp hn hlen R5a B5a Q5a Z5a C5a T0 bq c0 f0
  have bq := T6.out.box.cell 0 rfl
  go_wp2_with (fail)
  refine (each_wr R6.out T6.out rfl).mono ?_
  rintro e w7 ⟨rfl, u2, s7, n2, ws, vb, hf, hr, hc, hb, hp, hn, hlen⟩
  have R7 := Lib.hid hr
  have B7 := Lib.hid (B6.out.next hb)
  have P9 := Lib.hid hf
  have P10 := Lib.hid hp
  have N2 := Lib.hid (show ws.length ≤ 8 by omega)
  have M2 := Lib.hid hlen
  have T7 := Lib.hid hc
  clear hf hr hc hb hp hn hlen R6 B6 T6 bq
  have bq := T7.out.box.cell 0 rfl
  go_wp2_with (fail)
  refine (boolean_any R7.out).mono ?_
  rintro e w8 ⟨s8, cm, rfl, -, hr, hb, hp⟩
  have R8 := Lib.hid hr
  have B8 := Lib.hid (B7.out.trans hb (by have := B7.out.size; omega))
  have P11 := Lib.hid hp
  have T8 := Lib.hid (T7.out.bel hb)
  clear hr hb hp R7 B7 T7 bq
  obtain ⟨A1, k1, rfl⟩ := ownsRow_slice T8.out.ra
  obtain ⟨A2, k2, rfl⟩ := ownsRow_slice T8.out.rb
  have C8 := Lib.hid (show Hold w8 (w.heap.size + 2) 33 [encN a1, encN a2, encN a3, encN a4, encN a5, encN a6, .slice A1 rs.length k1, .slice A2 ws.length k2, .bool false] from T8.out.cmd)
  have c0 := C8.out.cell 8 rfl
  have f0 := C8.out.soft 8
  have st := Bel.store w8 (w.heap.size + 2) 8 (.bool cm)
  have C9 := Lib.hid (show Hold (w8.setCell ⟨w.heap.size + 2, 8, none⟩ (.bool cm)) (w.heap.size + 2) 33 [encN a1, encN a2, encN a3, encN a4, encN a5, encN a6, .slice A1 rs.length k1, .slice A2 ws.length k2, .bool cm] from C8.out.put 8 (.bool cm))
  have Z9 := Lib.hid (T8.out.res.bel st (by omega))
  have R9 := Lib.hid (R8.out.bel st (by omega))
  have B9 := Lib.hid (B8.out.on st (.inr (by omega)) B8.out.size)
  have K1 := Lib.hid (ownsRow_bel T8.out.ra st (by omega))
  have K2 := Lib.hid (ownsRow_bel T8.out.rb st (by omega))
  obtain ⟨w9, e9⟩ : ∃ w9, w9 = w8.setCell ⟨w.heap.size + 2, 8, none⟩ (.bool cm) := ⟨_, rfl⟩
  rw [← e9] at C9 Z9 R9 B9 K1 K2
  clear st R8 B8 C8 T8
  have TH := Lib.hid (show w9.there (w.heap.size + 1) 0 ([encN a1, encN a2, encN a3, encN a4, encN a5, encN a6, .slice A1 rs.length k1, .slice A2 ws.length k2, .bool cm] : List Value).length from Z9.out.there (Nat.le_refl 9))
  go_wp2_with
    (first
     | (with_reducible refine wpList_load_mid rfl 33 _ rfl (w.heap.size + 2) 0 rfl [encN a1, encN a2, encN a3, encN a4, encN a5, encN a6, .slice A1 rs.length k1, .slice A2 ws.length k2, .bool cm] _ (by rw [← e9]; exact C9.out.cel.whole) Try.underlying33 rfl (by kernel_rfl) ?_)
     | (with_reducible refine store_list rfl 33 _ _ rfl (w.heap.size + 1) 0 [encN a1, encN a2, encN a3, encN a4, encN a5, encN a6, .slice A1 rs.length k1, .slice A2 ws.length k2, .bool cm] rfl rfl (by rw [← e9]; exact TH.out) (by kernel_rfl) (by kernel_rfl) ?_))
  rw [← e9]
  have FP := Hold.set [encN a1, encN a2, encN a3, encN a4, encN a5, encN a6, .slice A1 rs.length k1, .slice A2 ws.length k2, .bool cm] [] [.int .i64 0, .int .i64 0, .int .i64 0, .int .i64 0, .int .i64 0, .int .i64 0, .slice none 0 0, .slice none 0 0, .bool false] [] rfl _ (show Hold w9 (w.heap.size + 1) 33 ([] ++ [.int .i64 0, .int .i64 0, .int .i64 0, .int .i64 0, .int .i64 0, .int .i64 0, .slice none 0 0, .slice none 0 0, .bool false] ++ []) from Z9.out)
  have FH := Lib.hid (show Hold (w9.setCells (w.heap.size + 1) 0 [encN a1, encN a2, encN a3, encN a4, encN a5, encN a6, .slice A1 rs.length k1, .slice A2 ws.length k2, .bool cm]) (w.heap.size + 1) 33 [encN a1, encN a2, encN a3, encN a4, encN a5, encN a6, .slice A1 rs.length k1, .slice A2 ws.length k2, .bool cm] from FP)
  have SB := bel_setCells w9 (w.heap.size + 1) [encN a1, encN a2, encN a3, encN a4, encN a5, encN a6, .slice A1 rs.length k1, .slice A2 ws.length k2, .bool cm] 0
  have K3 := Lib.hid (ownsRow_baseN (base' := w.heap.size) (ownsRow_bel (base := w.heap.size + 3) K1.out SB (by omega)) (by omega))
  have K4 := Lib.hid (ownsRow_baseN (base' := w.heap.size) (ownsRow_bel (base := w.heap.size + 3) K2.out SB (by omega)) (by omega))
  refine bodyPost_ret (results_c rfl rfl FH.out.cel.whole _ Try.underlying33 rfl (by kernel_rfl)) rfl ?_
  refine ⟨s8, ⟨a1, a2, a3, a4, a5, a6, rs, ws, cm⟩, _, _, rfl, K3.out, K4.out, R9.out.bel SB (by omega), B9.out.on SB (.inr (by omega)) B9.out.size, ?_, N1.out, N2.out⟩
  exact P.Ran.bind P.errs_num Pa1.out (P.Ran.bind P.errs_num Pa2.out (P.Ran.bind P.errs_num Pa3.out (P.Ran.bind P.errs_num Pa4.out (P.Ran.bind P.errs_num Pa5.out (P.Ran.bind P.errs_num Pa6.out (P.Ran.bind P.errs_few P7.out (P.Ran.bind (P.errs_rep P.errs_rd _) P8.out (P.Ran.bind P.errs_few P9.out (P.Ran.bind (P.errs_rep P.errs_wr _) P10.out (P.Ran.bind P.errs_boolean P11.out (P.Ran.ret _ _)))))))))))
end Go.Proofs.Ytagngbdlpdilnaa
