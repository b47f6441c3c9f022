/- Contract of record; no conditions but those that it names. -/
import Derived.Test.YtagngbdlpdilnaaRdh
namespace Go.Proofs.Ytagngbdlpdilnaa
open Go.ChangeShapes Go.WideShapes Go.ChangeAt Go.RowKit

/-- What record answers: a record, in rows of its own, read as the plain reading says. -/
def RdR (g : Nat) (s : P.Sr) (w : World) (e : Ending) (w' : World) : Prop := ∃ (s1 : P.Sr) (r : M.Rec) (va vb : Value), e = .returned (.agg #[.int .i64 r.ir, .int .i64 r.is, .int .i64 r.st, .int .i64 r.pn, .int .i64 r.pr, .int .i64 r.bn, .int .i64 r.br, .int .i64 r.c.k, .int .i64 r.c.tc, .int .i64 r.c.tn, .int .i64 r.c.tt, .int .i64 r.c.tk, .int .i64 r.c.sh, va, vb, .bool r.c.cm, .int .i64 r.sq, .int .i64 r.d0, .int .i64 r.d1, .int .i64 r.d2, .int .i64 r.d3, .int .i64 r.d4, .int .i64 r.d5, .int .i64 r.d6, .bool r.kp]) ∧ w'.ownsRow w.heap.size 74 3 va r.c.rs.length (rdsC r.c.rs) ∧ w'.ownsRow w.heap.size 76 2 vb r.c.ws.length (wrsC r.c.ws) ∧ Rdr w' g s1 ∧ Bel g w.heap.size w w' ∧ P.Ran P.rcd s s1 r ∧ r.c.rs.length ≤ 8 ∧ r.c.ws.length ≤ 8
/-- The seven numbers while they are being read. -/
def ds7 (k : Nat) (d : Nat → Nat) : List Value := (List.range 7).map fun j => if j < k then encN (d j) else .int .i64 0
theorem ds7_set {k : Nat} (hk : k < 7) (d : Nat → Nat) (v : Nat) (x1 x2 x3 x4 x5 x6 x7 x8 x9 x10 x11 x12 x13 x14 x15 x16 x17 y : Value) :
    ([x1, x2, x3, x4, x5, x6, x7, x8, x9, x10, x11, x12, x13, x14, x15, x16, x17] ++ ds7 k d ++ [y]).set (17 + k) (encN v) = [x1, x2, x3, x4, x5, x6, x7, x8, x9, x10, x11, x12, x13, x14, x15, x16, x17] ++ ds7 (k + 1) (fun j => if j = k then v else d j) ++ [y] := by
  have h : k = 0 ∨ k = 1 ∨ k = 2 ∨ k = 3 ∨ k = 4 ∨ k = 5 ∨ k = 6 := by omega
  rcases h with rfl | rfl | rfl | rfl | rfl | rfl | rfl <;> rfl
theorem ds7_at {k : Nat} (hk : k < 7) (d : Nat → Nat) (x1 x2 x3 x4 x5 x6 x7 x8 x9 x10 x11 x12 x13 x14 x15 x16 x17 y : Value) :
    ([x1, x2, x3, x4, x5, x6, x7, x8, x9, x10, x11, x12, x13, x14, x15, x16, x17] ++ ds7 k d ++ [y])[17 + k]? = some (.int .i64 0) := by
  have h : k = 0 ∨ k = 1 ∨ k = 2 ∨ k = 3 ∨ k = 4 ∨ k = 5 ∨ k = 6 := by omega
  rcases h with rfl | rfl | rfl | rfl | rfl | rfl | rfl <;> rfl

set_option maxHeartbeats 16000000 in
set_option maxRecDepth 100000 in
theorem record_any {w : World} {g : Nat} {s : P.Sr} (h : Rdr w g s) : Calls Try.prog 81 #[.pointer (some ⟨g, 0, none⟩)] w (RdR g s w) := by
  have hg := h.lt
  have R0 := Lib.hid ((h.alloc (.cells #[.int .i64 0, .int .i64 0, .int .i64 0, .int .i64 0, .int .i64 0, .int .i64 0, .int .i64 0, .int .i64 0, .int .i64 0, .int .i64 0, .int .i64 0, .int .i64 0, .int .i64 0, .slice none 0 0, .slice none 0 0, .bool false, .int .i64 0, .int .i64 0, .int .i64 0, .int .i64 0, .int .i64 0, .int .i64 0, .int .i64 0, .int .i64 0, .bool false] 37)).alloc (.cells #[.int .i64 0, .int .i64 0, .int .i64 0, .int .i64 0, .int .i64 0, .int .i64 0, .int .i64 0, .int .i64 0, .int .i64 0, .int .i64 0, .int .i64 0, .int .i64 0, .int .i64 0, .slice none 0 0, .slice none 0 0, .bool false, .int .i64 0, .int .i64 0, .int .i64 0, .int .i64 0, .int .i64 0, .int .i64 0, .int .i64 0, .int .i64 0, .bool false] 37))
  have B0 := Lib.hid (((Bel.refl g w.heap.size w).alloc (Nat.le_refl _) (.cells #[.int .i64 0, .int .i64 0, .int .i64 0, .int .i64 0, .int .i64 0, .int .i64 0, .int .i64 0, .int .i64 0, .int .i64 0, .int .i64 0, .int .i64 0, .int .i64 0, .int .i64 0, .slice none 0 0, .slice none 0 0, .bool false, .int .i64 0, .int .i64 0, .int .i64 0, .int .i64 0, .int .i64 0, .int .i64 0, .int .i64 0, .int .i64 0, .bool false] 37)).alloc (by simp) (.cells #[.int .i64 0, .int .i64 0, .int .i64 0, .int .i64 0, .int .i64 0, .int .i64 0, .int .i64 0, .int .i64 0, .int .i64 0, .int .i64 0, .int .i64 0, .int .i64 0, .int .i64 0, .slice none 0 0, .slice none 0 0, .bool false, .int .i64 0, .int .i64 0, .int .i64 0, .int .i64 0, .int .i64 0, .int .i64 0, .int .i64 0, .int .i64 0, .bool false] 37))
  have Z0 := Lib.hid ((Hold.new w [.int .i64 0, .int .i64 0, .int .i64 0, .int .i64 0, .int .i64 0, .int .i64 0, .int .i64 0, .int .i64 0, .int .i64 0, .int .i64 0, .int .i64 0, .int .i64 0, .int .i64 0, .slice none 0 0, .slice none 0 0, .bool false, .int .i64 0, .int .i64 0, .int .i64 0, .int .i64 0, .int .i64 0, .int .i64 0, .int .i64 0, .int .i64 0, .bool false] 37).alloc (.cells #[.int .i64 0, .int .i64 0, .int .i64 0, .int .i64 0, .int .i64 0, .int .i64 0, .int .i64 0, .int .i64 0, .int .i64 0, .int .i64 0, .int .i64 0, .int .i64 0, .int .i64 0, .slice none 0 0, .slice none 0 0, .bool false, .int .i64 0, .int .i64 0, .int .i64 0, .int .i64 0, .int .i64 0, .int .i64 0, .int .i64 0, .int .i64 0, .bool false] 37))
  have C0 := Lib.hid (show Hold ((w.alloc (.cells #[.int .i64 0, .int .i64 0, .int .i64 0, .int .i64 0, .int .i64 0, .int .i64 0, .int .i64 0, .int .i64 0, .int .i64 0, .int .i64 0, .int .i64 0, .int .i64 0, .int .i64 0, .slice none 0 0, .slice none 0 0, .bool false, .int .i64 0, .int .i64 0, .int .i64 0, .int .i64 0, .int .i64 0, .int .i64 0, .int .i64 0, .int .i64 0, .bool false] 37)).alloc (.cells #[.int .i64 0, .int .i64 0, .int .i64 0, .int .i64 0, .int .i64 0, .int .i64 0, .int .i64 0, .int .i64 0, .int .i64 0, .int .i64 0, .int .i64 0, .int .i64 0, .int .i64 0, .slice none 0 0, .slice none 0 0, .bool false, .int .i64 0, .int .i64 0, .int .i64 0, .int .i64 0, .int .i64 0, .int .i64 0, .int .i64 0, .int .i64 0, .bool false] 37)) (w.heap.size + 1) 37 [.int .i64 0, .int .i64 0, .int .i64 0, .int .i64 0, .int .i64 0, .int .i64 0, .int .i64 0, .int .i64 0, .int .i64 0, .int .i64 0, .int .i64 0, .int .i64 0, .int .i64 0, .slice none 0 0, .slice none 0 0, .bool false, .int .i64 0, .int .i64 0, .int .i64 0, .int .i64 0, .int .i64 0, .int .i64 0, .int .i64 0, .int .i64 0, .bool false] by simpa using Hold.new (w.alloc (.cells #[.int .i64 0, .int .i64 0, .int .i64 0, .int .i64 0, .int .i64 0, .int .i64 0, .int .i64 0, .int .i64 0, .int .i64 0, .int .i64 0, .int .i64 0, .int .i64 0, .int .i64 0, .slice none 0 0, .slice none 0 0, .bool false, .int .i64 0, .int .i64 0, .int .i64 0, .int .i64 0, .int .i64 0, .int .i64 0, .int .i64 0, .int .i64 0, .bool false] 37)) [.int .i64 0, .int .i64 0, .int .i64 0, .int .i64 0, .int .i64 0, .int .i64 0, .int .i64 0, .int .i64 0, .int .i64 0, .int .i64 0, .int .i64 0, .int .i64 0, .int .i64 0, .slice none 0 0, .slice none 0 0, .bool false, .int .i64 0, .int .i64 0, .int .i64 0, .int .i64 0, .int .i64 0, .int .i64 0, .int .i64 0, .int .i64 0, .bool false] 37)
  clear h
  go_enter Try.func81, Try.ntmps81
  go_wp2_with (fail)
  refine (number_any R0.out).mono ?_
  rintro e w1 ⟨s1, a1, rfl, -, hr, hb, ha1⟩
  have R1 := Lib.hid hr
  have B1 := Lib.hid (B0.out.trans hb (by have := B0.out.size; omega))
  have Z1 := Lib.hid (Z0.out.bel hb (by omega))
  have C1 := Lib.hid (C0.out.bel hb (by omega))
  have Pa1 := Lib.hid ha1
  clear hr hb ha1
  clear R0 B0 Z0 C0
  have c0 := C1.out.cell 0 rfl
  have f0 := C1.out.soft 0
  have R1a := Lib.hid (R1.out.bel (Bel.store (w1) (w.heap.size + 1) 0 (encN a1)) (by omega))
  have B1a := Lib.hid (B1.out.on (Bel.store (w1) (w.heap.size + 1) 0 (encN a1)) (.inr (by omega)) B1.out.size)
  have Z1a := Lib.hid (Z1.out.bel (Bel.store (w1) (w.heap.size + 1) 0 (encN a1)) (by omega))
  have C1a := Lib.hid (show Hold ((w1).setCell ⟨(w.heap.size + 1), 0, none⟩ (encN a1)) (w.heap.size + 1) 37 [encN a1, .int .i64 0, .int .i64 0, .int .i64 0, .int .i64 0, .int .i64 0, .int .i64 0, .int .i64 0, .int .i64 0, .int .i64 0, .int .i64 0, .int .i64 0, .int .i64 0, .slice none 0 0, .slice none 0 0, .bool false, .int .i64 0, .int .i64 0, .int .i64 0, .int .i64 0, .int .i64 0, .int .i64 0, .int .i64 0, .int .i64 0, .bool false] from C1.out.put 0 (encN a1))
  clear R1 B1 Z1 C1
  go_wp2_with (fail)
  refine (number_any R1a.out).mono ?_
  rintro e w2 ⟨s2, a2, rfl, -, hr, hb, ha2⟩
  have R2 := Lib.hid hr
  have B2 := Lib.hid (B1a.out.trans hb (by have := B1a.out.size; omega))
  have Z2 := Lib.hid (Z1a.out.bel hb (by omega))
  have C2 := Lib.hid (C1a.out.bel hb (by omega))
  have Pa2 := Lib.hid ha2
  clear hr hb ha2
  clear R1a B1a Z1a C1a
  clear c0 f0
  have c0 := C2.out.cell 1 rfl
  have f0 := C2.out.soft 1
  have R2a := Lib.hid (R2.out.bel (Bel.store (w2) (w.heap.size + 1) 1 (encN a2)) (by omega))
  have B2a := Lib.hid (B2.out.on (Bel.store (w2) (w.heap.size + 1) 1 (encN a2)) (.inr (by omega)) B2.out.size)
  have Z2a := Lib.hid (Z2.out.bel (Bel.store (w2) (w.heap.size + 1) 1 (encN a2)) (by omega))
  have C2a := Lib.hid (show Hold ((w2).setCell ⟨(w.heap.size + 1), 1, none⟩ (encN a2)) (w.heap.size + 1) 37 [encN a1, encN a2, .int .i64 0, .int .i64 0, .int .i64 0, .int .i64 0, .int .i64 0, .int .i64 0, .int .i64 0, .int .i64 0, .int .i64 0, .int .i64 0, .int .i64 0, .slice none 0 0, .slice none 0 0, .bool false, .int .i64 0, .int .i64 0, .int .i64 0, .int .i64 0, .int .i64 0, .int .i64 0, .int .i64 0, .int .i64 0, .bool false] from C2.out.put 1 (encN a2))
  clear R2 B2 Z2 C2
  go_wp2_with (fail)
  refine (number_any R2a.out).mono ?_
  rintro e w3 ⟨s3, a3, rfl, -, hr, hb, ha3⟩
  have R3 := Lib.hid hr
  have B3 := Lib.hid (B2a.out.trans hb (by have := B2a.out.size; omega))
  have Z3 := Lib.hid (Z2a.out.bel hb (by omega))
  have C3 := Lib.hid (C2a.out.bel hb (by omega))
  have Pa3 := Lib.hid ha3
  clear hr hb ha3
  clear R2a B2a Z2a C2a
  clear c0 f0
  have c0 := C3.out.cell 2 rfl
  have f0 := C3.out.soft 2
  have R3a := Lib.hid (R3.out.bel (Bel.store (w3) (w.heap.size + 1) 2 (encN a3)) (by omega))
  have B3a := Lib.hid (B3.out.on (Bel.store (w3) (w.heap.size + 1) 2 (encN a3)) (.inr (by omega)) B3.out.size)
  have Z3a := Lib.hid (Z3.out.bel (Bel.store (w3) (w.heap.size + 1) 2 (encN a3)) (by omega))
  have C3a := Lib.hid (show Hold ((w3).setCell ⟨(w.heap.size + 1), 2, none⟩ (encN a3)) (w.heap.size + 1) 37 [encN a1, encN a2, encN a3, .int .i64 0, .int .i64 0, .int .i64 0, .int .i64 0, .int .i64 0, .int .i64 0, .int .i64 0, .int .i64 0, .int .i64 0, .int .i64 0, .slice none 0 0, .slice none 0 0, .bool false, .int .i64 0, .int .i64 0, .int .i64 0, .int .i64 0, .int .i64 0, .int .i64 0, .int .i64 0, .int .i64 0, .bool false] from C3.out.put 2 (encN a3))
  clear R3 B3 Z3 C3
  go_wp2_with (fail)
  refine (ballot_any R3a.out).mono ?_
  rintro e w4 ⟨t4, s4, a4, a5, rfl, -, -, hr, hb, ha4, ha5⟩
  have R4 := Lib.hid hr
  have B4 := Lib.hid (B3a.out.trans hb (by have := B3a.out.size; omega))
  have Z4 := Lib.hid (Z3a.out.bel hb (by omega))
  have C4 := Lib.hid (C3a.out.bel hb (by omega))
  have Pa4 := Lib.hid ha4
  have Pa5 := Lib.hid ha5
  clear hr hb ha4 ha5
  clear R3a B3a Z3a C3a
  clear c0 f0
  have c0 := C4.out.cell 3 rfl
  have f0 := C4.out.soft 3
  have c1 := C4.out.cell 4 rfl
  have f1 := C4.out.soft 4
  have R4a := Lib.hid (R4.out.bel (Bel.store (w4) (w.heap.size + 1) 3 (encN a4)) (by omega))
  have B4a := Lib.hid (B4.out.on (Bel.store (w4) (w.heap.size + 1) 3 (encN a4)) (.inr (by omega)) B4.out.size)
  have Z4a := Lib.hid (Z4.out.bel (Bel.store (w4) (w.heap.size + 1) 3 (encN a4)) (by omega))
  have C4a := Lib.hid (show Hold ((w4).setCell ⟨(w.heap.size + 1), 3, none⟩ (encN a4)) (w.heap.size + 1) 37 [encN a1, encN a2, encN a3, encN a4, .int .i64 0, .int .i64 0, .int .i64 0, .int .i64 0, .int .i64 0, .int .i64 0, .int .i64 0, .int .i64 0, .int .i64 0, .slice none 0 0, .slice none 0 0, .bool false, .int .i64 0, .int .i64 0, .int .i64 0, .int .i64 0, .int .i64 0, .int .i64 0, .int .i64 0, .int .i64 0, .bool false] from C4.out.put 3 (encN a4))
  clear R4 B4 Z4 C4
  have R4b := Lib.hid (R4a.out.bel (Bel.store ((w4).setCell ⟨(w.heap.size + 1), 3, none⟩ (encN a4)) (w.heap.size + 1) 4 (encN a5)) (by omega))
  have B4b := Lib.hid (B4a.out.on (Bel.store ((w4).setCell ⟨(w.heap.size + 1), 3, none⟩ (encN a4)) (w.heap.size + 1) 4 (encN a5)) (.inr (by omega)) B4a.out.size)
  have Z4b := Lib.hid (Z4a.out.bel (Bel.store ((w4).setCell ⟨(w.heap.size + 1), 3, none⟩ (encN a4)) (w.heap.size + 1) 4 (encN a5)) (by omega))
  have C4b := Lib.hid (show Hold (((w4).setCell ⟨(w.heap.size + 1), 3, none⟩ (encN a4)).setCell ⟨(w.heap.size + 1), 4, none⟩ (encN a5)) (w.heap.size + 1) 37 [encN a1, encN a2, encN a3, encN a4, encN a5, .int .i64 0, .int .i64 0, .int .i64 0, .int .i64 0, .int .i64 0, .int .i64 0, .int .i64 0, .int .i64 0, .slice none 0 0, .slice none 0 0, .bool false, .int .i64 0, .int .i64 0, .int .i64 0, .int .i64 0, .int .i64 0, .int .i64 0, .int .i64 0, .int .i64 0, .bool false] from C4a.out.put 4 (encN a5))
  clear R4a B4a Z4a C4a
  go_wp2_with (fail)
  refine (ballot_any R4b.out).mono ?_
  rintro e w5 ⟨t5, s5, a6, a7, rfl, -, -, hr, hb, ha6, ha7⟩
  have R5 := Lib.hid hr
  have B5 := Lib.hid (B4b.out.trans hb (by have := B4b.out.size; omega))
  have Z5 := Lib.hid (Z4b.out.bel hb (by omega))
  have C5 := Lib.hid (C4b.out.bel hb (by omega))
  have Pa6 := Lib.hid ha6
  have Pa7 := Lib.hid ha7
  clear hr hb ha6 ha7
  clear R4b B4b Z4b C4b
  clear c0 f0 c1 f1
  have c0 := C5.out.cell 5 rfl
  have f0 := C5.out.soft 5
  have c1 := C5.out.cell 6 rfl
  have f1 := C5.out.soft 6
  have R5a := Lib.hid (R5.out.bel (Bel.store (w5) (w.heap.size + 1) 5 (encN a6)) (by omega))
  have B5a := Lib.hid (B5.out.on (Bel.store (w5) (w.heap.size + 1) 5 (encN a6)) (.inr (by omega)) B5.out.size)
  have Z5a := Lib.hid (Z5.out.bel (Bel.store (w5) (w.heap.size + 1) 5 (encN a6)) (by omega))
  have C5a := Lib.hid (show Hold ((w5).setCell ⟨(w.heap.size + 1), 5, none⟩ (encN a6)) (w.heap.size + 1) 37 [encN a1, encN a2, encN a3, encN a4, encN a5, encN a6, .int .i64 0, .int .i64 0, .int .i64 0, .int .i64 0, .int .i64 0, .int .i64 0, .int .i64 0, .slice none 0 0, .slice none 0 0, .bool false, .int .i64 0, .int .i64 0, .int .i64 0, .int .i64 0, .int .i64 0, .int .i64 0, .int .i64 0, .int .i64 0, .bool false] from C5.out.put 5 (encN a6))
  clear R5 B5 Z5 C5
  have R5b := Lib.hid (R5a.out.bel (Bel.store ((w5).setCell ⟨(w.heap.size + 1), 5, none⟩ (encN a6)) (w.heap.size + 1) 6 (encN a7)) (by omega))
  have B5b := Lib.hid (B5a.out.on (Bel.store ((w5).setCell ⟨(w.heap.size + 1), 5, none⟩ (encN a6)) (w.heap.size + 1) 6 (encN a7)) (.inr (by omega)) B5a.out.size)
  have Z5b := Lib.hid (Z5a.out.bel (Bel.store ((w5).setCell ⟨(w.heap.size + 1), 5, none⟩ (encN a6)) (w.heap.size + 1) 6 (encN a7)) (by omega))
  have C5b := Lib.hid (show Hold (((w5).setCell ⟨(w.heap.size + 1), 5, none⟩ (encN a6)).setCell ⟨(w.heap.size + 1), 6, none⟩ (encN a7)) (w.heap.size + 1) 37 [encN a1, encN a2, encN a3, encN a4, encN a5, encN a6, encN a7, .int .i64 0, .int .i64 0, .int .i64 0, .int .i64 0, .int .i64 0, .int .i64 0, .slice none 0 0, .slice none 0 0, .bool false, .int .i64 0, .int .i64 0, .int .i64 0, .int .i64 0, .int .i64 0, .int .i64 0, .int .i64 0, .int .i64 0, .bool false] from C5a.out.put 6 (encN a7))
  clear R5a B5a Z5a C5a
  go_wp2_with (fail)
  refine (number_any R5b.out).mono ?_
  rintro e w6 ⟨s6, a8, rfl, -, hr, hb, ha8⟩
  have R6 := Lib.hid hr
  have B6 := Lib.hid (B5b.out.trans hb (by have := B5b.out.size; omega))
  have Z6 := Lib.hid (Z5b.out.bel hb (by omega))
  have C6 := Lib.hid (C5b.out.bel hb (by omega))
  have Pa8 := Lib.hid ha8
  clear hr hb ha8
  clear R5b B5b Z5b C5b
  clear c0 f0 c1 f1
  have c0 := C6.out.cell 16 rfl
  have f0 := C6.out.soft 16
  have R6a := Lib.hid (R6.out.bel (Bel.store (w6) (w.heap.size + 1) 16 (encN a8)) (by omega))
  have B6a := Lib.hid (B6.out.on (Bel.store (w6) (w.heap.size + 1) 16 (encN a8)) (.inr (by omega)) B6.out.size)
  have Z6a := Lib.hid (Z6.out.bel (Bel.store (w6) (w.heap.size + 1) 16 (encN a8)) (by omega))
  have C6a := Lib.hid (show Hold ((w6).setCell ⟨(w.heap.size + 1), 16, none⟩ (encN a8)) (w.heap.size + 1) 37 [encN a1, encN a2, encN a3, encN a4, encN a5, encN a6, encN a7, .int .i64 0, .int .i64 0, .int .i64 0, .int .i64 0, .int .i64 0, .int .i64 0, .slice none 0 0, .slice none 0 0, .bool false, encN a8, .int .i64 0, .int .i64 0, .int .i64 0, .int .i64 0, .int .i64 0, .int .i64 0, .int .i64 0, .bool false] from C6.out.put 16 (encN a8))
  clear R6 B6 Z6 C6
  obtain ⟨wl, el⟩ : ∃ wl, wl = (w6).setCell ⟨(w.heap.size + 1), 16, none⟩ (encN a8) := ⟨_, rfl⟩
  have CL := Lib.hid (show Hold wl (w.heap.size + 1) 37 ([encN a1, encN a2, encN a3, encN a4, encN a5, encN a6, encN a7, .int .i64 0, .int .i64 0, .int .i64 0, .int .i64 0, .int .i64 0, .int .i64 0, .slice none 0 0, .slice none 0 0, .bool false, encN a8] ++ ds7 0 (fun _ => 0) ++ [.bool false]) from el ▸ C6a.out)
  have RL := Lib.hid (el ▸ R6a.out)
  have BL := Lib.hid (el ▸ B6a.out)
  have ZL := Lib.hid (el ▸ Z6a.out)
  clear R6a B6a Z6a C6a
  go_wp2
  rw [← el]
  clear el c0 f0
  go_loopw [25] (fun i wr => ∃ (k : Nat) (d : Nat → Nat) (st : Nat → P.Sr), k ≤ 7 ∧ i = .int .i64 k ∧ Rdr wr g (st k) ∧ Bel g w.heap.size w wr ∧ Hold wr w.heap.size 37 [.int .i64 0, .int .i64 0, .int .i64 0, .int .i64 0, .int .i64 0, .int .i64 0, .int .i64 0, .int .i64 0, .int .i64 0, .int .i64 0, .int .i64 0, .int .i64 0, .int .i64 0, .slice none 0 0, .slice none 0 0, .bool false, .int .i64 0, .int .i64 0, .int .i64 0, .int .i64 0, .int .i64 0, .int .i64 0, .int .i64 0, .int .i64 0, .bool false] ∧ Hold wr (w.heap.size + 1) 37 ([encN a1, encN a2, encN a3, encN a4, encN a5, encN a6, encN a7, .int .i64 0, .int .i64 0, .int .i64 0, .int .i64 0, .int .i64 0, .int .i64 0, .slice none 0 0, .slice none 0 0, .bool false, encN a8] ++ ds7 k d ++ [.bool false]) ∧ st 0 = s6 ∧ ∀ j, j < k → P.Ran P.num (st j) (st (j + 1)) (d j)) (fun i _ => 7 - (intOf i).toNat)
  case atStart => exact ⟨0, fun _ => 0, fun _ => s6, Nat.zero_le _, rfl, RL.out, BL.out, ZL.out, CL.out, rfl, fun j hj => absurd hj (by omega)⟩
  case round =>
    obtain ⟨k, d, st, hk, rfl, hr, hb, hz, hc, h0, hp⟩ := hrel
    have R0 := Lib.hid hr
    have B0 := Lib.hid hb
    have Z0 := Lib.hid hz
    have C0 := Lib.hid hc
    have H0 := Lib.hid h0
    have P0 := Lib.hid hp
    have HK := Lib.hid hk
    clear hr hb hz hc h0 hp RL BL ZL CL
    by_cases hlt : k < 7
    · go_wp2_with (fail)
      refine (number_any R0.out).mono ?_
      rintro e w1 ⟨t, v, rfl, -, hr, hb, hp⟩
      have R1 := Lib.hid hr
      have B1 := Lib.hid (B0.out.trans hb (by have := B0.out.size; omega))
      have Z1 := Lib.hid (Z0.out.bel hb (by omega))
      have C1 := Lib.hid (C0.out.bel hb (by omega))
      have PP := Lib.hid hp
      clear hr hb hp R0 B0 Z0 C0
      have cc := C1.out.cell (17 + k) (ds7_at hlt d (encN a1) (encN a2) (encN a3) (encN a4) (encN a5) (encN a6) (encN a7) (.int .i64 0) (.int .i64 0) (.int .i64 0) (.int .i64 0) (.int .i64 0) (.int .i64 0) (.slice none 0 0) (.slice none 0 0) (.bool false) (encN a8) (.bool false))
      have ff := C1.out.soft (17 + k)
      have se := Bel.store w1 (w.heap.size + 1) (17 + k) (encN v)
      have R2 := Lib.hid (R1.out.bel se (by omega))
      have B2 := Lib.hid (B1.out.on se (.inr (by omega)) B1.out.size)
      have Z2 := Lib.hid (Z1.out.bel se (by omega))
      have C2 := Lib.hid (C1.out.put (17 + k) (encN v))
      have ES := Lib.hid (ds7_set hlt d v (encN a1) (encN a2) (encN a3) (encN a4) (encN a5) (encN a6) (encN a7) (.int .i64 0) (.int .i64 0) (.int .i64 0) (.int .i64 0) (.int .i64 0) (.int .i64 0) (.slice none 0 0) (.slice none 0 0) (.bool false) (encN a8) (.bool false))
      have hi1 : (k : Int) < 7 := by omega
      clear se R1 B1 Z1 C1
      go_wp2
      go_roundw
      case rel =>
        refine ⟨k + 1, fun j => if j = k then v else d j, fun j => if j = k + 1 then t else st j, by omega, by go_num, ?_, B2.out, Z2.out, ?_, ?_, ?_⟩
        · simp only [if_pos]; exact R2.out
        · rw [← ES.out]; exact C2.out
        · simp only [if_neg (show ¬ 0 = k + 1 by omega)]; exact H0.out
        · intro j hj
          by_cases e : j = k
          · subst e; simp only [if_pos, if_neg (show ¬ j = j + 1 by omega)]; exact PP.out
          · simp only [if_neg e, if_neg (show ¬ j = k + 1 by omega), if_neg (show ¬ j + 1 = k + 1 by omega)]; exact P0.out j (by omega)
      case measure => simp [intOf]; omega
    · obtain rfl : k = 7 := by omega
      have CE := Lib.hid (show Hold wr (w.heap.size + 1) 37 [encN a1, encN a2, encN a3, encN a4, encN a5, encN a6, encN a7, .int .i64 0, .int .i64 0, .int .i64 0, .int .i64 0, .int .i64 0, .int .i64 0, .slice none 0 0, .slice none 0 0, .bool false, encN a8, encN (d 0), encN (d 1), encN (d 2), encN (d 3), encN (d 4), encN (d 5), encN (d 6), .bool false] from C0.out)
      have RE := Lib.hid R0.out
      have BE := Lib.hid B0.out
      have ZE := Lib.hid Z0.out
      clear R0 B0 Z0 C0
      go_wp2_with (fail)
      refine (boolean_any RE.out).mono ?_
      rintro e w9 ⟨s9, kp, rfl, -, hr, hb, hkp⟩
      have R9 := Lib.hid hr
      have B9 := Lib.hid (BE.out.trans hb (by have := BE.out.size; omega))
      have Z9 := Lib.hid (ZE.out.bel hb (by omega))
      have C9 := Lib.hid (CE.out.bel hb (by omega))
      have Pkp := Lib.hid hkp
      clear hr hb hkp
      clear RE BE ZE CE
      have c0 := C9.out.cell 24 rfl
      have f0 := C9.out.soft 24
      have R9a := Lib.hid (R9.out.bel (Bel.store (w9) (w.heap.size + 1) 24 (.bool kp)) (by omega))
      have B9a := Lib.hid (B9.out.on (Bel.store (w9) (w.heap.size + 1) 24 (.bool kp)) (.inr (by omega)) B9.out.size)
      have Z9a := Lib.hid (Z9.out.bel (Bel.store (w9) (w.heap.size + 1) 24 (.bool kp)) (by omega))
      have C9a := Lib.hid (show Hold ((w9).setCell ⟨(w.heap.size + 1), 24, none⟩ (.bool kp)) (w.heap.size + 1) 37 [encN a1, encN a2, encN a3, encN a4, encN a5, encN a6, encN a7, .int .i64 0, .int .i64 0, .int .i64 0, .int .i64 0, .int .i64 0, .int .i64 0, .slice none 0 0, .slice none 0 0, .bool false, encN a8, encN (d 0), encN (d 1), encN (d 2), encN (d 3), encN (d 4), encN (d 5), encN (d 6), .bool kp] from C9.out.put 24 (.bool kp))
      clear R9 B9 Z9 C9
      go_wp2_with (fail)
      refine (mark_any 1 rfl R9a.out).mono ?_
      rintro e w10 ⟨s10, _, rfl, -, hr, hb, hmk⟩
      have R10 := Lib.hid hr
      have B10 := Lib.hid (B9a.out.trans hb (by have := B9a.out.size; omega))
      have Z10 := Lib.hid (Z9a.out.bel hb (by omega))
      have C10 := Lib.hid (C9a.out.bel hb (by omega))
      have Pmk := Lib.hid hmk
      clear hr hb hmk
      clear R9a B9a Z9a C9a
      clear c0 f0
      go_wp2_with (fail)
      refine (command_any R10.out).mono ?_
      rintro e w11 ⟨s11, c, va, vb, rfl, hra, hrb, hr, hb, hp, hl1, hl2⟩
      obtain ⟨A1, k1, rfl⟩ := ownsRow_slice hra
      obtain ⟨A2, k2, rfl⟩ := ownsRow_slice hrb
      have BS := B10.out.size
      have zl := Z10.out.lt
      have xl := C10.out.lt
      have R11 := Lib.hid hr
      have B11 := Lib.hid (B10.out.trans hb (by have := B10.out.size; omega))
      have Z11 := Lib.hid (Z10.out.bel hb (by omega))
      have C11 := Lib.hid (C10.out.bel hb (by omega))
      have K1 := Lib.hid hra
      have K2 := Lib.hid hrb
      have PC := Lib.hid hp
      have N1 := Lib.hid hl1
      have N2 := Lib.hid hl2
      clear hr hb hp hl1 hl2 hra hrb
      clear R10 B10 Z10 C10
      have T1 := Lib.hid (show w11.there (w.heap.size + 1) 7 ([.int .i64 c.k, .int .i64 c.tc, .int .i64 c.tn, .int .i64 c.tt, .int .i64 c.tk, .int .i64 c.sh, .slice A1 c.rs.length k1, .slice A2 c.ws.length k2, .bool c.cm] : List Value).length from C11.out.there (by show 7 + 9 ≤ 25; omega))
      have FP := Hold.set [.int .i64 c.k, .int .i64 c.tc, .int .i64 c.tn, .int .i64 c.tt, .int .i64 c.tk, .int .i64 c.sh, .slice A1 c.rs.length k1, .slice A2 c.ws.length k2, .bool c.cm] [encN a1, encN a2, encN a3, encN a4, encN a5, encN a6, encN a7] [.int .i64 0, .int .i64 0, .int .i64 0, .int .i64 0, .int .i64 0, .int .i64 0, .slice none 0 0, .slice none 0 0, .bool false] [encN a8, encN (d 0), encN (d 1), encN (d 2), encN (d 3), encN (d 4), encN (d 5), encN (d 6), .bool kp] rfl _ (show Hold w11 (w.heap.size + 1) 37 ([encN a1, encN a2, encN a3, encN a4, encN a5, encN a6, encN a7] ++ [.int .i64 0, .int .i64 0, .int .i64 0, .int .i64 0, .int .i64 0, .int .i64 0, .slice none 0 0, .slice none 0 0, .bool false] ++ [encN a8, encN (d 0), encN (d 1), encN (d 2), encN (d 3), encN (d 4), encN (d 5), encN (d 6), .bool kp]) from C11.out)
      have se := bel_setCells w11 (w.heap.size + 1) [.int .i64 c.k, .int .i64 c.tc, .int .i64 c.tn, .int .i64 c.tt, .int .i64 c.tk, .int .i64 c.sh, .slice A1 c.rs.length k1, .slice A2 c.ws.length k2, .bool c.cm] 7
      have C12 := Lib.hid (show Hold (w11.setCells (w.heap.size + 1) 7 [.int .i64 c.k, .int .i64 c.tc, .int .i64 c.tn, .int .i64 c.tt, .int .i64 c.tk, .int .i64 c.sh, .slice A1 c.rs.length k1, .slice A2 c.ws.length k2, .bool c.cm]) (w.heap.size + 1) 37 [encN a1, encN a2, encN a3, encN a4, encN a5, encN a6, encN a7, .int .i64 c.k, .int .i64 c.tc, .int .i64 c.tn, .int .i64 c.tt, .int .i64 c.tk, .int .i64 c.sh, .slice A1 c.rs.length k1, .slice A2 c.ws.length k2, .bool c.cm, encN a8, encN (d 0), encN (d 1), encN (d 2), encN (d 3), encN (d 4), encN (d 5), encN (d 6), .bool kp] from FP)
      have R12 := Lib.hid (R11.out.bel se (by omega))
      have B12 := Lib.hid (B11.out.on se (.inr (by omega)) B11.out.size)
      have Z12 := Lib.hid (Z11.out.bel se (by omega))
      have K3 := Lib.hid (ownsRow_bel K1.out se xl)
      have K4 := Lib.hid (ownsRow_bel K2.out se xl)
      obtain ⟨w12, e12⟩ : ∃ w12, w12 = w11.setCells (w.heap.size + 1) 7 [.int .i64 c.k, .int .i64 c.tc, .int .i64 c.tn, .int .i64 c.tt, .int .i64 c.tk, .int .i64 c.sh, .slice A1 c.rs.length k1, .slice A2 c.ws.length k2, .bool c.cm] := ⟨_, rfl⟩
      rw [← e12] at C12 R12 B12 Z12 K3 K4
      clear FP se C11 R11 B11 Z11 K1 K2
      have T2 := Lib.hid (show w12.there w.heap.size 0 ([encN a1, encN a2, encN a3, encN a4, encN a5, encN a6, encN a7, .int .i64 c.k, .int .i64 c.tc, .int .i64 c.tn, .int .i64 c.tt, .int .i64 c.tk, .int .i64 c.sh, .slice A1 c.rs.length k1, .slice A2 c.ws.length k2, .bool c.cm, encN a8, encN (d 0), encN (d 1), encN (d 2), encN (d 3), encN (d 4), encN (d 5), encN (d 6), .bool kp] : List Value).length from Z12.out.there (Nat.le_refl 25))
      go_wp2_with
        (first
         | (with_reducible refine store_list rfl 33 _ _ rfl (w.heap.size + 1) 7 [.int .i64 c.k, .int .i64 c.tc, .int .i64 c.tn, .int .i64 c.tt, .int .i64 c.tk, .int .i64 c.sh, .slice A1 c.rs.length k1, .slice A2 c.ws.length k2, .bool c.cm] rfl rfl T1.out (by kernel_rfl) (by kernel_rfl) ?_)
         | (with_reducible refine wpList_load_mid rfl 37 _ rfl (w.heap.size + 1) 0 rfl [encN a1, encN a2, encN a3, encN a4, encN a5, encN a6, encN a7, .int .i64 c.k, .int .i64 c.tc, .int .i64 c.tn, .int .i64 c.tt, .int .i64 c.tk, .int .i64 c.sh, .slice A1 c.rs.length k1, .slice A2 c.ws.length k2, .bool c.cm, encN a8, encN (d 0), encN (d 1), encN (d 2), encN (d 3), encN (d 4), encN (d 5), encN (d 6), .bool kp] _ (by rw [← e12]; exact C12.out.cel.whole) Try.underlying37 rfl (by kernel_rfl) ?_)
         | (with_reducible refine store_list rfl 37 _ _ rfl w.heap.size 0 [encN a1, encN a2, encN a3, encN a4, encN a5, encN a6, encN a7, .int .i64 c.k, .int .i64 c.tc, .int .i64 c.tn, .int .i64 c.tt, .int .i64 c.tk, .int .i64 c.sh, .slice A1 c.rs.length k1, .slice A2 c.ws.length k2, .bool c.cm, encN a8, encN (d 0), encN (d 1), encN (d 2), encN (d 3), encN (d 4), encN (d 5), encN (d 6), .bool kp] rfl rfl (by rw [← e12]; exact T2.out) (by kernel_rfl) (by kernel_rfl) ?_))
      rw [← e12]
      have FP := Hold.set [encN a1, encN a2, encN a3, encN a4, encN a5, encN a6, encN a7, .int .i64 c.k, .int .i64 c.tc, .int .i64 c.tn, .int .i64 c.tt, .int .i64 c.tk, .int .i64 c.sh, .slice A1 c.rs.length k1, .slice A2 c.ws.length k2, .bool c.cm, encN a8, encN (d 0), encN (d 1), encN (d 2), encN (d 3), encN (d 4), encN (d 5), encN (d 6), .bool kp] [] [.int .i64 0, .int .i64 0, .int .i64 0, .int .i64 0, .int .i64 0, .int .i64 0, .int .i64 0, .int .i64 0, .int .i64 0, .int .i64 0, .int .i64 0, .int .i64 0, .int .i64 0, .slice none 0 0, .slice none 0 0, .bool false, .int .i64 0, .int .i64 0, .int .i64 0, .int .i64 0, .int .i64 0, .int .i64 0, .int .i64 0, .int .i64 0, .bool false] [] rfl _ (show Hold w12 w.heap.size 37 ([] ++ [.int .i64 0, .int .i64 0, .int .i64 0, .int .i64 0, .int .i64 0, .int .i64 0, .int .i64 0, .int .i64 0, .int .i64 0, .int .i64 0, .int .i64 0, .int .i64 0, .int .i64 0, .slice none 0 0, .slice none 0 0, .bool false, .int .i64 0, .int .i64 0, .int .i64 0, .int .i64 0, .int .i64 0, .int .i64 0, .int .i64 0, .int .i64 0, .bool false] ++ []) from Z12.out)
      have FH := Lib.hid (show Hold (w12.setCells w.heap.size 0 [encN a1, encN a2, encN a3, encN a4, encN a5, encN a6, encN a7, .int .i64 c.k, .int .i64 c.tc, .int .i64 c.tn, .int .i64 c.tt, .int .i64 c.tk, .int .i64 c.sh, .slice A1 c.rs.length k1, .slice A2 c.ws.length k2, .bool c.cm, encN a8, encN (d 0), encN (d 1), encN (d 2), encN (d 3), encN (d 4), encN (d 5), encN (d 6), .bool kp]) w.heap.size 37 [encN a1, encN a2, encN a3, encN a4, encN a5, encN a6, encN a7, .int .i64 c.k, .int .i64 c.tc, .int .i64 c.tn, .int .i64 c.tt, .int .i64 c.tk, .int .i64 c.sh, .slice A1 c.rs.length k1, .slice A2 c.ws.length k2, .bool c.cm, encN a8, encN (d 0), encN (d 1), encN (d 2), encN (d 3), encN (d 4), encN (d 5), encN (d 6), .bool kp] from FP)
      have SB := bel_setCells w12 w.heap.size [encN a1, encN a2, encN a3, encN a4, encN a5, encN a6, encN a7, .int .i64 c.k, .int .i64 c.tc, .int .i64 c.tn, .int .i64 c.tt, .int .i64 c.tk, .int .i64 c.sh, .slice A1 c.rs.length k1, .slice A2 c.ws.length k2, .bool c.cm, encN a8, encN (d 0), encN (d 1), encN (d 2), encN (d 3), encN (d 4), encN (d 5), encN (d 6), .bool kp] 0
      have K5 := Lib.hid (ownsRow_baseN (base' := w.heap.size) (ownsRow_bel K3.out SB zl) (by omega))
      have K6 := Lib.hid (ownsRow_baseN (base' := w.heap.size) (ownsRow_bel K4.out SB zl) (by omega))
      refine bodyPost_ret (results_c rfl rfl FH.out.cel.whole _ Try.underlying37 rfl (by kernel_rfl)) rfl ?_
      refine ⟨s11, ⟨a1, a2, a3, a4, a5, a6, a7, c, a8, d 0, d 1, d 2, d 3, d 4, d 5, d 6, kp⟩, _, _, rfl, K5.out, K6.out, R12.out.bel SB (by omega), B12.out.on SB (.inr (by omega)) B12.out.size, ?_, N1.out, N2.out⟩
      have PD := P0.out
      rw [← H0.out] at Pa8
      exact P.Ran.bind P.errs_num Pa1.out (P.Ran.bind P.errs_num Pa2.out (P.Ran.bind P.errs_num Pa3.out (P.Ran.bind P.errs_num Pa4.out (P.Ran.bind P.errs_num Pa5.out (P.Ran.bind P.errs_num Pa6.out (P.Ran.bind P.errs_num Pa7.out (P.Ran.bind P.errs_num Pa8.out (P.Ran.bind P.errs_num (PD 0 (by omega)) (P.Ran.bind P.errs_num (PD 1 (by omega)) (P.Ran.bind P.errs_num (PD 2 (by omega)) (P.Ran.bind P.errs_num (PD 3 (by omega)) (P.Ran.bind P.errs_num (PD 4 (by omega)) (P.Ran.bind P.errs_num (PD 5 (by omega)) (P.Ran.bind P.errs_num (PD 6 (by omega)) (P.Ran.bind P.errs_boolean Pkp.out (P.Ran.bind (P.errs_mark 1) Pmk.out (P.Ran.bind P.errs_cmd PC.out (P.Ran.ret _ _))))))))))))))))))
end Go.Proofs.Ytagngbdlpdilnaa
