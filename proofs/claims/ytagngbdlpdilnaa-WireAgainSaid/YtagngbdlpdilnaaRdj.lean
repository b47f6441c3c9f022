/- Contract of message; no conditions but those that it names. -/
import Derived.Test.YtagngbdlpdilnaaRdi
namespace Go.Proofs.Ytagngbdlpdilnaa
open Go.ChangeShapes Go.WideShapes Go.ChangeAt Go.RowKit

/-- What message answers: a message, in rows of its own, read as the plain reading says. -/
def RdM (g : Nat) (s : P.Sr) (w : World) (e : Ending) (w' : World) : Prop := ∃ (s1 : P.Sr) (m : M.Msg) (va vb : Value), e = .returned (.agg #[.int .i64 m.k, .int .i64 m.fr, .int .i64 m.to, .int .i64 m.bn, .int .i64 m.br, .int .i64 m.r.ir, .int .i64 m.r.is, .int .i64 m.r.st, .int .i64 m.r.pn, .int .i64 m.r.pr, .int .i64 m.r.bn, .int .i64 m.r.br, .int .i64 m.r.c.k, .int .i64 m.r.c.tc, .int .i64 m.r.c.tn, .int .i64 m.r.c.tt, .int .i64 m.r.c.tk, .int .i64 m.r.c.sh, va, vb, .bool m.r.c.cm, .int .i64 m.r.sq, .int .i64 m.r.d0, .int .i64 m.r.d1, .int .i64 m.r.d2, .int .i64 m.r.d3, .int .i64 m.r.d4, .int .i64 m.r.d5, .int .i64 m.r.d6, .bool m.r.kp]) ∧ w'.ownsRow w.heap.size 74 3 va m.r.c.rs.length (rdsC m.r.c.rs) ∧ w'.ownsRow w.heap.size 76 2 vb m.r.c.ws.length (wrsC m.r.c.ws) ∧ Rdr w' g s1 ∧ Bel g w.heap.size w w' ∧ P.Ran P.msg s s1 m ∧ m.r.c.rs.length ≤ 8 ∧ m.r.c.ws.length ≤ 8

set_option maxHeartbeats 16000000 in
set_option maxRecDepth 100000 in
theorem message_any {w : World} {g : Nat} {s : P.Sr} (h : Rdr w g s) : Calls Try.prog 82 #[.pointer (some ⟨g, 0, none⟩)] w (RdM g s w) := by
  have hg := h.lt
  have R0 := Lib.hid ((h.alloc (.cells #[.int .i64 0, .int .i64 0, .int .i64 0, .int .i64 0, .int .i64 0, .int .i64 0, .int .i64 0, .int .i64 0, .int .i64 0, .int .i64 0, .int .i64 0, .int .i64 0, .int .i64 0, .int .i64 0, .int .i64 0, .int .i64 0, .int .i64 0, .int .i64 0, .slice none 0 0, .slice none 0 0, .bool false, .int .i64 0, .int .i64 0, .int .i64 0, .int .i64 0, .int .i64 0, .int .i64 0, .int .i64 0, .int .i64 0, .bool false] 39)).alloc (.cells #[.int .i64 0, .int .i64 0, .int .i64 0, .int .i64 0, .int .i64 0, .int .i64 0, .int .i64 0, .int .i64 0, .int .i64 0, .int .i64 0, .int .i64 0, .int .i64 0, .int .i64 0, .int .i64 0, .int .i64 0, .int .i64 0, .int .i64 0, .int .i64 0, .slice none 0 0, .slice none 0 0, .bool false, .int .i64 0, .int .i64 0, .int .i64 0, .int .i64 0, .int .i64 0, .int .i64 0, .int .i64 0, .int .i64 0, .bool false] 39))
  have B0 := Lib.hid (((Bel.refl g w.heap.size w).alloc (Nat.le_refl _) (.cells #[.int .i64 0, .int .i64 0, .int .i64 0, .int .i64 0, .int .i64 0, .int .i64 0, .int .i64 0, .int .i64 0, .int .i64 0, .int .i64 0, .int .i64 0, .int .i64 0, .int .i64 0, .int .i64 0, .int .i64 0, .int .i64 0, .int .i64 0, .int .i64 0, .slice none 0 0, .slice none 0 0, .bool false, .int .i64 0, .int .i64 0, .int .i64 0, .int .i64 0, .int .i64 0, .int .i64 0, .int .i64 0, .int .i64 0, .bool false] 39)).alloc (by simp) (.cells #[.int .i64 0, .int .i64 0, .int .i64 0, .int .i64 0, .int .i64 0, .int .i64 0, .int .i64 0, .int .i64 0, .int .i64 0, .int .i64 0, .int .i64 0, .int .i64 0, .int .i64 0, .int .i64 0, .int .i64 0, .int .i64 0, .int .i64 0, .int .i64 0, .slice none 0 0, .slice none 0 0, .bool false, .int .i64 0, .int .i64 0, .int .i64 0, .int .i64 0, .int .i64 0, .int .i64 0, .int .i64 0, .int .i64 0, .bool false] 39))
  have Z0 := Lib.hid ((Hold.new w [.int .i64 0, .int .i64 0, .int .i64 0, .int .i64 0, .int .i64 0, .int .i64 0, .int .i64 0, .int .i64 0, .int .i64 0, .int .i64 0, .int .i64 0, .int .i64 0, .int .i64 0, .int .i64 0, .int .i64 0, .int .i64 0, .int .i64 0, .int .i64 0, .slice none 0 0, .slice none 0 0, .bool false, .int .i64 0, .int .i64 0, .int .i64 0, .int .i64 0, .int .i64 0, .int .i64 0, .int .i64 0, .int .i64 0, .bool false] 39).alloc (.cells #[.int .i64 0, .int .i64 0, .int .i64 0, .int .i64 0, .int .i64 0, .int .i64 0, .int .i64 0, .int .i64 0, .int .i64 0, .int .i64 0, .int .i64 0, .int .i64 0, .int .i64 0, .int .i64 0, .int .i64 0, .int .i64 0, .int .i64 0, .int .i64 0, .slice none 0 0, .slice none 0 0, .bool false, .int .i64 0, .int .i64 0, .int .i64 0, .int .i64 0, .int .i64 0, .int .i64 0, .int .i64 0, .int .i64 0, .bool false] 39))
  have C0 := Lib.hid (show Hold ((w.alloc (.cells #[.int .i64 0, .int .i64 0, .int .i64 0, .int .i64 0, .int .i64 0, .int .i64 0, .int .i64 0, .int .i64 0, .int .i64 0, .int .i64 0, .int .i64 0, .int .i64 0, .int .i64 0, .int .i64 0, .int .i64 0, .int .i64 0, .int .i64 0, .int .i64 0, .slice none 0 0, .slice none 0 0, .bool false, .int .i64 0, .int .i64 0, .int .i64 0, .int .i64 0, .int .i64 0, .int .i64 0, .int .i64 0, .int .i64 0, .bool false] 39)).alloc (.cells #[.int .i64 0, .int .i64 0, .int .i64 0, .int .i64 0, .int .i64 0, .int .i64 0, .int .i64 0, .int .i64 0, .int .i64 0, .int .i64 0, .int .i64 0, .int .i64 0, .int .i64 0, .int .i64 0, .int .i64 0, .int .i64 0, .int .i64 0, .int .i64 0, .slice none 0 0, .slice none 0 0, .bool false, .int .i64 0, .int .i64 0, .int .i64 0, .int .i64 0, .int .i64 0, .int .i64 0, .int .i64 0, .int .i64 0, .bool false] 39)) (w.heap.size + 1) 39 [.int .i64 0, .int .i64 0, .int .i64 0, .int .i64 0, .int .i64 0, .int .i64 0, .int .i64 0, .int .i64 0, .int .i64 0, .int .i64 0, .int .i64 0, .int .i64 0, .int .i64 0, .int .i64 0, .int .i64 0, .int .i64 0, .int .i64 0, .int .i64 0, .slice none 0 0, .slice none 0 0, .bool false, .int .i64 0, .int .i64 0, .int .i64 0, .int .i64 0, .int .i64 0, .int .i64 0, .int .i64 0, .int .i64 0, .bool false] by simpa using Hold.new (w.alloc (.cells #[.int .i64 0, .int .i64 0, .int .i64 0, .int .i64 0, .int .i64 0, .int .i64 0, .int .i64 0, .int .i64 0, .int .i64 0, .int .i64 0, .int .i64 0, .int .i64 0, .int .i64 0, .int .i64 0, .int .i64 0, .int .i64 0, .int .i64 0, .int .i64 0, .slice none 0 0, .slice none 0 0, .bool false, .int .i64 0, .int .i64 0, .int .i64 0, .int .i64 0, .int .i64 0, .int .i64 0, .int .i64 0, .int .i64 0, .bool false] 39)) [.int .i64 0, .int .i64 0, .int .i64 0, .int .i64 0, .int .i64 0, .int .i64 0, .int .i64 0, .int .i64 0, .int .i64 0, .int .i64 0, .int .i64 0, .int .i64 0, .int .i64 0, .int .i64 0, .int .i64 0, .int .i64 0, .int .i64 0, .int .i64 0, .slice none 0 0, .slice none 0 0, .bool false, .int .i64 0, .int .i64 0, .int .i64 0, .int .i64 0, .int .i64 0, .int .i64 0, .int .i64 0, .int .i64 0, .bool false] 39)
  clear h
  go_enter Try.func82, Try.ntmps82
  go_wp2_with (fail)
  refine (number_any R0.out).mono ?_
  rintro e w1 ⟨s1, a1, rfl, -, hr, hb, ha1⟩
  have R1 := Lib.hid hr
  have B1 := Lib.hid (B0.out.trans hb (by have := B0.out.size; omega))
  have Z1 := Lib.hid (Z0.out.bel hb (by omega))
  have C1 := Lib.hid (C0.out.bel hb (by omega))
  have Pa1 := Lib.hid ha1
  clear hr hb ha1
  clear R0 B0 Z0 C0
  have c0 := C1.out.cell 0 rfl
  have f0 := C1.out.soft 0
  have R1a := Lib.hid (R1.out.bel (Bel.store (w1) (w.heap.size + 1) 0 (encN a1)) (by omega))
  have B1a := Lib.hid (B1.out.on (Bel.store (w1) (w.heap.size + 1) 0 (encN a1)) (.inr (by omega)) B1.out.size)
  have Z1a := Lib.hid (Z1.out.bel (Bel.store (w1) (w.heap.size + 1) 0 (encN a1)) (by omega))
  have C1a := Lib.hid (show Hold ((w1).setCell ⟨(w.heap.size + 1), 0, none⟩ (encN a1)) (w.heap.size + 1) 39 [encN a1, .int .i64 0, .int .i64 0, .int .i64 0, .int .i64 0, .int .i64 0, .int .i64 0, .int .i64 0, .int .i64 0, .int .i64 0, .int .i64 0, .int .i64 0, .int .i64 0, .int .i64 0, .int .i64 0, .int .i64 0, .int .i64 0, .int .i64 0, .slice none 0 0, .slice none 0 0, .bool false, .int .i64 0, .int .i64 0, .int .i64 0, .int .i64 0, .int .i64 0, .int .i64 0, .int .i64 0, .int .i64 0, .bool false] from C1.out.put 0 (encN a1))
  clear R1 B1 Z1 C1
  go_wp2_with (fail)
  refine (number_any R1a.out).mono ?_
  rintro e w2 ⟨s2, a2, rfl, -, hr, hb, ha2⟩
  have R2 := Lib.hid hr
  have B2 := Lib.hid (B1a.out.trans hb (by have := B1a.out.size; omega))
  have Z2 := Lib.hid (Z1a.out.bel hb (by omega))
  have C2 := Lib.hid (C1a.out.bel hb (by omega))
  have Pa2 := Lib.hid ha2
  clear hr hb ha2
  clear R1a B1a Z1a C1a
  clear c0 f0
  have c0 := C2.out.cell 1 rfl
  have f0 := C2.out.soft 1
  have R2a := Lib.hid (R2.out.bel (Bel.store (w2) (w.heap.size + 1) 1 (encN a2)) (by omega))
  have B2a := Lib.hid (B2.out.on (Bel.store (w2) (w.heap.size + 1) 1 (encN a2)) (.inr (by omega)) B2.out.size)
  have Z2a := Lib.hid (Z2.out.bel (Bel.store (w2) (w.heap.size + 1) 1 (encN a2)) (by omega))
  have C2a := Lib.hid (show Hold ((w2).setCell ⟨(w.heap.size + 1), 1, none⟩ (encN a2)) (w.heap.size + 1) 39 [encN a1, encN a2, .int .i64 0, .int .i64 0, .int .i64 0, .int .i64 0, .int .i64 0, .int .i64 0, .int .i64 0, .int .i64 0, .int .i64 0, .int .i64 0, .int .i64 0, .int .i64 0, .int .i64 0, .int .i64 0, .int .i64 0, .int .i64 0, .slice none 0 0, .slice none 0 0, .bool false, .int .i64 0, .int .i64 0, .int .i64 0, .int .i64 0, .int .i64 0, .int .i64 0, .int .i64 0, .int .i64 0, .bool false] from C2.out.put 1 (encN a2))
  clear R2 B2 Z2 C2
  go_wp2_with (fail)
  refine (number_any R2a.out).mono ?_
  rintro e w3 ⟨s3, a3, rfl, -, hr, hb, ha3⟩
  have R3 := Lib.hid hr
  have B3 := Lib.hid (B2a.out.trans hb (by have := B2a.out.size; omega))
  have Z3 := Lib.hid (Z2a.out.bel hb (by omega))
  have C3 := Lib.hid (C2a.out.bel hb (by omega))
  have Pa3 := Lib.hid ha3
  clear hr hb ha3
  clear R2a B2a Z2a C2a
  clear c0 f0
  have c0 := C3.out.cell 2 rfl
  have f0 := C3.out.soft 2
  have R3a := Lib.hid (R3.out.bel (Bel.store (w3) (w.heap.size + 1) 2 (encN a3)) (by omega))
  have B3a := Lib.hid (B3.out.on (Bel.store (w3) (w.heap.size + 1) 2 (encN a3)) (.inr (by omega)) B3.out.size)
  have Z3a := Lib.hid (Z3.out.bel (Bel.store (w3) (w.heap.size + 1) 2 (encN a3)) (by omega))
  have C3a := Lib.hid (show Hold ((w3).setCell ⟨(w.heap.size + 1), 2, none⟩ (encN a3)) (w.heap.size + 1) 39 [encN a1, encN a2, encN a3, .int .i64 0, .int .i64 0, .int .i64 0, .int .i64 0, .int .i64 0, .int .i64 0, .int .i64 0, .int .i64 0, .int .i64 0, .int .i64 0, .int .i64 0, .int .i64 0, .int .i64 0, .int .i64 0, .int .i64 0, .slice none 0 0, .slice none 0 0, .bool false, .int .i64 0, .int .i64 0, .int .i64 0, .int .i64 0, .int .i64 0, .int .i64 0, .int .i64 0, .int .i64 0, .bool false] from C3.out.put 2 (encN a3))
  clear R3 B3 Z3 C3
  go_wp2_with (fail)
  refine (ballot_any R3a.out).mono ?_
  rintro e w4 ⟨t4, s4, a4, a5, rfl, -, -, hr, hb, ha4, ha5⟩
  have R4 := Lib.hid hr
  have B4 := Lib.hid (B3a.out.trans hb (by have := B3a.out.size; omega))
  have Z4 := Lib.hid (Z3a.out.bel hb (by omega))
  have C4 := Lib.hid (C3a.out.bel hb (by omega))
  have Pa4 := Lib.hid ha4
  have Pa5 := Lib.hid ha5
  clear hr hb ha4 ha5
  clear R3a B3a Z3a C3a
  clear c0 f0
  have c0 := C4.out.cell 3 rfl
  have f0 := C4.out.soft 3
  have c1 := C4.out.cell 4 rfl
  have f1 := C4.out.soft 4
  have R4a := Lib.hid (R4.out.bel (Bel.store (w4) (w.heap.size + 1) 3 (encN a4)) (by omega))
  have B4a := Lib.hid (B4.out.on (Bel.store (w4) (w.heap.size + 1) 3 (encN a4)) (.inr (by omega)) B4.out.size)
  have Z4a := Lib.hid (Z4.out.bel (Bel.store (w4) (w.heap.size + 1) 3 (encN a4)) (by omega))
  have C4a := Lib.hid (show Hold ((w4).setCell ⟨(w.heap.size + 1), 3, none⟩ (encN a4)) (w.heap.size + 1) 39 [encN a1, encN a2, encN a3, encN a4, .int .i64 0, .int .i64 0, .int .i64 0, .int .i64 0, .int .i64 0, .int .i64 0, .int .i64 0, .int .i64 0, .int .i64 0, .int .i64 0, .int .i64 0, .int .i64 0, .int .i64 0, .int .i64 0, .slice none 0 0, .slice none 0 0, .bool false, .int .i64 0, .int .i64 0, .int .i64 0, .int .i64 0, .int .i64 0, .int .i64 0, .int .i64 0, .int .i64 0, .bool false] from C4.out.put 3 (encN a4))
  clear R4 B4 Z4 C4
  have R4b := Lib.hid (R4a.out.bel (Bel.store ((w4).setCell ⟨(w.heap.size + 1), 3, none⟩ (encN a4)) (w.heap.size + 1) 4 (encN a5)) (by omega))
  have B4b := Lib.hid (B4a.out.on (Bel.store ((w4).setCell ⟨(w.heap.size + 1), 3, none⟩ (encN a4)) (w.heap.size + 1) 4 (encN a5)) (.inr (by omega)) B4a.out.size)
  have Z4b := Lib.hid (Z4a.out.bel (Bel.store ((w4).setCell ⟨(w.heap.size + 1), 3, none⟩ (encN a4)) (w.heap.size + 1) 4 (encN a5)) (by omega))
  have C4b := Lib.hid (show Hold (((w4).setCell ⟨(w.heap.size + 1), 3, none⟩ (encN a4)).setCell ⟨(w.heap.size + 1), 4, none⟩ (encN a5)) (w.heap.size + 1) 39 [encN a1, encN a2, encN a3, encN a4, encN a5, .int .i64 0, .int .i64 0, .int .i64 0, .int .i64 0, .int .i64 0, .int .i64 0, .int .i64 0, .int .i64 0, .int .i64 0, .int .i64 0, .int .i64 0, .int .i64 0, .int .i64 0, .slice none 0 0, .slice none 0 0, .bool false, .int .i64 0, .int .i64 0, .int .i64 0, .int .i64 0, .int .i64 0, .int .i64 0, .int .i64 0, .int .i64 0, .bool false] from C4a.out.put 4 (encN a5))
  clear R4a B4a Z4a C4a
  go_wp2_with (fail)
  refine (mark_any 2 rfl R4b.out).mono ?_
  rintro e w5 ⟨s5, _, rfl, -, hr, hb, hmk⟩
  have R5 := Lib.hid hr
  have B5 := Lib.hid (B4b.out.trans hb (by have := B4b.out.size; omega))
  have Z5 := Lib.hid (Z4b.out.bel hb (by omega))
  have C5 := Lib.hid (C4b.out.bel hb (by omega))
  have Pmk := Lib.hid hmk
  clear hr hb hmk
  clear R4b B4b Z4b C4b
  clear c0 f0 c1 f1
  go_wp2_with (fail)
  refine (record_any R5.out).mono ?_
  rintro e w11 ⟨s11, r, va, vb, rfl, hra, hrb, hr, hb, hp, hl1, hl2⟩
  obtain ⟨A1, k1, rfl⟩ := ownsRow_slice hra
  obtain ⟨A2, k2, rfl⟩ := ownsRow_slice hrb
  have BS := B5.out.size
  have zl := Z5.out.lt
  have xl := C5.out.lt
  have R11 := Lib.hid hr
  have B11 := Lib.hid (B5.out.trans hb (by have := B5.out.size; omega))
  have Z11 := Lib.hid (Z5.out.bel hb (by omega))
  have C11 := Lib.hid (C5.out.bel hb (by omega))
  have K1 := Lib.hid hra
  have K2 := Lib.hid hrb
  have PC := Lib.hid hp
  have N1 := Lib.hid hl1
  have N2 := Lib.hid hl2
  clear hr hb hp hl1 hl2 hra hrb
  clear R5 B5 Z5 C5
  have T1 := Lib.hid (show w11.there (w.heap.size + 1) 5 ([.int .i64 r.ir, .int .i64 r.is, .int .i64 r.st, .int .i64 r.pn, .int .i64 r.pr, .int .i64 r.bn, .int .i64 r.br, .int .i64 r.c.k, .int .i64 r.c.tc, .int .i64 r.c.tn, .int .i64 r.c.tt, .int .i64 r.c.tk, .int .i64 r.c.sh, (.slice A1 r.c.rs.length k1), (.slice A2 r.c.ws.length k2), .bool r.c.cm, .int .i64 r.sq, .int .i64 r.d0, .int .i64 r.d1, .int .i64 r.d2, .int .i64 r.d3, .int .i64 r.d4, .int .i64 r.d5, .int .i64 r.d6, .bool r.kp] : List Value).length from C11.out.there (by show 5 + 25 ≤ 30; omega))
  have FP := Hold.set [.int .i64 r.ir, .int .i64 r.is, .int .i64 r.st, .int .i64 r.pn, .int .i64 r.pr, .int .i64 r.bn, .int .i64 r.br, .int .i64 r.c.k, .int .i64 r.c.tc, .int .i64 r.c.tn, .int .i64 r.c.tt, .int .i64 r.c.tk, .int .i64 r.c.sh, (.slice A1 r.c.rs.length k1), (.slice A2 r.c.ws.length k2), .bool r.c.cm, .int .i64 r.sq, .int .i64 r.d0, .int .i64 r.d1, .int .i64 r.d2, .int .i64 r.d3, .int .i64 r.d4, .int .i64 r.d5, .int .i64 r.d6, .bool r.kp] [encN a1, encN a2, encN a3, encN a4, encN a5] [.int .i64 0, .int .i64 0, .int .i64 0, .int .i64 0, .int .i64 0, .int .i64 0, .int .i64 0, .int .i64 0, .int .i64 0, .int .i64 0, .int .i64 0, .int .i64 0, .int .i64 0, .slice none 0 0, .slice none 0 0, .bool false, .int .i64 0, .int .i64 0, .int .i64 0, .int .i64 0, .int .i64 0, .int .i64 0, .int .i64 0, .int .i64 0, .bool false] [] rfl _ (show Hold w11 (w.heap.size + 1) 39 ([encN a1, encN a2, encN a3, encN a4, encN a5] ++ [.int .i64 0, .int .i64 0, .int .i64 0, .int .i64 0, .int .i64 0, .int .i64 0, .int .i64 0, .int .i64 0, .int .i64 0, .int .i64 0, .int .i64 0, .int .i64 0, .int .i64 0, .slice none 0 0, .slice none 0 0, .bool false, .int .i64 0, .int .i64 0, .int .i64 0, .int .i64 0, .int .i64 0, .int .i64 0, .int .i64 0, .int .i64 0, .bool false] ++ []) from C11.out)
  have se := bel_setCells w11 (w.heap.size + 1) [.int .i64 r.ir, .int .i64 r.is, .int .i64 r.st, .int .i64 r.pn, .int .i64 r.pr, .int .i64 r.bn, .int .i64 r.br, .int .i64 r.c.k, .int .i64 r.c.tc, .int .i64 r.c.tn, .int .i64 r.c.tt, .int .i64 r.c.tk, .int .i64 r.c.sh, (.slice A1 r.c.rs.length k1), (.slice A2 r.c.ws.length k2), .bool r.c.cm, .int .i64 r.sq, .int .i64 r.d0, .int .i64 r.d1, .int .i64 r.d2, .int .i64 r.d3, .int .i64 r.d4, .int .i64 r.d5, .int .i64 r.d6, .bool r.kp] 5
  have C12 := Lib.hid (show Hold (w11.setCells (w.heap.size + 1) 5 [.int .i64 r.ir, .int .i64 r.is, .int .i64 r.st, .int .i64 r.pn, .int .i64 r.pr, .int .i64 r.bn, .int .i64 r.br, .int .i64 r.c.k, .int .i64 r.c.tc, .int .i64 r.c.tn, .int .i64 r.c.tt, .int .i64 r.c.tk, .int .i64 r.c.sh, (.slice A1 r.c.rs.length k1), (.slice A2 r.c.ws.length k2), .bool r.c.cm, .int .i64 r.sq, .int .i64 r.d0, .int .i64 r.d1, .int .i64 r.d2, .int .i64 r.d3, .int .i64 r.d4, .int .i64 r.d5, .int .i64 r.d6, .bool r.kp]) (w.heap.size + 1) 39 [encN a1, encN a2, encN a3, encN a4, encN a5, .int .i64 r.ir, .int .i64 r.is, .int .i64 r.st, .int .i64 r.pn, .int .i64 r.pr, .int .i64 r.bn, .int .i64 r.br, .int .i64 r.c.k, .int .i64 r.c.tc, .int .i64 r.c.tn, .int .i64 r.c.tt, .int .i64 r.c.tk, .int .i64 r.c.sh, (.slice A1 r.c.rs.length k1), (.slice A2 r.c.ws.length k2), .bool r.c.cm, .int .i64 r.sq, .int .i64 r.d0, .int .i64 r.d1, .int .i64 r.d2, .int .i64 r.d3, .int .i64 r.d4, .int .i64 r.d5, .int .i64 r.d6, .bool r.kp] from FP)
  have R12 := Lib.hid (R11.out.bel se (by omega))
  have B12 := Lib.hid (B11.out.on se (.inr (by omega)) B11.out.size)
  have Z12 := Lib.hid (Z11.out.bel se (by omega))
  have K3 := Lib.hid (ownsRow_bel K1.out se xl)
  have K4 := Lib.hid (ownsRow_bel K2.out se xl)
  obtain ⟨w12, e12⟩ : ∃ w12, w12 = w11.setCells (w.heap.size + 1) 5 [.int .i64 r.ir, .int .i64 r.is, .int .i64 r.st, .int .i64 r.pn, .int .i64 r.pr, .int .i64 r.bn, .int .i64 r.br, .int .i64 r.c.k, .int .i64 r.c.tc, .int .i64 r.c.tn, .int .i64 r.c.tt, .int .i64 r.c.tk, .int .i64 r.c.sh, (.slice A1 r.c.rs.length k1), (.slice A2 r.c.ws.length k2), .bool r.c.cm, .int .i64 r.sq, .int .i64 r.d0, .int .i64 r.d1, .int .i64 r.d2, .int .i64 r.d3, .int .i64 r.d4, .int .i64 r.d5, .int .i64 r.d6, .bool r.kp] := ⟨_, rfl⟩
  rw [← e12] at C12 R12 B12 Z12 K3 K4
  clear FP se C11 R11 B11 Z11 K1 K2
  have T2 := Lib.hid (show w12.there w.heap.size 0 ([encN a1, encN a2, encN a3, encN a4, encN a5, .int .i64 r.ir, .int .i64 r.is, .int .i64 r.st, .int .i64 r.pn, .int .i64 r.pr, .int .i64 r.bn, .int .i64 r.br, .int .i64 r.c.k, .int .i64 r.c.tc, .int .i64 r.c.tn, .int .i64 r.c.tt, .int .i64 r.c.tk, .int .i64 r.c.sh, (.slice A1 r.c.rs.length k1), (.slice A2 r.c.ws.length k2), .bool r.c.cm, .int .i64 r.sq, .int .i64 r.d0, .int .i64 r.d1, .int .i64 r.d2, .int .i64 r.d3, .int .i64 r.d4, .int .i64 r.d5, .int .i64 r.d6, .bool r.kp] : List Value).length from Z12.out.there (Nat.le_refl 30))
  go_wp2_with
    (first
     | (with_reducible refine store_list rfl 37 _ _ rfl (w.heap.size + 1) 5 [.int .i64 r.ir, .int .i64 r.is, .int .i64 r.st, .int .i64 r.pn, .int .i64 r.pr, .int .i64 r.bn, .int .i64 r.br, .int .i64 r.c.k, .int .i64 r.c.tc, .int .i64 r.c.tn, .int .i64 r.c.tt, .int .i64 r.c.tk, .int .i64 r.c.sh, (.slice A1 r.c.rs.length k1), (.slice A2 r.c.ws.length k2), .bool r.c.cm, .int .i64 r.sq, .int .i64 r.d0, .int .i64 r.d1, .int .i64 r.d2, .int .i64 r.d3, .int .i64 r.d4, .int .i64 r.d5, .int .i64 r.d6, .bool r.kp] rfl rfl T1.out (by kernel_rfl) (by kernel_rfl) ?_)
     | (with_reducible refine wpList_load_mid rfl 39 _ rfl (w.heap.size + 1) 0 rfl [encN a1, encN a2, encN a3, encN a4, encN a5, .int .i64 r.ir, .int .i64 r.is, .int .i64 r.st, .int .i64 r.pn, .int .i64 r.pr, .int .i64 r.bn, .int .i64 r.br, .int .i64 r.c.k, .int .i64 r.c.tc, .int .i64 r.c.tn, .int .i64 r.c.tt, .int .i64 r.c.tk, .int .i64 r.c.sh, (.slice A1 r.c.rs.length k1), (.slice A2 r.c.ws.length k2), .bool r.c.cm, .int .i64 r.sq, .int .i64 r.d0, .int .i64 r.d1, .int .i64 r.d2, .int .i64 r.d3, .int .i64 r.d4, .int .i64 r.d5, .int .i64 r.d6, .bool r.kp] _ (by rw [← e12]; exact C12.out.cel.whole) Try.underlying39 rfl (by kernel_rfl) ?_)
     | (with_reducible refine store_list rfl 39 _ _ rfl w.heap.size 0 [encN a1, encN a2, encN a3, encN a4, encN a5, .int .i64 r.ir, .int .i64 r.is, .int .i64 r.st, .int .i64 r.pn, .int .i64 r.pr, .int .i64 r.bn, .int .i64 r.br, .int .i64 r.c.k, .int .i64 r.c.tc, .int .i64 r.c.tn, .int .i64 r.c.tt, .int .i64 r.c.tk, .int .i64 r.c.sh, (.slice A1 r.c.rs.length k1), (.slice A2 r.c.ws.length k2), .bool r.c.cm, .int .i64 r.sq, .int .i64 r.d0, .int .i64 r.d1, .int .i64 r.d2, .int .i64 r.d3, .int .i64 r.d4, .int .i64 r.d5, .int .i64 r.d6, .bool r.kp] rfl rfl (by rw [← e12]; exact T2.out) (by kernel_rfl) (by kernel_rfl) ?_))
  rw [← e12]
  have FP := Hold.set [encN a1, encN a2, encN a3, encN a4, encN a5, .int .i64 r.ir, .int .i64 r.is, .int .i64 r.st, .int .i64 r.pn, .int .i64 r.pr, .int .i64 r.bn, .int .i64 r.br, .int .i64 r.c.k, .int .i64 r.c.tc, .int .i64 r.c.tn, .int .i64 r.c.tt, .int .i64 r.c.tk, .int .i64 r.c.sh, (.slice A1 r.c.rs.length k1), (.slice A2 r.c.ws.length k2), .bool r.c.cm, .int .i64 r.sq, .int .i64 r.d0, .int .i64 r.d1, .int .i64 r.d2, .int .i64 r.d3, .int .i64 r.d4, .int .i64 r.d5, .int .i64 r.d6, .bool r.kp] [] [.int .i64 0, .int .i64 0, .int .i64 0, .int .i64 0, .int .i64 0, .int .i64 0, .int .i64 0, .int .i64 0, .int .i64 0, .int .i64 0, .int .i64 0, .int .i64 0, .int .i64 0, .int .i64 0, .int .i64 0, .int .i64 0, .int .i64 0, .int .i64 0, .slice none 0 0, .slice none 0 0, .bool false, .int .i64 0, .int .i64 0, .int .i64 0, .int .i64 0, .int .i64 0, .int .i64 0, .int .i64 0, .int .i64 0, .bool false] [] rfl _ (show Hold w12 w.heap.size 39 ([] ++ [.int .i64 0, .int .i64 0, .int .i64 0, .int .i64 0, .int .i64 0, .int .i64 0, .int .i64 0, .int .i64 0, .int .i64 0, .int .i64 0, .int .i64 0, .int .i64 0, .int .i64 0, .int .i64 0, .int .i64 0, .int .i64 0, .int .i64 0, .int .i64 0, .slice none 0 0, .slice none 0 0, .bool false, .int .i64 0, .int .i64 0, .int .i64 0, .int .i64 0, .int .i64 0, .int .i64 0, .int .i64 0, .int .i64 0, .bool false] ++ []) from Z12.out)
  have FH := Lib.hid (show Hold (w12.setCells w.heap.size 0 [encN a1, encN a2, encN a3, encN a4, encN a5, .int .i64 r.ir, .int .i64 r.is, .int .i64 r.st, .int .i64 r.pn, .int .i64 r.pr, .int .i64 r.bn, .int .i64 r.br, .int .i64 r.c.k, .int .i64 r.c.tc, .int .i64 r.c.tn, .int .i64 r.c.tt, .int .i64 r.c.tk, .int .i64 r.c.sh, (.slice A1 r.c.rs.length k1), (.slice A2 r.c.ws.length k2), .bool r.c.cm, .int .i64 r.sq, .int .i64 r.d0, .int .i64 r.d1, .int .i64 r.d2, .int .i64 r.d3, .int .i64 r.d4, .int .i64 r.d5, .int .i64 r.d6, .bool r.kp]) w.heap.size 39 [encN a1, encN a2, encN a3, encN a4, encN a5, .int .i64 r.ir, .int .i64 r.is, .int .i64 r.st, .int .i64 r.pn, .int .i64 r.pr, .int .i64 r.bn, .int .i64 r.br, .int .i64 r.c.k, .int .i64 r.c.tc, .int .i64 r.c.tn, .int .i64 r.c.tt, .int .i64 r.c.tk, .int .i64 r.c.sh, (.slice A1 r.c.rs.length k1), (.slice A2 r.c.ws.length k2), .bool r.c.cm, .int .i64 r.sq, .int .i64 r.d0, .int .i64 r.d1, .int .i64 r.d2, .int .i64 r.d3, .int .i64 r.d4, .int .i64 r.d5, .int .i64 r.d6, .bool r.kp] from FP)
  have SB := bel_setCells w12 w.heap.size [encN a1, encN a2, encN a3, encN a4, encN a5, .int .i64 r.ir, .int .i64 r.is, .int .i64 r.st, .int .i64 r.pn, .int .i64 r.pr, .int .i64 r.bn, .int .i64 r.br, .int .i64 r.c.k, .int .i64 r.c.tc, .int .i64 r.c.tn, .int .i64 r.c.tt, .int .i64 r.c.tk, .int .i64 r.c.sh, (.slice A1 r.c.rs.length k1), (.slice A2 r.c.ws.length k2), .bool r.c.cm, .int .i64 r.sq, .int .i64 r.d0, .int .i64 r.d1, .int .i64 r.d2, .int .i64 r.d3, .int .i64 r.d4, .int .i64 r.d5, .int .i64 r.d6, .bool r.kp] 0
  have K5 := Lib.hid (ownsRow_baseN (base' := w.heap.size) (ownsRow_bel K3.out SB zl) (by omega))
  have K6 := Lib.hid (ownsRow_baseN (base' := w.heap.size) (ownsRow_bel K4.out SB zl) (by omega))
  refine bodyPost_ret (results_c rfl rfl FH.out.cel.whole _ Try.underlying39 rfl (by kernel_rfl)) rfl ?_
  refine ⟨s11, ⟨a1, a2, a3, a4, a5, r⟩, _, _, rfl, K5.out, K6.out, R12.out.bel SB (by omega), B12.out.on SB (.inr (by omega)) B12.out.size, ?_, N1.out, N2.out⟩
  exact P.Ran.bind P.errs_num Pa1.out (P.Ran.bind P.errs_num Pa2.out (P.Ran.bind P.errs_num Pa3.out (P.Ran.bind P.errs_num Pa4.out (P.Ran.bind P.errs_num Pa5.out (P.Ran.bind (P.errs_mark 2) Pmk.out (P.Ran.bind P.errs_rcd PC.out (P.Ran.ret _ _)))))))
end Go.Proofs.Ytagngbdlpdilnaa
