/- Contract of the document's record; no conditions but those that it names. -/
import Derived.Test.YtagngbdlpdilnaaDocd
import Derived.Great.BuildSlice
namespace Go.Proofs.Ytagngbdlpdilnaa
open Go.ChangeShapes Go.WideShapes Go.ChangeAt Go.RowKit

/-- What the document's record answers. -/
def DcR (w0 : World) (s : P.Sr) (w : World) (e : Ending) (w' : World) : Prop := ∃ (s1 : P.Sr) (r : M.Rec) (va vb x : Value), e = .returned (.tuple #[x, .agg #[.int .i64 r.ir, .int .i64 r.is, .int .i64 r.st, .int .i64 r.pn, .int .i64 r.pr, .int .i64 r.bn, .int .i64 r.br, .int .i64 r.c.k, .int .i64 r.c.tc, .int .i64 r.c.tn, .int .i64 r.c.tt, .int .i64 r.c.tk, .int .i64 r.c.sh, va, vb, .bool r.c.cm, .int .i64 r.sq, .int .i64 r.d0, .int .i64 r.d1, .int .i64 r.d2, .int .i64 r.d3, .int .i64 r.d4, .int .i64 r.d5, .int .i64 r.d6, .bool r.kp]]) ∧ Prt w0 x s1 ∧ w'.ownsRow w.heap.size 74 3 va r.c.rs.length (rdsC r.c.rs) ∧ w'.ownsRow w.heap.size 76 2 vb r.c.ws.length (wrsC r.c.ws) ∧ Below w.heap.size w w' ∧ P.Ran P.rcd s s1 r ∧ M.Mod r.c

set_option maxHeartbeats 16000000 in
set_option maxRecDepth 100000 in
theorem record_doc {w0 w : World} {x : Value} {s : P.Sr} (hw : Below w0.heap.size w0 w) (h : Prt w0 x s) : Calls Try.prog 56 #[x] w (DcR w0 s w) := by
  obtain ⟨A0, c0, rfl, hq⟩ := h
  have D0 := Lib.hid (show Prt w0 _ s from ⟨A0, c0, rfl, hq⟩)
  have HW := Lib.hid hw
  have P0 := Lib.hid ((((Hold.new w [.slice A0 s.xs.length c0, .int .i64 (s.er : Int)] 98).alloc (.cells #[.slice none 0 0, .int .i64 0] 98)).alloc (.cells #[.int .i64 0, .int .i64 0, .int .i64 0, .int .i64 0, .int .i64 0, .int .i64 0, .int .i64 0, .int .i64 0, .int .i64 0, .int .i64 0, .int .i64 0, .int .i64 0, .int .i64 0, .slice none 0 0, .slice none 0 0, .bool false, .int .i64 0, .int .i64 0, .int .i64 0, .int .i64 0, .int .i64 0, .int .i64 0, .int .i64 0, .int .i64 0, .bool false] 37)).alloc (.cells #[.int .i64 0, .int .i64 0, .int .i64 0, .int .i64 0, .int .i64 0, .int .i64 0, .int .i64 0, .int .i64 0, .int .i64 0, .int .i64 0, .int .i64 0, .int .i64 0, .int .i64 0, .slice none 0 0, .slice none 0 0, .bool false, .int .i64 0, .int .i64 0, .int .i64 0, .int .i64 0, .int .i64 0, .int .i64 0, .int .i64 0, .int .i64 0, .bool false] 37))
  have Z0 := Lib.hid (((Hold.new1 w (.cells #[.slice A0 s.xs.length c0, .int .i64 (s.er : Int)] 98) [.slice none 0 0, .int .i64 0] 98).alloc (.cells #[.int .i64 0, .int .i64 0, .int .i64 0, .int .i64 0, .int .i64 0, .int .i64 0, .int .i64 0, .int .i64 0, .int .i64 0, .int .i64 0, .int .i64 0, .int .i64 0, .int .i64 0, .slice none 0 0, .slice none 0 0, .bool false, .int .i64 0, .int .i64 0, .int .i64 0, .int .i64 0, .int .i64 0, .int .i64 0, .int .i64 0, .int .i64 0, .bool false] 37)).alloc (.cells #[.int .i64 0, .int .i64 0, .int .i64 0, .int .i64 0, .int .i64 0, .int .i64 0, .int .i64 0, .int .i64 0, .int .i64 0, .int .i64 0, .int .i64 0, .int .i64 0, .int .i64 0, .slice none 0 0, .slice none 0 0, .bool false, .int .i64 0, .int .i64 0, .int .i64 0, .int .i64 0, .int .i64 0, .int .i64 0, .int .i64 0, .int .i64 0, .bool false] 37))
  have Y0 := Lib.hid ((show Hold (((w.alloc (.cells #[.slice A0 s.xs.length c0, .int .i64 (s.er : Int)] 98)).alloc (.cells #[.slice none 0 0, .int .i64 0] 98)).alloc (.cells #[.int .i64 0, .int .i64 0, .int .i64 0, .int .i64 0, .int .i64 0, .int .i64 0, .int .i64 0, .int .i64 0, .int .i64 0, .int .i64 0, .int .i64 0, .int .i64 0, .int .i64 0, .slice none 0 0, .slice none 0 0, .bool false, .int .i64 0, .int .i64 0, .int .i64 0, .int .i64 0, .int .i64 0, .int .i64 0, .int .i64 0, .int .i64 0, .bool false] 37)) (w.heap.size + 2) 37 [.int .i64 0, .int .i64 0, .int .i64 0, .int .i64 0, .int .i64 0, .int .i64 0, .int .i64 0, .int .i64 0, .int .i64 0, .int .i64 0, .int .i64 0, .int .i64 0, .int .i64 0, .slice none 0 0, .slice none 0 0, .bool false, .int .i64 0, .int .i64 0, .int .i64 0, .int .i64 0, .int .i64 0, .int .i64 0, .int .i64 0, .int .i64 0, .bool false] by simpa using Hold.new ((w.alloc (.cells #[.slice A0 s.xs.length c0, .int .i64 (s.er : Int)] 98)).alloc (.cells #[.slice none 0 0, .int .i64 0] 98)) [.int .i64 0, .int .i64 0, .int .i64 0, .int .i64 0, .int .i64 0, .int .i64 0, .int .i64 0, .int .i64 0, .int .i64 0, .int .i64 0, .int .i64 0, .int .i64 0, .int .i64 0, .slice none 0 0, .slice none 0 0, .bool false, .int .i64 0, .int .i64 0, .int .i64 0, .int .i64 0, .int .i64 0, .int .i64 0, .int .i64 0, .int .i64 0, .bool false] 37).alloc (.cells #[.int .i64 0, .int .i64 0, .int .i64 0, .int .i64 0, .int .i64 0, .int .i64 0, .int .i64 0, .int .i64 0, .int .i64 0, .int .i64 0, .int .i64 0, .int .i64 0, .int .i64 0, .slice none 0 0, .slice none 0 0, .bool false, .int .i64 0, .int .i64 0, .int .i64 0, .int .i64 0, .int .i64 0, .int .i64 0, .int .i64 0, .int .i64 0, .bool false] 37))
  have C0 := Lib.hid (show Hold ((((w.alloc (.cells #[.slice A0 s.xs.length c0, .int .i64 (s.er : Int)] 98)).alloc (.cells #[.slice none 0 0, .int .i64 0] 98)).alloc (.cells #[.int .i64 0, .int .i64 0, .int .i64 0, .int .i64 0, .int .i64 0, .int .i64 0, .int .i64 0, .int .i64 0, .int .i64 0, .int .i64 0, .int .i64 0, .int .i64 0, .int .i64 0, .slice none 0 0, .slice none 0 0, .bool false, .int .i64 0, .int .i64 0, .int .i64 0, .int .i64 0, .int .i64 0, .int .i64 0, .int .i64 0, .int .i64 0, .bool false] 37)).alloc (.cells #[.int .i64 0, .int .i64 0, .int .i64 0, .int .i64 0, .int .i64 0, .int .i64 0, .int .i64 0, .int .i64 0, .int .i64 0, .int .i64 0, .int .i64 0, .int .i64 0, .int .i64 0, .slice none 0 0, .slice none 0 0, .bool false, .int .i64 0, .int .i64 0, .int .i64 0, .int .i64 0, .int .i64 0, .int .i64 0, .int .i64 0, .int .i64 0, .bool false] 37)) (w.heap.size + 3) 37 [.int .i64 0, .int .i64 0, .int .i64 0, .int .i64 0, .int .i64 0, .int .i64 0, .int .i64 0, .int .i64 0, .int .i64 0, .int .i64 0, .int .i64 0, .int .i64 0, .int .i64 0, .slice none 0 0, .slice none 0 0, .bool false, .int .i64 0, .int .i64 0, .int .i64 0, .int .i64 0, .int .i64 0, .int .i64 0, .int .i64 0, .int .i64 0, .bool false] by simpa using Hold.new (((w.alloc (.cells #[.slice A0 s.xs.length c0, .int .i64 (s.er : Int)] 98)).alloc (.cells #[.slice none 0 0, .int .i64 0] 98)).alloc (.cells #[.int .i64 0, .int .i64 0, .int .i64 0, .int .i64 0, .int .i64 0, .int .i64 0, .int .i64 0, .int .i64 0, .int .i64 0, .int .i64 0, .int .i64 0, .int .i64 0, .int .i64 0, .slice none 0 0, .slice none 0 0, .bool false, .int .i64 0, .int .i64 0, .int .i64 0, .int .i64 0, .int .i64 0, .int .i64 0, .int .i64 0, .int .i64 0, .bool false] 37)) [.int .i64 0, .int .i64 0, .int .i64 0, .int .i64 0, .int .i64 0, .int .i64 0, .int .i64 0, .int .i64 0, .int .i64 0, .int .i64 0, .int .i64 0, .int .i64 0, .int .i64 0, .slice none 0 0, .slice none 0 0, .bool false, .int .i64 0, .int .i64 0, .int .i64 0, .int .i64 0, .int .i64 0, .int .i64 0, .int .i64 0, .int .i64 0, .bool false] 37)
  have B0 := Lib.hid (below_new (o := .cells #[.int .i64 0, .int .i64 0, .int .i64 0, .int .i64 0, .int .i64 0, .int .i64 0, .int .i64 0, .int .i64 0, .int .i64 0, .int .i64 0, .int .i64 0, .int .i64 0, .int .i64 0, .slice none 0 0, .slice none 0 0, .bool false, .int .i64 0, .int .i64 0, .int .i64 0, .int .i64 0, .int .i64 0, .int .i64 0, .int .i64 0, .int .i64 0, .bool false] 37) (below_new (o := .cells #[.int .i64 0, .int .i64 0, .int .i64 0, .int .i64 0, .int .i64 0, .int .i64 0, .int .i64 0, .int .i64 0, .int .i64 0, .int .i64 0, .int .i64 0, .int .i64 0, .int .i64 0, .slice none 0 0, .slice none 0 0, .bool false, .int .i64 0, .int .i64 0, .int .i64 0, .int .i64 0, .int .i64 0, .int .i64 0, .int .i64 0, .int .i64 0, .bool false] 37) (below_new (o := .cells #[.slice none 0 0, .int .i64 0] 98) (below_new (o := .cells #[.slice A0 s.xs.length c0, .int .i64 (s.er : Int)] 98) (Below.refl w.heap.size w)))))
  clear hq hw
  go_enter Try.func56, Try.ntmps56
  go_wp2_with (first | (with_reducible refine wpList_buildTo rfl 37 #[] rfl (some 7) rfl #[.int .i64 0, .int .i64 0, .int .i64 0, .int .i64 0, .int .i64 0, .int .i64 0, .int .i64 0, .int .i64 0, .int .i64 0, .int .i64 0, .int .i64 0, .int .i64 0, .int .i64 0, .slice none 0 0, .slice none 0 0, .bool false, .int .i64 0, .int .i64 0, .int .i64 0, .int .i64 0, .int .i64 0, .int .i64 0, .int .i64 0, .int .i64 0, .bool false] (by kernel_rfl) ?_) | (with_reducible refine wpList_store_fresh rfl 37 _ _ rfl (w.heap.size + 1 + 1 + 1) (by simp) 37 _ [.int .i64 0, .int .i64 0, .int .i64 0, .int .i64 0, .int .i64 0, .int .i64 0, .int .i64 0, .int .i64 0, .int .i64 0, .int .i64 0, .int .i64 0, .int .i64 0, .int .i64 0, .slice none 0 0, .slice none 0 0, .bool false, .int .i64 0, .int .i64 0, .int .i64 0, .int .i64 0, .int .i64 0, .int .i64 0, .int .i64 0, .int .i64 0, .bool false] rfl rfl rfl (by kernel_rfl) rfl ?_; obtain ⟨wk, ek⟩ : ∃ wk, wk = (((w.alloc (.cells #[.slice A0 s.xs.length c0, .int .i64 (s.er : Int)] 98)).alloc (.cells #[.slice none 0 0, .int .i64 0] 98)).alloc (.cells #[.int .i64 0, .int .i64 0, .int .i64 0, .int .i64 0, .int .i64 0, .int .i64 0, .int .i64 0, .int .i64 0, .int .i64 0, .int .i64 0, .int .i64 0, .int .i64 0, .int .i64 0, .slice none 0 0, .slice none 0 0, .bool false, .int .i64 0, .int .i64 0, .int .i64 0, .int .i64 0, .int .i64 0, .int .i64 0, .int .i64 0, .int .i64 0, .bool false] 37)).alloc (.cells #[.int .i64 0, .int .i64 0, .int .i64 0, .int .i64 0, .int .i64 0, .int .i64 0, .int .i64 0, .int .i64 0, .int .i64 0, .int .i64 0, .int .i64 0, .int .i64 0, .int .i64 0, .slice none 0 0, .slice none 0 0, .bool false, .int .i64 0, .int .i64 0, .int .i64 0, .int .i64 0, .int .i64 0, .int .i64 0, .int .i64 0, .int .i64 0, .bool false] 37) := ⟨_, rfl⟩; rw [← ek] at P0 Z0 Y0 C0 B0 ⊢; clear ek; have p0 := P0.out.cell 0 rfl; have p1 := P0.out.cell 1 rfl))
  go_wp2_with (fail)
  refine (number_doc (HW.out.trans (B0.out.mono HW.out.size)) D0.out).mono ?_
  rintro e w1 ⟨s1, a1, x1, rfl, -, hx, hb, hp⟩
  obtain ⟨A1, c1, rfl, hq⟩ := hx
  have D1 := Lib.hid (show Prt w0 _ s1 from ⟨A1, c1, rfl, hq⟩)
  clear hq
  have P1 := Lib.hid (P0.out.on hb)
  have Z1 := Lib.hid (Z0.out.on hb)
  have Y1 := Lib.hid (Y0.out.on hb)
  have C1 := Lib.hid (C0.out.on hb)
  have B1 := Lib.hid (below_on B0.out hb)
  have Ha1 := Lib.hid hp
  clear hb hp
  clear P0 Z0 Y0 C0 B0
  clear p0 p1
  have za0 := P1.out.cell 0 rfl
  have zb0 := P1.out.soft 0
  have za1 := P1.out.cell 1 rfl
  have zb1 := P1.out.soft 1
  have za2 := C1.out.cell 0 rfl
  have zb2 := C1.out.soft 0
  have P1a := Lib.hid (show Hold ((w1).setCell ⟨w.heap.size, 0, none⟩ (.slice A1 s1.xs.length c1)) w.heap.size 98 [.slice A1 s1.xs.length c1, .int .i64 (s.er : Int)] from P1.out.put 0 (.slice A1 s1.xs.length c1))
  have Z1a := Lib.hid (Z1.out.bel (Bel.store (w1) w.heap.size 0 (.slice A1 s1.xs.length c1)) (by omega))
  have Y1a := Lib.hid (Y1.out.bel (Bel.store (w1) w.heap.size 0 (.slice A1 s1.xs.length c1)) (by omega))
  have C1a := Lib.hid (C1.out.bel (Bel.store (w1) w.heap.size 0 (.slice A1 s1.xs.length c1)) (by omega))
  have B1a := Lib.hid (B1.out.setCell (p := ⟨w.heap.size, 0, none⟩) (by show w.heap.size ≤ w.heap.size; omega) (.slice A1 s1.xs.length c1))
  clear P1 Z1 Y1 C1 B1
  have P1b := Lib.hid (show Hold (((w1).setCell ⟨w.heap.size, 0, none⟩ (.slice A1 s1.xs.length c1)).setCell ⟨w.heap.size, 1, none⟩ (.int .i64 (s1.er : Int))) w.heap.size 98 [.slice A1 s1.xs.length c1, .int .i64 (s1.er : Int)] from P1a.out.put 1 (.int .i64 (s1.er : Int)))
  have Z1b := Lib.hid (Z1a.out.bel (Bel.store ((w1).setCell ⟨w.heap.size, 0, none⟩ (.slice A1 s1.xs.length c1)) w.heap.size 1 (.int .i64 (s1.er : Int))) (by omega))
  have Y1b := Lib.hid (Y1a.out.bel (Bel.store ((w1).setCell ⟨w.heap.size, 0, none⟩ (.slice A1 s1.xs.length c1)) w.heap.size 1 (.int .i64 (s1.er : Int))) (by omega))
  have C1b := Lib.hid (C1a.out.bel (Bel.store ((w1).setCell ⟨w.heap.size, 0, none⟩ (.slice A1 s1.xs.length c1)) w.heap.size 1 (.int .i64 (s1.er : Int))) (by omega))
  have B1b := Lib.hid (B1a.out.setCell (p := ⟨w.heap.size, 1, none⟩) (by show w.heap.size ≤ w.heap.size; omega) (.int .i64 (s1.er : Int)))
  clear P1a Z1a Y1a C1a B1a
  have P1c := Lib.hid (P1b.out.bel (Bel.store (((w1).setCell ⟨w.heap.size, 0, none⟩ (.slice A1 s1.xs.length c1)).setCell ⟨w.heap.size, 1, none⟩ (.int .i64 (s1.er : Int))) (w.heap.size + 3) 0 (encN a1)) (by omega))
  have Z1c := Lib.hid (Z1b.out.bel (Bel.store (((w1).setCell ⟨w.heap.size, 0, none⟩ (.slice A1 s1.xs.length c1)).setCell ⟨w.heap.size, 1, none⟩ (.int .i64 (s1.er : Int))) (w.heap.size + 3) 0 (encN a1)) (by omega))
  have Y1c := Lib.hid (Y1b.out.bel (Bel.store (((w1).setCell ⟨w.heap.size, 0, none⟩ (.slice A1 s1.xs.length c1)).setCell ⟨w.heap.size, 1, none⟩ (.int .i64 (s1.er : Int))) (w.heap.size + 3) 0 (encN a1)) (by omega))
  have C1c := Lib.hid (show Hold ((((w1).setCell ⟨w.heap.size, 0, none⟩ (.slice A1 s1.xs.length c1)).setCell ⟨w.heap.size, 1, none⟩ (.int .i64 (s1.er : Int))).setCell ⟨(w.heap.size + 3), 0, none⟩ (encN a1)) (w.heap.size + 3) 37 [encN a1, .int .i64 0, .int .i64 0, .int .i64 0, .int .i64 0, .int .i64 0, .int .i64 0, .int .i64 0, .int .i64 0, .int .i64 0, .int .i64 0, .int .i64 0, .int .i64 0, .slice none 0 0, .slice none 0 0, .bool false, .int .i64 0, .int .i64 0, .int .i64 0, .int .i64 0, .int .i64 0, .int .i64 0, .int .i64 0, .int .i64 0, .bool false] from C1b.out.put 0 (encN a1))
  have B1c := Lib.hid (B1b.out.setCell (p := ⟨(w.heap.size + 3), 0, none⟩) (by show w.heap.size ≤ (w.heap.size + 3); omega) (encN a1))
  clear P1b Z1b Y1b C1b B1b
  go_wp2_with (fail)
  refine (number_doc (HW.out.trans (B1c.out.mono HW.out.size)) D1.out).mono ?_
  rintro e w2 ⟨s2, a2, x2, rfl, -, hx, hb, hp⟩
  obtain ⟨A2, c2, rfl, hq⟩ := hx
  have D2 := Lib.hid (show Prt w0 _ s2 from ⟨A2, c2, rfl, hq⟩)
  clear hq
  have P2 := Lib.hid (P1c.out.on hb)
  have Z2 := Lib.hid (Z1c.out.on hb)
  have Y2 := Lib.hid (Y1c.out.on hb)
  have C2 := Lib.hid (C1c.out.on hb)
  have B2 := Lib.hid (below_on B1c.out hb)
  have Ha2 := Lib.hid hp
  clear hb hp
  clear P1c Z1c Y1c C1c B1c
  clear za0 zb0 za1 zb1 za2 zb2
  have za0 := P2.out.cell 0 rfl
  have zb0 := P2.out.soft 0
  have za1 := P2.out.cell 1 rfl
  have zb1 := P2.out.soft 1
  have za2 := C2.out.cell 1 rfl
  have zb2 := C2.out.soft 1
  have P2a := Lib.hid (show Hold ((w2).setCell ⟨w.heap.size, 0, none⟩ (.slice A2 s2.xs.length c2)) w.heap.size 98 [.slice A2 s2.xs.length c2, .int .i64 (s1.er : Int)] from P2.out.put 0 (.slice A2 s2.xs.length c2))
  have Z2a := Lib.hid (Z2.out.bel (Bel.store (w2) w.heap.size 0 (.slice A2 s2.xs.length c2)) (by omega))
  have Y2a := Lib.hid (Y2.out.bel (Bel.store (w2) w.heap.size 0 (.slice A2 s2.xs.length c2)) (by omega))
  have C2a := Lib.hid (C2.out.bel (Bel.store (w2) w.heap.size 0 (.slice A2 s2.xs.length c2)) (by omega))
  have B2a := Lib.hid (B2.out.setCell (p := ⟨w.heap.size, 0, none⟩) (by show w.heap.size ≤ w.heap.size; omega) (.slice A2 s2.xs.length c2))
  clear P2 Z2 Y2 C2 B2
  have P2b := Lib.hid (show Hold (((w2).setCell ⟨w.heap.size, 0, none⟩ (.slice A2 s2.xs.length c2)).setCell ⟨w.heap.size, 1, none⟩ (.int .i64 (s2.er : Int))) w.heap.size 98 [.slice A2 s2.xs.length c2, .int .i64 (s2.er : Int)] from P2a.out.put 1 (.int .i64 (s2.er : Int)))
  have Z2b := Lib.hid (Z2a.out.bel (Bel.store ((w2).setCell ⟨w.heap.size, 0, none⟩ (.slice A2 s2.xs.length c2)) w.heap.size 1 (.int .i64 (s2.er : Int))) (by omega))
  have Y2b := Lib.hid (Y2a.out.bel (Bel.store ((w2).setCell ⟨w.heap.size, 0, none⟩ (.slice A2 s2.xs.length c2)) w.heap.size 1 (.int .i64 (s2.er : Int))) (by omega))
  have C2b := Lib.hid (C2a.out.bel (Bel.store ((w2).setCell ⟨w.heap.size, 0, none⟩ (.slice A2 s2.xs.length c2)) w.heap.size 1 (.int .i64 (s2.er : Int))) (by omega))
  have B2b := Lib.hid (B2a.out.setCell (p := ⟨w.heap.size, 1, none⟩) (by show w.heap.size ≤ w.heap.size; omega) (.int .i64 (s2.er : Int)))
  clear P2a Z2a Y2a C2a B2a
  have P2c := Lib.hid (P2b.out.bel (Bel.store (((w2).setCell ⟨w.heap.size, 0, none⟩ (.slice A2 s2.xs.length c2)).setCell ⟨w.heap.size, 1, none⟩ (.int .i64 (s2.er : Int))) (w.heap.size + 3) 1 (encN a2)) (by omega))
  have Z2c := Lib.hid (Z2b.out.bel (Bel.store (((w2).setCell ⟨w.heap.size, 0, none⟩ (.slice A2 s2.xs.length c2)).setCell ⟨w.heap.size, 1, none⟩ (.int .i64 (s2.er : Int))) (w.heap.size + 3) 1 (encN a2)) (by omega))
  have Y2c := Lib.hid (Y2b.out.bel (Bel.store (((w2).setCell ⟨w.heap.size, 0, none⟩ (.slice A2 s2.xs.length c2)).setCell ⟨w.heap.size, 1, none⟩ (.int .i64 (s2.er : Int))) (w.heap.size + 3) 1 (encN a2)) (by omega))
  have C2c := Lib.hid (show Hold ((((w2).setCell ⟨w.heap.size, 0, none⟩ (.slice A2 s2.xs.length c2)).setCell ⟨w.heap.size, 1, none⟩ (.int .i64 (s2.er : Int))).setCell ⟨(w.heap.size + 3), 1, none⟩ (encN a2)) (w.heap.size + 3) 37 [encN a1, encN a2, .int .i64 0, .int .i64 0, .int .i64 0, .int .i64 0, .int .i64 0, .int .i64 0, .int .i64 0, .int .i64 0, .int .i64 0, .int .i64 0, .int .i64 0, .slice none 0 0, .slice none 0 0, .bool false, .int .i64 0, .int .i64 0, .int .i64 0, .int .i64 0, .int .i64 0, .int .i64 0, .int .i64 0, .int .i64 0, .bool false] from C2b.out.put 1 (encN a2))
  have B2c := Lib.hid (B2b.out.setCell (p := ⟨(w.heap.size + 3), 1, none⟩) (by show w.heap.size ≤ (w.heap.size + 3); omega) (encN a2))
  clear P2b Z2b Y2b C2b B2b
  go_wp2_with (fail)
  refine (number_doc (HW.out.trans (B2c.out.mono HW.out.size)) D2.out).mono ?_
  rintro e w3 ⟨s3, a3, x3, rfl, -, hx, hb, hp⟩
  obtain ⟨A3, c3, rfl, hq⟩ := hx
  have D3 := Lib.hid (show Prt w0 _ s3 from ⟨A3, c3, rfl, hq⟩)
  clear hq
  have P3 := Lib.hid (P2c.out.on hb)
  have Z3 := Lib.hid (Z2c.out.on hb)
  have Y3 := Lib.hid (Y2c.out.on hb)
  have C3 := Lib.hid (C2c.out.on hb)
  have B3 := Lib.hid (below_on B2c.out hb)
  have Ha3 := Lib.hid hp
  clear hb hp
  clear P2c Z2c Y2c C2c B2c
  clear za0 zb0 za1 zb1 za2 zb2
  have za0 := P3.out.cell 0 rfl
  have zb0 := P3.out.soft 0
  have za1 := P3.out.cell 1 rfl
  have zb1 := P3.out.soft 1
  have za2 := C3.out.cell 2 rfl
  have zb2 := C3.out.soft 2
  have P3a := Lib.hid (show Hold ((w3).setCell ⟨w.heap.size, 0, none⟩ (.slice A3 s3.xs.length c3)) w.heap.size 98 [.slice A3 s3.xs.length c3, .int .i64 (s2.er : Int)] from P3.out.put 0 (.slice A3 s3.xs.length c3))
  have Z3a := Lib.hid (Z3.out.bel (Bel.store (w3) w.heap.size 0 (.slice A3 s3.xs.length c3)) (by omega))
  have Y3a := Lib.hid (Y3.out.bel (Bel.store (w3) w.heap.size 0 (.slice A3 s3.xs.length c3)) (by omega))
  have C3a := Lib.hid (C3.out.bel (Bel.store (w3) w.heap.size 0 (.slice A3 s3.xs.length c3)) (by omega))
  have B3a := Lib.hid (B3.out.setCell (p := ⟨w.heap.size, 0, none⟩) (by show w.heap.size ≤ w.heap.size; omega) (.slice A3 s3.xs.length c3))
  clear P3 Z3 Y3 C3 B3
  have P3b := Lib.hid (show Hold (((w3).setCell ⟨w.heap.size, 0, none⟩ (.slice A3 s3.xs.length c3)).setCell ⟨w.heap.size, 1, none⟩ (.int .i64 (s3.er : Int))) w.heap.size 98 [.slice A3 s3.xs.length c3, .int .i64 (s3.er : Int)] from P3a.out.put 1 (.int .i64 (s3.er : Int)))
  have Z3b := Lib.hid (Z3a.out.bel (Bel.store ((w3).setCell ⟨w.heap.size, 0, none⟩ (.slice A3 s3.xs.length c3)) w.heap.size 1 (.int .i64 (s3.er : Int))) (by omega))
  have Y3b := Lib.hid (Y3a.out.bel (Bel.store ((w3).setCell ⟨w.heap.size, 0, none⟩ (.slice A3 s3.xs.length c3)) w.heap.size 1 (.int .i64 (s3.er : Int))) (by omega))
  have C3b := Lib.hid (C3a.out.bel (Bel.store ((w3).setCell ⟨w.heap.size, 0, none⟩ (.slice A3 s3.xs.length c3)) w.heap.size 1 (.int .i64 (s3.er : Int))) (by omega))
  have B3b := Lib.hid (B3a.out.setCell (p := ⟨w.heap.size, 1, none⟩) (by show w.heap.size ≤ w.heap.size; omega) (.int .i64 (s3.er : Int)))
  clear P3a Z3a Y3a C3a B3a
  have P3c := Lib.hid (P3b.out.bel (Bel.store (((w3).setCell ⟨w.heap.size, 0, none⟩ (.slice A3 s3.xs.length c3)).setCell ⟨w.heap.size, 1, none⟩ (.int .i64 (s3.er : Int))) (w.heap.size + 3) 2 (encN a3)) (by omega))
  have Z3c := Lib.hid (Z3b.out.bel (Bel.store (((w3).setCell ⟨w.heap.size, 0, none⟩ (.slice A3 s3.xs.length c3)).setCell ⟨w.heap.size, 1, none⟩ (.int .i64 (s3.er : Int))) (w.heap.size + 3) 2 (encN a3)) (by omega))
  have Y3c := Lib.hid (Y3b.out.bel (Bel.store (((w3).setCell ⟨w.heap.size, 0, none⟩ (.slice A3 s3.xs.length c3)).setCell ⟨w.heap.size, 1, none⟩ (.int .i64 (s3.er : Int))) (w.heap.size + 3) 2 (encN a3)) (by omega))
  have C3c := Lib.hid (show Hold ((((w3).setCell ⟨w.heap.size, 0, none⟩ (.slice A3 s3.xs.length c3)).setCell ⟨w.heap.size, 1, none⟩ (.int .i64 (s3.er : Int))).setCell ⟨(w.heap.size + 3), 2, none⟩ (encN a3)) (w.heap.size + 3) 37 [encN a1, encN a2, encN a3, .int .i64 0, .int .i64 0, .int .i64 0, .int .i64 0, .int .i64 0, .int .i64 0, .int .i64 0, .int .i64 0, .int .i64 0, .int .i64 0, .slice none 0 0, .slice none 0 0, .bool false, .int .i64 0, .int .i64 0, .int .i64 0, .int .i64 0, .int .i64 0, .int .i64 0, .int .i64 0, .int .i64 0, .bool false] from C3b.out.put 2 (encN a3))
  have B3c := Lib.hid (B3b.out.setCell (p := ⟨(w.heap.size + 3), 2, none⟩) (by show w.heap.size ≤ (w.heap.size + 3); omega) (encN a3))
  clear P3b Z3b Y3b C3b B3b
  go_wp2_with (fail)
  refine (number_doc (HW.out.trans (B3c.out.mono HW.out.size)) D3.out).mono ?_
  rintro e w4 ⟨s4, a4, x4, rfl, -, hx, hb, hp⟩
  obtain ⟨A4, c4, rfl, hq⟩ := hx
  have D4 := Lib.hid (show Prt w0 _ s4 from ⟨A4, c4, rfl, hq⟩)
  clear hq
  have P4 := Lib.hid (P3c.out.on hb)
  have Z4 := Lib.hid (Z3c.out.on hb)
  have Y4 := Lib.hid (Y3c.out.on hb)
  have C4 := Lib.hid (C3c.out.on hb)
  have B4 := Lib.hid (below_on B3c.out hb)
  have Ha4 := Lib.hid hp
  clear hb hp
  clear P3c Z3c Y3c C3c B3c
  clear za0 zb0 za1 zb1 za2 zb2
  have za0 := P4.out.cell 0 rfl
  have zb0 := P4.out.soft 0
  have za1 := P4.out.cell 1 rfl
  have zb1 := P4.out.soft 1
  have za2 := C4.out.cell 3 rfl
  have zb2 := C4.out.soft 3
  have P4a := Lib.hid (show Hold ((w4).setCell ⟨w.heap.size, 0, none⟩ (.slice A4 s4.xs.length c4)) w.heap.size 98 [.slice A4 s4.xs.length c4, .int .i64 (s3.er : Int)] from P4.out.put 0 (.slice A4 s4.xs.length c4))
  have Z4a := Lib.hid (Z4.out.bel (Bel.store (w4) w.heap.size 0 (.slice A4 s4.xs.length c4)) (by omega))
  have Y4a := Lib.hid (Y4.out.bel (Bel.store (w4) w.heap.size 0 (.slice A4 s4.xs.length c4)) (by omega))
  have C4a := Lib.hid (C4.out.bel (Bel.store (w4) w.heap.size 0 (.slice A4 s4.xs.length c4)) (by omega))
  have B4a := Lib.hid (B4.out.setCell (p := ⟨w.heap.size, 0, none⟩) (by show w.heap.size ≤ w.heap.size; omega) (.slice A4 s4.xs.length c4))
  clear P4 Z4 Y4 C4 B4
  have P4b := Lib.hid (show Hold (((w4).setCell ⟨w.heap.size, 0, none⟩ (.slice A4 s4.xs.length c4)).setCell ⟨w.heap.size, 1, none⟩ (.int .i64 (s4.er : Int))) w.heap.size 98 [.slice A4 s4.xs.length c4, .int .i64 (s4.er : Int)] from P4a.out.put 1 (.int .i64 (s4.er : Int)))
  have Z4b := Lib.hid (Z4a.out.bel (Bel.store ((w4).setCell ⟨w.heap.size, 0, none⟩ (.slice A4 s4.xs.length c4)) w.heap.size 1 (.int .i64 (s4.er : Int))) (by omega))
  have Y4b := Lib.hid (Y4a.out.bel (Bel.store ((w4).setCell ⟨w.heap.size, 0, none⟩ (.slice A4 s4.xs.length c4)) w.heap.size 1 (.int .i64 (s4.er : Int))) (by omega))
  have C4b := Lib.hid (C4a.out.bel (Bel.store ((w4).setCell ⟨w.heap.size, 0, none⟩ (.slice A4 s4.xs.length c4)) w.heap.size 1 (.int .i64 (s4.er : Int))) (by omega))
  have B4b := Lib.hid (B4a.out.setCell (p := ⟨w.heap.size, 1, none⟩) (by show w.heap.size ≤ w.heap.size; omega) (.int .i64 (s4.er : Int)))
  clear P4a Z4a Y4a C4a B4a
  have P4c := Lib.hid (P4b.out.bel (Bel.store (((w4).setCell ⟨w.heap.size, 0, none⟩ (.slice A4 s4.xs.length c4)).setCell ⟨w.heap.size, 1, none⟩ (.int .i64 (s4.er : Int))) (w.heap.size + 3) 3 (encN a4)) (by omega))
  have Z4c := Lib.hid (Z4b.out.bel (Bel.store (((w4).setCell ⟨w.heap.size, 0, none⟩ (.slice A4 s4.xs.length c4)).setCell ⟨w.heap.size, 1, none⟩ (.int .i64 (s4.er : Int))) (w.heap.size + 3) 3 (encN a4)) (by omega))
  have Y4c := Lib.hid (Y4b.out.bel (Bel.store (((w4).setCell ⟨w.heap.size, 0, none⟩ (.slice A4 s4.xs.length c4)).setCell ⟨w.heap.size, 1, none⟩ (.int .i64 (s4.er : Int))) (w.heap.size + 3) 3 (encN a4)) (by omega))
  have C4c := Lib.hid (show Hold ((((w4).setCell ⟨w.heap.size, 0, none⟩ (.slice A4 s4.xs.length c4)).setCell ⟨w.heap.size, 1, none⟩ (.int .i64 (s4.er : Int))).setCell ⟨(w.heap.size + 3), 3, none⟩ (encN a4)) (w.heap.size + 3) 37 [encN a1, encN a2, encN a3, encN a4, .int .i64 0, .int .i64 0, .int .i64 0, .int .i64 0, .int .i64 0, .int .i64 0, .int .i64 0, .int .i64 0, .int .i64 0, .slice none 0 0, .slice none 0 0, .bool false, .int .i64 0, .int .i64 0, .int .i64 0, .int .i64 0, .int .i64 0, .int .i64 0, .int .i64 0, .int .i64 0, .bool false] from C4b.out.put 3 (encN a4))
  have B4c := Lib.hid (B4b.out.setCell (p := ⟨(w.heap.size + 3), 3, none⟩) (by show w.heap.size ≤ (w.heap.size + 3); omega) (encN a4))
  clear P4b Z4b Y4b C4b B4b
  go_wp2_with (fail)
  refine (number_doc (HW.out.trans (B4c.out.mono HW.out.size)) D4.out).mono ?_
  rintro e w5 ⟨s5, a5, x5, rfl, -, hx, hb, hp⟩
  obtain ⟨A5, c5, rfl, hq⟩ := hx
  have D5 := Lib.hid (show Prt w0 _ s5 from ⟨A5, c5, rfl, hq⟩)
  clear hq
  have P5 := Lib.hid (P4c.out.on hb)
  have Z5 := Lib.hid (Z4c.out.on hb)
  have Y5 := Lib.hid (Y4c.out.on hb)
  have C5 := Lib.hid (C4c.out.on hb)
  have B5 := Lib.hid (below_on B4c.out hb)
  have Ha5 := Lib.hid hp
  clear hb hp
  clear P4c Z4c Y4c C4c B4c
  clear za0 zb0 za1 zb1 za2 zb2
  have za0 := P5.out.cell 0 rfl
  have zb0 := P5.out.soft 0
  have za1 := P5.out.cell 1 rfl
  have zb1 := P5.out.soft 1
  have za2 := C5.out.cell 4 rfl
  have zb2 := C5.out.soft 4
  have P5a := Lib.hid (show Hold ((w5).setCell ⟨w.heap.size, 0, none⟩ (.slice A5 s5.xs.length c5)) w.heap.size 98 [.slice A5 s5.xs.length c5, .int .i64 (s4.er : Int)] from P5.out.put 0 (.slice A5 s5.xs.length c5))
  have Z5a := Lib.hid (Z5.out.bel (Bel.store (w5) w.heap.size 0 (.slice A5 s5.xs.length c5)) (by omega))
  have Y5a := Lib.hid (Y5.out.bel (Bel.store (w5) w.heap.size 0 (.slice A5 s5.xs.length c5)) (by omega))
  have C5a := Lib.hid (C5.out.bel (Bel.store (w5) w.heap.size 0 (.slice A5 s5.xs.length c5)) (by omega))
  have B5a := Lib.hid (B5.out.setCell (p := ⟨w.heap.size, 0, none⟩) (by show w.heap.size ≤ w.heap.size; omega) (.slice A5 s5.xs.length c5))
  clear P5 Z5 Y5 C5 B5
  have P5b := Lib.hid (show Hold (((w5).setCell ⟨w.heap.size, 0, none⟩ (.slice A5 s5.xs.length c5)).setCell ⟨w.heap.size, 1, none⟩ (.int .i64 (s5.er : Int))) w.heap.size 98 [.slice A5 s5.xs.length c5, .int .i64 (s5.er : Int)] from P5a.out.put 1 (.int .i64 (s5.er : Int)))
  have Z5b := Lib.hid (Z5a.out.bel (Bel.store ((w5).setCell ⟨w.heap.size, 0, none⟩ (.slice A5 s5.xs.length c5)) w.heap.size 1 (.int .i64 (s5.er : Int))) (by omega))
  have Y5b := Lib.hid (Y5a.out.bel (Bel.store ((w5).setCell ⟨w.heap.size, 0, none⟩ (.slice A5 s5.xs.length c5)) w.heap.size 1 (.int .i64 (s5.er : Int))) (by omega))
  have C5b := Lib.hid (C5a.out.bel (Bel.store ((w5).setCell ⟨w.heap.size, 0, none⟩ (.slice A5 s5.xs.length c5)) w.heap.size 1 (.int .i64 (s5.er : Int))) (by omega))
  have B5b := Lib.hid (B5a.out.setCell (p := ⟨w.heap.size, 1, none⟩) (by show w.heap.size ≤ w.heap.size; omega) (.int .i64 (s5.er : Int)))
  clear P5a Z5a Y5a C5a B5a
  have P5c := Lib.hid (P5b.out.bel (Bel.store (((w5).setCell ⟨w.heap.size, 0, none⟩ (.slice A5 s5.xs.length c5)).setCell ⟨w.heap.size, 1, none⟩ (.int .i64 (s5.er : Int))) (w.heap.size + 3) 4 (encN a5)) (by omega))
  have Z5c := Lib.hid (Z5b.out.bel (Bel.store (((w5).setCell ⟨w.heap.size, 0, none⟩ (.slice A5 s5.xs.length c5)).setCell ⟨w.heap.size, 1, none⟩ (.int .i64 (s5.er : Int))) (w.heap.size + 3) 4 (encN a5)) (by omega))
  have Y5c := Lib.hid (Y5b.out.bel (Bel.store (((w5).setCell ⟨w.heap.size, 0, none⟩ (.slice A5 s5.xs.length c5)).setCell ⟨w.heap.size, 1, none⟩ (.int .i64 (s5.er : Int))) (w.heap.size + 3) 4 (encN a5)) (by omega))
  have C5c := Lib.hid (show Hold ((((w5).setCell ⟨w.heap.size, 0, none⟩ (.slice A5 s5.xs.length c5)).setCell ⟨w.heap.size, 1, none⟩ (.int .i64 (s5.er : Int))).setCell ⟨(w.heap.size + 3), 4, none⟩ (encN a5)) (w.heap.size + 3) 37 [encN a1, encN a2, encN a3, encN a4, encN a5, .int .i64 0, .int .i64 0, .int .i64 0, .int .i64 0, .int .i64 0, .int .i64 0, .int .i64 0, .int .i64 0, .slice none 0 0, .slice none 0 0, .bool false, .int .i64 0, .int .i64 0, .int .i64 0, .int .i64 0, .int .i64 0, .int .i64 0, .int .i64 0, .int .i64 0, .bool false] from C5b.out.put 4 (encN a5))
  have B5c := Lib.hid (B5b.out.setCell (p := ⟨(w.heap.size + 3), 4, none⟩) (by show w.heap.size ≤ (w.heap.size + 3); omega) (encN a5))
  clear P5b Z5b Y5b C5b B5b
  go_wp2_with (fail)
  refine (number_doc (HW.out.trans (B5c.out.mono HW.out.size)) D5.out).mono ?_
  rintro e w6 ⟨s6, a6, x6, rfl, -, hx, hb, hp⟩
  obtain ⟨A6, c6, rfl, hq⟩ := hx
  have D6 := Lib.hid (show Prt w0 _ s6 from ⟨A6, c6, rfl, hq⟩)
  clear hq
  have P6 := Lib.hid (P5c.out.on hb)
  have Z6 := Lib.hid (Z5c.out.on hb)
  have Y6 := Lib.hid (Y5c.out.on hb)
  have C6 := Lib.hid (C5c.out.on hb)
  have B6 := Lib.hid (below_on B5c.out hb)
  have Ha6 := Lib.hid hp
  clear hb hp
  clear P5c Z5c Y5c C5c B5c
  clear za0 zb0 za1 zb1 za2 zb2
  have za0 := P6.out.cell 0 rfl
  have zb0 := P6.out.soft 0
  have za1 := P6.out.cell 1 rfl
  have zb1 := P6.out.soft 1
  have za2 := C6.out.cell 5 rfl
  have zb2 := C6.out.soft 5
  have P6a := Lib.hid (show Hold ((w6).setCell ⟨w.heap.size, 0, none⟩ (.slice A6 s6.xs.length c6)) w.heap.size 98 [.slice A6 s6.xs.length c6, .int .i64 (s5.er : Int)] from P6.out.put 0 (.slice A6 s6.xs.length c6))
  have Z6a := Lib.hid (Z6.out.bel (Bel.store (w6) w.heap.size 0 (.slice A6 s6.xs.length c6)) (by omega))
  have Y6a := Lib.hid (Y6.out.bel (Bel.store (w6) w.heap.size 0 (.slice A6 s6.xs.length c6)) (by omega))
  have C6a := Lib.hid (C6.out.bel (Bel.store (w6) w.heap.size 0 (.slice A6 s6.xs.length c6)) (by omega))
  have B6a := Lib.hid (B6.out.setCell (p := ⟨w.heap.size, 0, none⟩) (by show w.heap.size ≤ w.heap.size; omega) (.slice A6 s6.xs.length c6))
  clear P6 Z6 Y6 C6 B6
  have P6b := Lib.hid (show Hold (((w6).setCell ⟨w.heap.size, 0, none⟩ (.slice A6 s6.xs.length c6)).setCell ⟨w.heap.size, 1, none⟩ (.int .i64 (s6.er : Int))) w.heap.size 98 [.slice A6 s6.xs.length c6, .int .i64 (s6.er : Int)] from P6a.out.put 1 (.int .i64 (s6.er : Int)))
  have Z6b := Lib.hid (Z6a.out.bel (Bel.store ((w6).setCell ⟨w.heap.size, 0, none⟩ (.slice A6 s6.xs.length c6)) w.heap.size 1 (.int .i64 (s6.er : Int))) (by omega))
  have Y6b := Lib.hid (Y6a.out.bel (Bel.store ((w6).setCell ⟨w.heap.size, 0, none⟩ (.slice A6 s6.xs.length c6)) w.heap.size 1 (.int .i64 (s6.er : Int))) (by omega))
  have C6b := Lib.hid (C6a.out.bel (Bel.store ((w6).setCell ⟨w.heap.size, 0, none⟩ (.slice A6 s6.xs.length c6)) w.heap.size 1 (.int .i64 (s6.er : Int))) (by omega))
  have B6b := Lib.hid (B6a.out.setCell (p := ⟨w.heap.size, 1, none⟩) (by show w.heap.size ≤ w.heap.size; omega) (.int .i64 (s6.er : Int)))
  clear P6a Z6a Y6a C6a B6a
  have P6c := Lib.hid (P6b.out.bel (Bel.store (((w6).setCell ⟨w.heap.size, 0, none⟩ (.slice A6 s6.xs.length c6)).setCell ⟨w.heap.size, 1, none⟩ (.int .i64 (s6.er : Int))) (w.heap.size + 3) 5 (encN a6)) (by omega))
  have Z6c := Lib.hid (Z6b.out.bel (Bel.store (((w6).setCell ⟨w.heap.size, 0, none⟩ (.slice A6 s6.xs.length c6)).setCell ⟨w.heap.size, 1, none⟩ (.int .i64 (s6.er : Int))) (w.heap.size + 3) 5 (encN a6)) (by omega))
  have Y6c := Lib.hid (Y6b.out.bel (Bel.store (((w6).setCell ⟨w.heap.size, 0, none⟩ (.slice A6 s6.xs.length c6)).setCell ⟨w.heap.size, 1, none⟩ (.int .i64 (s6.er : Int))) (w.heap.size + 3) 5 (encN a6)) (by omega))
  have C6c := Lib.hid (show Hold ((((w6).setCell ⟨w.heap.size, 0, none⟩ (.slice A6 s6.xs.length c6)).setCell ⟨w.heap.size, 1, none⟩ (.int .i64 (s6.er : Int))).setCell ⟨(w.heap.size + 3), 5, none⟩ (encN a6)) (w.heap.size + 3) 37 [encN a1, encN a2, encN a3, encN a4, encN a5, encN a6, .int .i64 0, .int .i64 0, .int .i64 0, .int .i64 0, .int .i64 0, .int .i64 0, .int .i64 0, .slice none 0 0, .slice none 0 0, .bool false, .int .i64 0, .int .i64 0, .int .i64 0, .int .i64 0, .int .i64 0, .int .i64 0, .int .i64 0, .int .i64 0, .bool false] from C6b.out.put 5 (encN a6))
  have B6c := Lib.hid (B6b.out.setCell (p := ⟨(w.heap.size + 3), 5, none⟩) (by show w.heap.size ≤ (w.heap.size + 3); omega) (encN a6))
  clear P6b Z6b Y6b C6b B6b
  go_wp2_with (fail)
  refine (number_doc (HW.out.trans (B6c.out.mono HW.out.size)) D6.out).mono ?_
  rintro e w7 ⟨s7, a7, x7, rfl, -, hx, hb, hp⟩
  obtain ⟨A7, c7, rfl, hq⟩ := hx
  have D7 := Lib.hid (show Prt w0 _ s7 from ⟨A7, c7, rfl, hq⟩)
  clear hq
  have P7 := Lib.hid (P6c.out.on hb)
  have Z7 := Lib.hid (Z6c.out.on hb)
  have Y7 := Lib.hid (Y6c.out.on hb)
  have C7 := Lib.hid (C6c.out.on hb)
  have B7 := Lib.hid (below_on B6c.out hb)
  have Ha7 := Lib.hid hp
  clear hb hp
  clear P6c Z6c Y6c C6c B6c
  clear za0 zb0 za1 zb1 za2 zb2
  have za0 := P7.out.cell 0 rfl
  have zb0 := P7.out.soft 0
  have za1 := P7.out.cell 1 rfl
  have zb1 := P7.out.soft 1
  have za2 := C7.out.cell 6 rfl
  have zb2 := C7.out.soft 6
  have P7a := Lib.hid (show Hold ((w7).setCell ⟨w.heap.size, 0, none⟩ (.slice A7 s7.xs.length c7)) w.heap.size 98 [.slice A7 s7.xs.length c7, .int .i64 (s6.er : Int)] from P7.out.put 0 (.slice A7 s7.xs.length c7))
  have Z7a := Lib.hid (Z7.out.bel (Bel.store (w7) w.heap.size 0 (.slice A7 s7.xs.length c7)) (by omega))
  have Y7a := Lib.hid (Y7.out.bel (Bel.store (w7) w.heap.size 0 (.slice A7 s7.xs.length c7)) (by omega))
  have C7a := Lib.hid (C7.out.bel (Bel.store (w7) w.heap.size 0 (.slice A7 s7.xs.length c7)) (by omega))
  have B7a := Lib.hid (B7.out.setCell (p := ⟨w.heap.size, 0, none⟩) (by show w.heap.size ≤ w.heap.size; omega) (.slice A7 s7.xs.length c7))
  clear P7 Z7 Y7 C7 B7
  have P7b := Lib.hid (show Hold (((w7).setCell ⟨w.heap.size, 0, none⟩ (.slice A7 s7.xs.length c7)).setCell ⟨w.heap.size, 1, none⟩ (.int .i64 (s7.er : Int))) w.heap.size 98 [.slice A7 s7.xs.length c7, .int .i64 (s7.er : Int)] from P7a.out.put 1 (.int .i64 (s7.er : Int)))
  have Z7b := Lib.hid (Z7a.out.bel (Bel.store ((w7).setCell ⟨w.heap.size, 0, none⟩ (.slice A7 s7.xs.length c7)) w.heap.size 1 (.int .i64 (s7.er : Int))) (by omega))
  have Y7b := Lib.hid (Y7a.out.bel (Bel.store ((w7).setCell ⟨w.heap.size, 0, none⟩ (.slice A7 s7.xs.length c7)) w.heap.size 1 (.int .i64 (s7.er : Int))) (by omega))
  have C7b := Lib.hid (C7a.out.bel (Bel.store ((w7).setCell ⟨w.heap.size, 0, none⟩ (.slice A7 s7.xs.length c7)) w.heap.size 1 (.int .i64 (s7.er : Int))) (by omega))
  have B7b := Lib.hid (B7a.out.setCell (p := ⟨w.heap.size, 1, none⟩) (by show w.heap.size ≤ w.heap.size; omega) (.int .i64 (s7.er : Int)))
  clear P7a Z7a Y7a C7a B7a
  have P7c := Lib.hid (P7b.out.bel (Bel.store (((w7).setCell ⟨w.heap.size, 0, none⟩ (.slice A7 s7.xs.length c7)).setCell ⟨w.heap.size, 1, none⟩ (.int .i64 (s7.er : Int))) (w.heap.size + 3) 6 (encN a7)) (by omega))
  have Z7c := Lib.hid (Z7b.out.bel (Bel.store (((w7).setCell ⟨w.heap.size, 0, none⟩ (.slice A7 s7.xs.length c7)).setCell ⟨w.heap.size, 1, none⟩ (.int .i64 (s7.er : Int))) (w.heap.size + 3) 6 (encN a7)) (by omega))
  have Y7c := Lib.hid (Y7b.out.bel (Bel.store (((w7).setCell ⟨w.heap.size, 0, none⟩ (.slice A7 s7.xs.length c7)).setCell ⟨w.heap.size, 1, none⟩ (.int .i64 (s7.er : Int))) (w.heap.size + 3) 6 (encN a7)) (by omega))
  have C7c := Lib.hid (show Hold ((((w7).setCell ⟨w.heap.size, 0, none⟩ (.slice A7 s7.xs.length c7)).setCell ⟨w.heap.size, 1, none⟩ (.int .i64 (s7.er : Int))).setCell ⟨(w.heap.size + 3), 6, none⟩ (encN a7)) (w.heap.size + 3) 37 [encN a1, encN a2, encN a3, encN a4, encN a5, encN a6, encN a7, .int .i64 0, .int .i64 0, .int .i64 0, .int .i64 0, .int .i64 0, .int .i64 0, .slice none 0 0, .slice none 0 0, .bool false, .int .i64 0, .int .i64 0, .int .i64 0, .int .i64 0, .int .i64 0, .int .i64 0, .int .i64 0, .int .i64 0, .bool false] from C7b.out.put 6 (encN a7))
  have B7c := Lib.hid (B7b.out.setCell (p := ⟨(w.heap.size + 3), 6, none⟩) (by show w.heap.size ≤ (w.heap.size + 3); omega) (encN a7))
  clear P7b Z7b Y7b C7b B7b
  go_wp2_with (fail)
  refine (number_doc (HW.out.trans (B7c.out.mono HW.out.size)) D7.out).mono ?_
  rintro e w8 ⟨s8, a8, x8, rfl, -, hx, hb, hp⟩
  obtain ⟨A8, c8, rfl, hq⟩ := hx
  have D8 := Lib.hid (show Prt w0 _ s8 from ⟨A8, c8, rfl, hq⟩)
  clear hq
  have P8 := Lib.hid (P7c.out.on hb)
  have Z8 := Lib.hid (Z7c.out.on hb)
  have Y8 := Lib.hid (Y7c.out.on hb)
  have C8 := Lib.hid (C7c.out.on hb)
  have B8 := Lib.hid (below_on B7c.out hb)
  have Ha8 := Lib.hid hp
  clear hb hp
  clear P7c Z7c Y7c C7c B7c
  clear za0 zb0 za1 zb1 za2 zb2
  have za0 := P8.out.cell 0 rfl
  have zb0 := P8.out.soft 0
  have za1 := P8.out.cell 1 rfl
  have zb1 := P8.out.soft 1
  have za2 := C8.out.cell 16 rfl
  have zb2 := C8.out.soft 16
  have P8a := Lib.hid (show Hold ((w8).setCell ⟨w.heap.size, 0, none⟩ (.slice A8 s8.xs.length c8)) w.heap.size 98 [.slice A8 s8.xs.length c8, .int .i64 (s7.er : Int)] from P8.out.put 0 (.slice A8 s8.xs.length c8))
  have Z8a := Lib.hid (Z8.out.bel (Bel.store (w8) w.heap.size 0 (.slice A8 s8.xs.length c8)) (by omega))
  have Y8a := Lib.hid (Y8.out.bel (Bel.store (w8) w.heap.size 0 (.slice A8 s8.xs.length c8)) (by omega))
  have C8a := Lib.hid (C8.out.bel (Bel.store (w8) w.heap.size 0 (.slice A8 s8.xs.length c8)) (by omega))
  have B8a := Lib.hid (B8.out.setCell (p := ⟨w.heap.size, 0, none⟩) (by show w.heap.size ≤ w.heap.size; omega) (.slice A8 s8.xs.length c8))
  clear P8 Z8 Y8 C8 B8
  have P8b := Lib.hid (show Hold (((w8).setCell ⟨w.heap.size, 0, none⟩ (.slice A8 s8.xs.length c8)).setCell ⟨w.heap.size, 1, none⟩ (.int .i64 (s8.er : Int))) w.heap.size 98 [.slice A8 s8.xs.length c8, .int .i64 (s8.er : Int)] from P8a.out.put 1 (.int .i64 (s8.er : Int)))
  have Z8b := Lib.hid (Z8a.out.bel (Bel.store ((w8).setCell ⟨w.heap.size, 0, none⟩ (.slice A8 s8.xs.length c8)) w.heap.size 1 (.int .i64 (s8.er : Int))) (by omega))
  have Y8b := Lib.hid (Y8a.out.bel (Bel.store ((w8).setCell ⟨w.heap.size, 0, none⟩ (.slice A8 s8.xs.length c8)) w.heap.size 1 (.int .i64 (s8.er : Int))) (by omega))
  have C8b := Lib.hid (C8a.out.bel (Bel.store ((w8).setCell ⟨w.heap.size, 0, none⟩ (.slice A8 s8.xs.length c8)) w.heap.size 1 (.int .i64 (s8.er : Int))) (by omega))
  have B8b := Lib.hid (B8a.out.setCell (p := ⟨w.heap.size, 1, none⟩) (by show w.heap.size ≤ w.heap.size; omega) (.int .i64 (s8.er : Int)))
  clear P8a Z8a Y8a C8a B8a
  have P8c := Lib.hid (P8b.out.bel (Bel.store (((w8).setCell ⟨w.heap.size, 0, none⟩ (.slice A8 s8.xs.length c8)).setCell ⟨w.heap.size, 1, none⟩ (.int .i64 (s8.er : Int))) (w.heap.size + 3) 16 (encN a8)) (by omega))
  have Z8c := Lib.hid (Z8b.out.bel (Bel.store (((w8).setCell ⟨w.heap.size, 0, none⟩ (.slice A8 s8.xs.length c8)).setCell ⟨w.heap.size, 1, none⟩ (.int .i64 (s8.er : Int))) (w.heap.size + 3) 16 (encN a8)) (by omega))
  have Y8c := Lib.hid (Y8b.out.bel (Bel.store (((w8).setCell ⟨w.heap.size, 0, none⟩ (.slice A8 s8.xs.length c8)).setCell ⟨w.heap.size, 1, none⟩ (.int .i64 (s8.er : Int))) (w.heap.size + 3) 16 (encN a8)) (by omega))
  have C8c := Lib.hid (show Hold ((((w8).setCell ⟨w.heap.size, 0, none⟩ (.slice A8 s8.xs.length c8)).setCell ⟨w.heap.size, 1, none⟩ (.int .i64 (s8.er : Int))).setCell ⟨(w.heap.size + 3), 16, none⟩ (encN a8)) (w.heap.size + 3) 37 [encN a1, encN a2, encN a3, encN a4, encN a5, encN a6, encN a7, .int .i64 0, .int .i64 0, .int .i64 0, .int .i64 0, .int .i64 0, .int .i64 0, .slice none 0 0, .slice none 0 0, .bool false, encN a8, .int .i64 0, .int .i64 0, .int .i64 0, .int .i64 0, .int .i64 0, .int .i64 0, .int .i64 0, .bool false] from C8b.out.put 16 (encN a8))
  have B8c := Lib.hid (B8b.out.setCell (p := ⟨(w.heap.size + 3), 16, none⟩) (by show w.heap.size ≤ (w.heap.size + 3); omega) (encN a8))
  clear P8b Z8b Y8b C8b B8b
  obtain ⟨wl, el⟩ : ∃ wl, wl = (((w8).setCell ⟨w.heap.size, 0, none⟩ (.slice A8 s8.xs.length c8)).setCell ⟨w.heap.size, 1, none⟩ (.int .i64 (s8.er : Int))).setCell ⟨(w.heap.size + 3), 16, none⟩ (encN a8) := ⟨_, rfl⟩
  have CL := Lib.hid (show Hold wl (w.heap.size + 3) 37 ([encN a1, encN a2, encN a3, encN a4, encN a5, encN a6, encN a7, .int .i64 0, .int .i64 0, .int .i64 0, .int .i64 0, .int .i64 0, .int .i64 0, .slice none 0 0, .slice none 0 0, .bool false, encN a8] ++ ds7 0 (fun _ => 0) ++ [.bool false]) from el ▸ C8c.out)
  have PL := Lib.hid (el ▸ P8c.out)
  have ZL := Lib.hid (el ▸ Z8c.out)
  have YL := Lib.hid (el ▸ Y8c.out)
  have BL := Lib.hid (el ▸ B8c.out)
  clear P8c Z8c Y8c C8c B8c
  go_wp2
  rw [← el]
  clear el za0 zb0 za1 zb1 za2 zb2
  go_loopw [5] (fun i wr => ∃ (k : Nat) (f : Nat → Nat) (st : Nat → P.Sr) (A9 : Option Addr) (c9 : Nat), k ≤ 7 ∧ i = .int .i64 k ∧ Hold wr w.heap.size 98 [.slice A9 (st k).xs.length c9, .int .i64 ((st k).er : Int)] ∧ Hold wr (w.heap.size + 1) 98 [.slice none 0 0, .int .i64 0] ∧ Hold wr (w.heap.size + 2) 37 [.int .i64 0, .int .i64 0, .int .i64 0, .int .i64 0, .int .i64 0, .int .i64 0, .int .i64 0, .int .i64 0, .int .i64 0, .int .i64 0, .int .i64 0, .int .i64 0, .int .i64 0, .slice none 0 0, .slice none 0 0, .bool false, .int .i64 0, .int .i64 0, .int .i64 0, .int .i64 0, .int .i64 0, .int .i64 0, .int .i64 0, .int .i64 0, .bool false] ∧ Hold wr (w.heap.size + 3) 37 ([encN a1, encN a2, encN a3, encN a4, encN a5, encN a6, encN a7, .int .i64 0, .int .i64 0, .int .i64 0, .int .i64 0, .int .i64 0, .int .i64 0, .slice none 0 0, .slice none 0 0, .bool false, encN a8] ++ ds7 k f ++ [.bool false]) ∧ Below w.heap.size w wr ∧ Prt w0 (.agg #[.slice A9 (st k).xs.length c9, .int .i64 ((st k).er : Int)]) (st k) ∧ st 0 = s8 ∧ ∀ j, j < k → P.Ran P.num (st j) (st (j + 1)) (f j)) (fun i _ => 7 - (intOf i).toNat)
  case atStart => exact ⟨0, fun _ => 0, fun _ => s8, A8, c8, Nat.zero_le _, rfl, PL.out, ZL.out, YL.out, CL.out, BL.out, D8.out, rfl, fun j hj => absurd hj (by omega)⟩
  case round =>
    obtain ⟨k, f, st, A9, c9, hk, rfl, hp, hz, hy, hc, hb, hd, h0, hq⟩ := hrel
    obtain ⟨s9, hs9⟩ : ∃ s9, s9 = st k := ⟨_, rfl⟩
    rw [← hs9] at hp hd
    have P9 := Lib.hid hp
    have Z9 := Lib.hid hz
    have Y9 := Lib.hid hy
    have C9 := Lib.hid hc
    have B9 := Lib.hid hb
    have D9 := Lib.hid hd
    have HZ0 := Lib.hid h0
    have HQ := Lib.hid hq
    have HS9 := Lib.hid hs9
    clear hp hz hy hc hb hd h0 hq hs9 PL ZL YL CL BL
    have p0 := P9.out.cell 0 rfl
    have p1 := P9.out.cell 1 rfl
    by_cases hlt : k < 7
    · have HK := Lib.hid hlt
      go_wp2_with (fail)
      refine (number_doc (HW.out.trans (B9.out.mono HW.out.size)) D9.out).mono ?_
      rintro e w21 ⟨s21, v, x21, rfl, -, hx, hb, hp⟩
      obtain ⟨A21, c21, rfl, hq⟩ := hx
      have D21 := Lib.hid (show Prt w0 _ s21 from ⟨A21, c21, rfl, hq⟩)
      clear hq
      have P21 := Lib.hid (P9.out.on hb)
      have Z21 := Lib.hid (Z9.out.on hb)
      have Y21 := Lib.hid (Y9.out.on hb)
      have C21 := Lib.hid (C9.out.on hb)
      have B21 := Lib.hid (below_on B9.out hb)
      have G1 := Lib.hid hp
      clear hb hp
      clear P9 Z9 Y9 C9 B9
      clear p0 p1
      have p0 := P21.out.cell 0 rfl
      have p1 := P21.out.cell 1 rfl
      have r0 := P21.out.soft 0
      have r1 := P21.out.soft 1
      have cc := C21.out.cell (17 + k) (ds7_at hlt f (encN a1) (encN a2) (encN a3) (encN a4) (encN a5) (encN a6) (encN a7) (.int .i64 0) (.int .i64 0) (.int .i64 0) (.int .i64 0) (.int .i64 0) (.int .i64 0) (.slice none 0 0) (.slice none 0 0) (.bool false) (encN a8) (.bool false))
      have cf := C21.out.soft (17 + k)
      have SC := Bel.store ((w21.setCell ⟨w.heap.size, 0, none⟩ (.slice A21 s21.xs.length c21)).setCell ⟨w.heap.size, 1, none⟩ (.int .i64 (s21.er : Int))) (w.heap.size + 3) (17 + k) (encN v)
      have PX := Lib.hid ((show Hold ((w21.setCell ⟨w.heap.size, 0, none⟩ (.slice A21 s21.xs.length c21)).setCell ⟨w.heap.size, 1, none⟩ (.int .i64 (s21.er : Int))) w.heap.size 98 [.slice A21 s21.xs.length c21, .int .i64 (s21.er : Int)] from (P21.out.put 0 (.slice A21 s21.xs.length c21)).put 1 (.int .i64 (s21.er : Int))).bel SC (by omega))
      have ZX := Lib.hid (((Z21.out.bel (Bel.store w21 w.heap.size 0 (.slice A21 s21.xs.length c21)) (by omega)).bel (Bel.store (w21.setCell ⟨w.heap.size, 0, none⟩ (.slice A21 s21.xs.length c21)) w.heap.size 1 (.int .i64 (s21.er : Int))) (by omega)).bel SC (by omega))
      have YX := Lib.hid (((Y21.out.bel (Bel.store w21 w.heap.size 0 (.slice A21 s21.xs.length c21)) (by omega)).bel (Bel.store (w21.setCell ⟨w.heap.size, 0, none⟩ (.slice A21 s21.xs.length c21)) w.heap.size 1 (.int .i64 (s21.er : Int))) (by omega)).bel SC (by omega))
      have CX := Lib.hid (((C21.out.bel (Bel.store w21 w.heap.size 0 (.slice A21 s21.xs.length c21)) (by omega)).bel (Bel.store (w21.setCell ⟨w.heap.size, 0, none⟩ (.slice A21 s21.xs.length c21)) w.heap.size 1 (.int .i64 (s21.er : Int))) (by omega)).put (17 + k) (encN v))
      have BX := Lib.hid (((B21.out.setCell (p := ⟨w.heap.size, 0, none⟩) (by show w.heap.size ≤ w.heap.size; omega) (.slice A21 s21.xs.length c21)).setCell (p := ⟨w.heap.size, 1, none⟩) (by show w.heap.size ≤ w.heap.size; omega) (.int .i64 (s21.er : Int))).setCell (p := ⟨w.heap.size + 3, 17 + k, none⟩) (by show w.heap.size ≤ w.heap.size + 3; omega) (encN v))
      have ES := Lib.hid (ds7_set hlt f v (encN a1) (encN a2) (encN a3) (encN a4) (encN a5) (encN a6) (encN a7) (.int .i64 0) (.int .i64 0) (.int .i64 0) (.int .i64 0) (.int .i64 0) (.int .i64 0) (.slice none 0 0) (.slice none 0 0) (.bool false) (encN a8) (.bool false))
      have hi1 : (k : Int) < 7 := by omega
      clear SC P21 Z21 Y21 C21 B21
      go_wp2
      go_roundw
      case rel =>
        refine ⟨k + 1, fun j => if j = k then v else f j, fun j => if j = k + 1 then s21 else st j, A21, c21, by omega, by go_num, ?_, ZX.out, YX.out, ?_, BX.out, ?_, ?_, ?_⟩
        · simp only [if_pos]; exact PX.out
        · rw [← ES.out]; exact CX.out
        · simp only [if_pos]; exact D21.out
        · simp only [if_neg (show ¬ 0 = k + 1 by omega)]; exact HZ0.out
        · intro j hj
          by_cases e : j = k
          · subst e; simp only [if_pos, if_neg (show ¬ j = j + 1 by omega)]; rw [← HS9.out]; exact G1.out
          · simp only [if_neg e, if_neg (show ¬ j = k + 1 by omega), if_neg (show ¬ j + 1 = k + 1 by omega)]; exact HQ.out j (by omega)
      case measure => simp [intOf]; omega
    · obtain rfl : k = 7 := by omega
      have CV := Lib.hid (show Hold wr (w.heap.size + 3) 37 [encN a1, encN a2, encN a3, encN a4, encN a5, encN a6, encN a7, .int .i64 0, .int .i64 0, .int .i64 0, .int .i64 0, .int .i64 0, .int .i64 0, .slice none 0 0, .slice none 0 0, .bool false, encN a8, encN (f 0), encN (f 1), encN (f 2), encN (f 3), encN (f 4), encN (f 5), encN (f 6), .bool false] from C9.out)
      have PV := Lib.hid P9.out
      have ZV := Lib.hid Z9.out
      have YV := Lib.hid Y9.out
      have BV := Lib.hid B9.out
      clear P9 Z9 Y9 C9 B9
      go_wp2_with (fail)
      refine (one_doc (HW.out.trans (BV.out.mono HW.out.size)) D9.out).mono ?_
      rintro e w10 ⟨s10, b, x10, rfl, -, hx, hb, hp⟩
      obtain ⟨A10, c10, rfl, hq⟩ := hx
      have D10 := Lib.hid (show Prt w0 _ s10 from ⟨A10, c10, rfl, hq⟩)
      clear hq
      have P10 := Lib.hid (PV.out.on hb)
      have Z10 := Lib.hid (ZV.out.on hb)
      have Y10 := Lib.hid (YV.out.on hb)
      have C10 := Lib.hid (CV.out.on hb)
      have B10 := Lib.hid (below_on BV.out hb)
      have H10 := Lib.hid hp
      clear hb hp
      clear PV ZV YV CV BV
      clear p0 p1
      have za0 := P10.out.cell 0 rfl
      have zb0 := P10.out.soft 0
      have za1 := P10.out.cell 1 rfl
      have zb1 := P10.out.soft 1
      have P10a := Lib.hid (show Hold ((w10).setCell ⟨w.heap.size, 0, none⟩ (.slice A10 s10.xs.length c10)) w.heap.size 98 [.slice A10 s10.xs.length c10, .int .i64 (s9.er : Int)] from P10.out.put 0 (.slice A10 s10.xs.length c10))
      have Z10a := Lib.hid (Z10.out.bel (Bel.store (w10) w.heap.size 0 (.slice A10 s10.xs.length c10)) (by omega))
      have Y10a := Lib.hid (Y10.out.bel (Bel.store (w10) w.heap.size 0 (.slice A10 s10.xs.length c10)) (by omega))
      have C10a := Lib.hid (C10.out.bel (Bel.store (w10) w.heap.size 0 (.slice A10 s10.xs.length c10)) (by omega))
      have B10a := Lib.hid (B10.out.setCell (p := ⟨w.heap.size, 0, none⟩) (by show w.heap.size ≤ w.heap.size; omega) (.slice A10 s10.xs.length c10))
      clear P10 Z10 Y10 C10 B10
      have P10b := Lib.hid (show Hold (((w10).setCell ⟨w.heap.size, 0, none⟩ (.slice A10 s10.xs.length c10)).setCell ⟨w.heap.size, 1, none⟩ (.int .i64 (s10.er : Int))) w.heap.size 98 [.slice A10 s10.xs.length c10, .int .i64 (s10.er : Int)] from P10a.out.put 1 (.int .i64 (s10.er : Int)))
      have Z10b := Lib.hid (Z10a.out.bel (Bel.store ((w10).setCell ⟨w.heap.size, 0, none⟩ (.slice A10 s10.xs.length c10)) w.heap.size 1 (.int .i64 (s10.er : Int))) (by omega))
      have Y10b := Lib.hid (Y10a.out.bel (Bel.store ((w10).setCell ⟨w.heap.size, 0, none⟩ (.slice A10 s10.xs.length c10)) w.heap.size 1 (.int .i64 (s10.er : Int))) (by omega))
      have C10b := Lib.hid (C10a.out.bel (Bel.store ((w10).setCell ⟨w.heap.size, 0, none⟩ (.slice A10 s10.xs.length c10)) w.heap.size 1 (.int .i64 (s10.er : Int))) (by omega))
      have B10b := Lib.hid (B10a.out.setCell (p := ⟨w.heap.size, 1, none⟩) (by show w.heap.size ≤ w.heap.size; omega) (.int .i64 (s10.er : Int)))
      clear P10a Z10a Y10a C10a B10a
      by_cases hb1 : 1 < b
      · have HB1 := Lib.hid hb1
        have qb : ((b : Int) == 1) = false := by rw [beq_eq_false_iff_ne]; omega
        go_wp2_with (fail)
        refine (fail_doc 4 rfl D10.out).mono ?_
        rintro e w11 ⟨x11, rfl, hx, hb⟩
        obtain ⟨A11, c11, rfl, hq⟩ := hx
        have D11 := Lib.hid (show Prt w0 _ (P.fail 4 s10) from ⟨A11, c11, rfl, hq⟩)
        clear hq
        have P11 := Lib.hid (P10b.out.on hb)
        have Z11 := Lib.hid (Z10b.out.on hb)
        have Y11 := Lib.hid (Y10b.out.on hb)
        have C11 := Lib.hid (C10b.out.on hb)
        have B11 := Lib.hid (below_on B10b.out hb)
        clear hb 
        clear P10b Z10b Y10b C10b B10b
        clear za0 zb0 za1 zb1
        obtain ⟨s11, hs⟩ : ∃ s11, s11 = P.fail 4 s10 := ⟨_, rfl⟩
        rw [← hs] at D11 ⊢
        have HS := Lib.hid hs
        clear hs
        have za0 := P11.out.cell 0 rfl
        have zb0 := P11.out.soft 0
        have za1 := P11.out.cell 1 rfl
        have zb1 := P11.out.soft 1
        have P11a := Lib.hid (show Hold ((w11).setCell ⟨w.heap.size, 0, none⟩ (.slice A11 s11.xs.length c11)) w.heap.size 98 [.slice A11 s11.xs.length c11, .int .i64 (s10.er : Int)] from P11.out.put 0 (.slice A11 s11.xs.length c11))
        have Z11a := Lib.hid (Z11.out.bel (Bel.store (w11) w.heap.size 0 (.slice A11 s11.xs.length c11)) (by omega))
        have Y11a := Lib.hid (Y11.out.bel (Bel.store (w11) w.heap.size 0 (.slice A11 s11.xs.length c11)) (by omega))
        have C11a := Lib.hid (C11.out.bel (Bel.store (w11) w.heap.size 0 (.slice A11 s11.xs.length c11)) (by omega))
        have B11a := Lib.hid (B11.out.setCell (p := ⟨w.heap.size, 0, none⟩) (by show w.heap.size ≤ w.heap.size; omega) (.slice A11 s11.xs.length c11))
        clear P11 Z11 Y11 C11 B11
        have P11b := Lib.hid (show Hold (((w11).setCell ⟨w.heap.size, 0, none⟩ (.slice A11 s11.xs.length c11)).setCell ⟨w.heap.size, 1, none⟩ (.int .i64 (s11.er : Int))) w.heap.size 98 [.slice A11 s11.xs.length c11, .int .i64 (s11.er : Int)] from P11a.out.put 1 (.int .i64 (s11.er : Int)))
        have Z11b := Lib.hid (Z11a.out.bel (Bel.store ((w11).setCell ⟨w.heap.size, 0, none⟩ (.slice A11 s11.xs.length c11)) w.heap.size 1 (.int .i64 (s11.er : Int))) (by omega))
        have Y11b := Lib.hid (Y11a.out.bel (Bel.store ((w11).setCell ⟨w.heap.size, 0, none⟩ (.slice A11 s11.xs.length c11)) w.heap.size 1 (.int .i64 (s11.er : Int))) (by omega))
        have C11b := Lib.hid (C11a.out.bel (Bel.store ((w11).setCell ⟨w.heap.size, 0, none⟩ (.slice A11 s11.xs.length c11)) w.heap.size 1 (.int .i64 (s11.er : Int))) (by omega))
        have B11b := Lib.hid (B11a.out.setCell (p := ⟨w.heap.size, 1, none⟩) (by show w.heap.size ≤ w.heap.size; omega) (.int .i64 (s11.er : Int)))
        clear P11a Z11a Y11a C11a B11a
        have cc := C11b.out.cell 24 rfl
        have cf := C11b.out.soft 24
        have P11ba := Lib.hid (P11b.out.bel (Bel.store (((w11).setCell ⟨w.heap.size, 0, none⟩ (.slice A11 s11.xs.length c11)).setCell ⟨w.heap.size, 1, none⟩ (.int .i64 (s11.er : Int))) (w.heap.size + 3) 24 (.bool false)) (by omega))
        have Z11ba := Lib.hid (Z11b.out.bel (Bel.store (((w11).setCell ⟨w.heap.size, 0, none⟩ (.slice A11 s11.xs.length c11)).setCell ⟨w.heap.size, 1, none⟩ (.int .i64 (s11.er : Int))) (w.heap.size + 3) 24 (.bool false)) (by omega))
        have Y11ba := Lib.hid (Y11b.out.bel (Bel.store (((w11).setCell ⟨w.heap.size, 0, none⟩ (.slice A11 s11.xs.length c11)).setCell ⟨w.heap.size, 1, none⟩ (.int .i64 (s11.er : Int))) (w.heap.size + 3) 24 (.bool false)) (by omega))
        have C11ba := Lib.hid (show Hold ((((w11).setCell ⟨w.heap.size, 0, none⟩ (.slice A11 s11.xs.length c11)).setCell ⟨w.heap.size, 1, none⟩ (.int .i64 (s11.er : Int))).setCell ⟨(w.heap.size + 3), 24, none⟩ (.bool false)) (w.heap.size + 3) 37 [encN a1, encN a2, encN a3, encN a4, encN a5, encN a6, encN a7, .int .i64 0, .int .i64 0, .int .i64 0, .int .i64 0, .int .i64 0, .int .i64 0, .slice none 0 0, .slice none 0 0, .bool false, encN a8, encN (f 0), encN (f 1), encN (f 2), encN (f 3), encN (f 4), encN (f 5), encN (f 6), .bool false] from C11b.out.put 24 (.bool false))
        have B11ba := Lib.hid (B11b.out.setCell (p := ⟨(w.heap.size + 3), 24, none⟩) (by show w.heap.size ≤ (w.heap.size + 3); omega) (.bool false))
        clear P11b Z11b Y11b C11b B11b
        go_wp2_with (fail)
        refine (tag_doc 1 rfl (HW.out.trans (B11ba.out.mono HW.out.size)) D11.out).mono ?_
        rintro e w12 ⟨s12, x12, rfl, hx, hb, hp⟩
        obtain ⟨A12, c12, rfl, hq⟩ := hx
        have D12 := Lib.hid (show Prt w0 _ s12 from ⟨A12, c12, rfl, hq⟩)
        clear hq
        have P12 := Lib.hid (P11ba.out.on hb)
        have Z12 := Lib.hid (Z11ba.out.on hb)
        have Y12 := Lib.hid (Y11ba.out.on hb)
        have C12 := Lib.hid (C11ba.out.on hb)
        have B12 := Lib.hid (below_on B11ba.out hb)
        have H12 := Lib.hid hp
        clear hb hp
        clear P11ba Z11ba Y11ba C11ba B11ba
        clear za0 zb0 za1 zb1 cc cf
        clear qb
        have za0 := P12.out.cell 0 rfl
        have zb0 := P12.out.soft 0
        have za1 := P12.out.cell 1 rfl
        have zb1 := P12.out.soft 1
        have P12a := Lib.hid (show Hold ((w12).setCell ⟨w.heap.size, 0, none⟩ (.slice A12 s12.xs.length c12)) w.heap.size 98 [.slice A12 s12.xs.length c12, .int .i64 (s11.er : Int)] from P12.out.put 0 (.slice A12 s12.xs.length c12))
        have Z12a := Lib.hid (Z12.out.bel (Bel.store (w12) w.heap.size 0 (.slice A12 s12.xs.length c12)) (by omega))
        have Y12a := Lib.hid (Y12.out.bel (Bel.store (w12) w.heap.size 0 (.slice A12 s12.xs.length c12)) (by omega))
        have C12a := Lib.hid (C12.out.bel (Bel.store (w12) w.heap.size 0 (.slice A12 s12.xs.length c12)) (by omega))
        have B12a := Lib.hid (B12.out.setCell (p := ⟨w.heap.size, 0, none⟩) (by show w.heap.size ≤ w.heap.size; omega) (.slice A12 s12.xs.length c12))
        clear P12 Z12 Y12 C12 B12
        have P12b := Lib.hid (show Hold (((w12).setCell ⟨w.heap.size, 0, none⟩ (.slice A12 s12.xs.length c12)).setCell ⟨w.heap.size, 1, none⟩ (.int .i64 (s12.er : Int))) w.heap.size 98 [.slice A12 s12.xs.length c12, .int .i64 (s12.er : Int)] from P12a.out.put 1 (.int .i64 (s12.er : Int)))
        have Z12b := Lib.hid (Z12a.out.bel (Bel.store ((w12).setCell ⟨w.heap.size, 0, none⟩ (.slice A12 s12.xs.length c12)) w.heap.size 1 (.int .i64 (s12.er : Int))) (by omega))
        have Y12b := Lib.hid (Y12a.out.bel (Bel.store ((w12).setCell ⟨w.heap.size, 0, none⟩ (.slice A12 s12.xs.length c12)) w.heap.size 1 (.int .i64 (s12.er : Int))) (by omega))
        have C12b := Lib.hid (C12a.out.bel (Bel.store ((w12).setCell ⟨w.heap.size, 0, none⟩ (.slice A12 s12.xs.length c12)) w.heap.size 1 (.int .i64 (s12.er : Int))) (by omega))
        have B12b := Lib.hid (B12a.out.setCell (p := ⟨w.heap.size, 1, none⟩) (by show w.heap.size ≤ w.heap.size; omega) (.int .i64 (s12.er : Int)))
        clear P12a Z12a Y12a C12a B12a
        go_wp2_with (fail)
        have hcs : w.heap.size + 4 ≤ (((w12).setCell ⟨w.heap.size, 0, none⟩ (.slice A12 s12.xs.length c12)).setCell ⟨w.heap.size, 1, none⟩ (.int .i64 (s12.er : Int))).heap.size := by have := C12b.out.lt; omega
        refine (command_doc (HW.out.trans (B12b.out.mono HW.out.size)) D12.out).mono ?_
        rintro e w13 ⟨s13, c, va, vb, x13, rfl, hx, hra, hrb, hb, hp, hl1⟩
        obtain ⟨A13, c13, rfl, hq⟩ := hx
        have D13 := Lib.hid (show Prt w0 _ s13 from ⟨A13, c13, rfl, hq⟩)
        clear hq
        have P13 := Lib.hid (P12b.out.on hb)
        have Z13 := Lib.hid (Z12b.out.on hb)
        have Y13 := Lib.hid (Y12b.out.on hb)
        have C13 := Lib.hid (C12b.out.on hb)
        have B13 := Lib.hid (below_on B12b.out hb)
        have H13 := Lib.hid hp
        have N1 := Lib.hid hl1
        clear hb hp hl1
        clear P12b Z12b Y12b C12b B12b
        clear za0 zb0 za1 zb1
        have Ix := Lib.hid (ownsRow_baseN hra hcs)
        have Jx := Lib.hid (ownsRow_baseN hrb hcs)
        clear hra hrb hcs
        obtain ⟨A1, k1, rfl⟩ := ownsRow_slice Ix.out
        obtain ⟨A2, k2, rfl⟩ := ownsRow_slice Jx.out
        have I13 := Lib.hid Ix.out
        have J13 := Lib.hid Jx.out
        clear Ix Jx
        have KI := Lib.hid (fun q (e : (.slice A1 c.rs.length k1 : Value).ownBlock = some q) => World.ownsRow.lt I13.out q e)
        have KJ := Lib.hid (fun q (e : (.slice A2 c.ws.length k2 : Value).ownBlock = some q) => World.ownsRow.lt J13.out q e)
        have za0 := P13.out.cell 0 rfl
        have zb0 := P13.out.soft 0
        have za1 := P13.out.cell 1 rfl
        have zb1 := P13.out.soft 1
        have P13a := Lib.hid (show Hold ((w13).setCell ⟨w.heap.size, 0, none⟩ (.slice A13 s13.xs.length c13)) w.heap.size 98 [.slice A13 s13.xs.length c13, .int .i64 (s12.er : Int)] from P13.out.put 0 (.slice A13 s13.xs.length c13))
        have Z13a := Lib.hid (Z13.out.bel (Bel.store (w13) w.heap.size 0 (.slice A13 s13.xs.length c13)) (by omega))
        have Y13a := Lib.hid (Y13.out.bel (Bel.store (w13) w.heap.size 0 (.slice A13 s13.xs.length c13)) (by omega))
        have C13a := Lib.hid (C13.out.bel (Bel.store (w13) w.heap.size 0 (.slice A13 s13.xs.length c13)) (by omega))
        have I13a := Lib.hid (ownsRow_put I13.out w.heap.size 0 (.slice A13 s13.xs.length c13) (fun q e => by have := KI.out q e; omega))
        have J13a := Lib.hid (ownsRow_put J13.out w.heap.size 0 (.slice A13 s13.xs.length c13) (fun q e => by have := KJ.out q e; omega))
        have B13a := Lib.hid (B13.out.setCell (p := ⟨w.heap.size, 0, none⟩) (by show w.heap.size ≤ w.heap.size; omega) (.slice A13 s13.xs.length c13))
        clear P13 Z13 Y13 C13 I13 J13 B13
        have P13b := Lib.hid (show Hold (((w13).setCell ⟨w.heap.size, 0, none⟩ (.slice A13 s13.xs.length c13)).setCell ⟨w.heap.size, 1, none⟩ (.int .i64 (s13.er : Int))) w.heap.size 98 [.slice A13 s13.xs.length c13, .int .i64 (s13.er : Int)] from P13a.out.put 1 (.int .i64 (s13.er : Int)))
        have Z13b := Lib.hid (Z13a.out.bel (Bel.store ((w13).setCell ⟨w.heap.size, 0, none⟩ (.slice A13 s13.xs.length c13)) w.heap.size 1 (.int .i64 (s13.er : Int))) (by omega))
        have Y13b := Lib.hid (Y13a.out.bel (Bel.store ((w13).setCell ⟨w.heap.size, 0, none⟩ (.slice A13 s13.xs.length c13)) w.heap.size 1 (.int .i64 (s13.er : Int))) (by omega))
        have C13b := Lib.hid (C13a.out.bel (Bel.store ((w13).setCell ⟨w.heap.size, 0, none⟩ (.slice A13 s13.xs.length c13)) w.heap.size 1 (.int .i64 (s13.er : Int))) (by omega))
        have I13b := Lib.hid (ownsRow_put I13a.out w.heap.size 1 (.int .i64 (s13.er : Int)) (fun q e => by have := KI.out q e; omega))
        have J13b := Lib.hid (ownsRow_put J13a.out w.heap.size 1 (.int .i64 (s13.er : Int)) (fun q e => by have := KJ.out q e; omega))
        have B13b := Lib.hid (B13a.out.setCell (p := ⟨w.heap.size, 1, none⟩) (by show w.heap.size ≤ w.heap.size; omega) (.int .i64 (s13.er : Int)))
        clear P13a Z13a Y13a C13a I13a J13a B13a
        have T1 := Lib.hid (show (((w13).setCell ⟨w.heap.size, 0, none⟩ (.slice A13 s13.xs.length c13)).setCell ⟨w.heap.size, 1, none⟩ (.int .i64 (s13.er : Int))).there (w.heap.size + 3) 7 ([.int .i64 c.k, .int .i64 c.tc, .int .i64 c.tn, .int .i64 c.tt, .int .i64 c.tk, .int .i64 c.sh, .slice A1 c.rs.length k1, .slice A2 c.ws.length k2, .bool c.cm] : List Value).length from C13b.out.there (by show 7 + 9 ≤ 25; omega))
        have se := bel_setCells (((w13).setCell ⟨w.heap.size, 0, none⟩ (.slice A13 s13.xs.length c13)).setCell ⟨w.heap.size, 1, none⟩ (.int .i64 (s13.er : Int))) (w.heap.size + 3) [.int .i64 c.k, .int .i64 c.tc, .int .i64 c.tn, .int .i64 c.tt, .int .i64 c.tk, .int .i64 c.sh, .slice A1 c.rs.length k1, .slice A2 c.ws.length k2, .bool c.cm] 7
        have FP := Hold.set [.int .i64 c.k, .int .i64 c.tc, .int .i64 c.tn, .int .i64 c.tt, .int .i64 c.tk, .int .i64 c.sh, .slice A1 c.rs.length k1, .slice A2 c.ws.length k2, .bool c.cm] [encN a1, encN a2, encN a3, encN a4, encN a5, encN a6, encN a7] [.int .i64 0, .int .i64 0, .int .i64 0, .int .i64 0, .int .i64 0, .int .i64 0, .slice none 0 0, .slice none 0 0, .bool false] [encN a8, encN (f 0), encN (f 1), encN (f 2), encN (f 3), encN (f 4), encN (f 5), encN (f 6), .bool false] rfl _ (show Hold (((w13).setCell ⟨w.heap.size, 0, none⟩ (.slice A13 s13.xs.length c13)).setCell ⟨w.heap.size, 1, none⟩ (.int .i64 (s13.er : Int))) (w.heap.size + 3) 37 ([encN a1, encN a2, encN a3, encN a4, encN a5, encN a6, encN a7] ++ [.int .i64 0, .int .i64 0, .int .i64 0, .int .i64 0, .int .i64 0, .int .i64 0, .slice none 0 0, .slice none 0 0, .bool false] ++ [encN a8, encN (f 0), encN (f 1), encN (f 2), encN (f 3), encN (f 4), encN (f 5), encN (f 6), .bool false]) from C13b.out)
        obtain ⟨wf, ef⟩ : ∃ wf, wf = (((w13).setCell ⟨w.heap.size, 0, none⟩ (.slice A13 s13.xs.length c13)).setCell ⟨w.heap.size, 1, none⟩ (.int .i64 (s13.er : Int))).setCells (w.heap.size + 3) 7 [.int .i64 c.k, .int .i64 c.tc, .int .i64 c.tn, .int .i64 c.tt, .int .i64 c.tk, .int .i64 c.sh, .slice A1 c.rs.length k1, .slice A2 c.ws.length k2, .bool c.cm] := ⟨_, rfl⟩
        have CF := Lib.hid (show Hold wf (w.heap.size + 3) 37 [encN a1, encN a2, encN a3, encN a4, encN a5, encN a6, encN a7, .int .i64 c.k, .int .i64 c.tc, .int .i64 c.tn, .int .i64 c.tt, .int .i64 c.tk, .int .i64 c.sh, .slice A1 c.rs.length k1, .slice A2 c.ws.length k2, .bool c.cm, encN a8, encN (f 0), encN (f 1), encN (f 2), encN (f 3), encN (f 4), encN (f 5), encN (f 6), .bool false] from ef ▸ FP)
        have PF := Lib.hid (show Hold wf _ _ _ from ef ▸ P13b.out.bel se (by omega))
        have ZF := Lib.hid (show Hold wf _ _ _ from ef ▸ Z13b.out.bel se (by omega))
        have YF := Lib.hid (show Hold wf _ _ _ from ef ▸ Y13b.out.bel se (by omega))
        have IF := Lib.hid (show wf.ownsRow _ _ _ _ _ _ from ef ▸ ownsRow_bel I13b.out se (by omega))
        have JF := Lib.hid (show wf.ownsRow _ _ _ _ _ _ from ef ▸ ownsRow_bel J13b.out se (by omega))
        have BF := Lib.hid (show Below w.heap.size w wf from ef ▸ below_setCells (by omega : w.heap.size ≤ w.heap.size + 3) [.int .i64 c.k, .int .i64 c.tc, .int .i64 c.tn, .int .i64 c.tt, .int .i64 c.tk, .int .i64 c.sh, .slice A1 c.rs.length k1, .slice A2 c.ws.length k2, .bool c.cm] 7 _ _ B13b.out)
        clear se FP P13b Z13b Y13b C13b I13b J13b B13b
        go_wp2_with (with_reducible refine store_list rfl 33 _ _ rfl (w.heap.size + 3) 7 [.int .i64 c.k, .int .i64 c.tc, .int .i64 c.tn, .int .i64 c.tt, .int .i64 c.tk, .int .i64 c.sh, .slice A1 c.rs.length k1, .slice A2 c.ws.length k2, .bool c.cm] rfl rfl T1.out (by kernel_rfl) (by kernel_rfl) ?_)
        rw [← ef]
        clear ef T1 za0 zb0 za1 zb1
        have TZ := Lib.hid (show wf.drew.there (w.heap.size + 1) 0 ([.slice A13 s13.xs.length c13, .int .i64 (s13.er : Int)] : List Value).length from ZF.out.there (Nat.le_refl 2))
        have SZ := bel_setCells wf.drew (w.heap.size + 1) [.slice A13 s13.xs.length c13, .int .i64 (s13.er : Int)] 0
        have CZ := Lib.hid (show Hold (wf.drew.setCells (w.heap.size + 1) 0 [.slice A13 s13.xs.length c13, .int .i64 (s13.er : Int)]) (w.heap.size + 3) 37 [encN a1, encN a2, encN a3, encN a4, encN a5, encN a6, encN a7, .int .i64 c.k, .int .i64 c.tc, .int .i64 c.tn, .int .i64 c.tt, .int .i64 c.tk, .int .i64 c.sh, .slice A1 c.rs.length k1, .slice A2 c.ws.length k2, .bool c.cm, encN a8, encN (f 0), encN (f 1), encN (f 2), encN (f 3), encN (f 4), encN (f 5), encN (f 6), .bool false] from (show Hold wf.drew _ _ _ from CF.out).bel SZ (by omega))
        have YZ := Lib.hid ((show Hold wf.drew (w.heap.size + 2) 37 [.int .i64 0, .int .i64 0, .int .i64 0, .int .i64 0, .int .i64 0, .int .i64 0, .int .i64 0, .int .i64 0, .int .i64 0, .int .i64 0, .int .i64 0, .int .i64 0, .int .i64 0, .slice none 0 0, .slice none 0 0, .bool false, .int .i64 0, .int .i64 0, .int .i64 0, .int .i64 0, .int .i64 0, .int .i64 0, .int .i64 0, .int .i64 0, .bool false] from YF.out).bel SZ (by omega))
        have FZ := Hold.set [.slice A13 s13.xs.length c13, .int .i64 (s13.er : Int)] [] [.slice none 0 0, .int .i64 0] [] rfl _ (show Hold wf.drew (w.heap.size + 1) 98 ([] ++ [.slice none 0 0, .int .i64 0] ++ []) from ZF.out)
        have TY := Lib.hid (show (wf.drew.setCells (w.heap.size + 1) 0 [.slice A13 s13.xs.length c13, .int .i64 (s13.er : Int)]).there (w.heap.size + 2) 0 ([encN a1, encN a2, encN a3, encN a4, encN a5, encN a6, encN a7, .int .i64 c.k, .int .i64 c.tc, .int .i64 c.tn, .int .i64 c.tt, .int .i64 c.tk, .int .i64 c.sh, .slice A1 c.rs.length k1, .slice A2 c.ws.length k2, .bool c.cm, encN a8, encN (f 0), encN (f 1), encN (f 2), encN (f 3), encN (f 4), encN (f 5), encN (f 6), .bool false] : List Value).length from YZ.out.there (Nat.le_refl 25))
        have SY := bel_setCells (wf.drew.setCells (w.heap.size + 1) 0 [.slice A13 s13.xs.length c13, .int .i64 (s13.er : Int)]) (w.heap.size + 2) [encN a1, encN a2, encN a3, encN a4, encN a5, encN a6, encN a7, .int .i64 c.k, .int .i64 c.tc, .int .i64 c.tn, .int .i64 c.tt, .int .i64 c.tk, .int .i64 c.sh, .slice A1 c.rs.length k1, .slice A2 c.ws.length k2, .bool c.cm, encN a8, encN (f 0), encN (f 1), encN (f 2), encN (f 3), encN (f 4), encN (f 5), encN (f 6), .bool false] 0
        have FY := Hold.set [encN a1, encN a2, encN a3, encN a4, encN a5, encN a6, encN a7, .int .i64 c.k, .int .i64 c.tc, .int .i64 c.tn, .int .i64 c.tt, .int .i64 c.tk, .int .i64 c.sh, .slice A1 c.rs.length k1, .slice A2 c.ws.length k2, .bool c.cm, encN a8, encN (f 0), encN (f 1), encN (f 2), encN (f 3), encN (f 4), encN (f 5), encN (f 6), .bool false] [] [.int .i64 0, .int .i64 0, .int .i64 0, .int .i64 0, .int .i64 0, .int .i64 0, .int .i64 0, .int .i64 0, .int .i64 0, .int .i64 0, .int .i64 0, .int .i64 0, .int .i64 0, .slice none 0 0, .slice none 0 0, .bool false, .int .i64 0, .int .i64 0, .int .i64 0, .int .i64 0, .int .i64 0, .int .i64 0, .int .i64 0, .int .i64 0, .bool false] [] rfl _ (show Hold (wf.drew.setCells (w.heap.size + 1) 0 [.slice A13 s13.xs.length c13, .int .i64 (s13.er : Int)]) (w.heap.size + 2) 37 ([] ++ [.int .i64 0, .int .i64 0, .int .i64 0, .int .i64 0, .int .i64 0, .int .i64 0, .int .i64 0, .int .i64 0, .int .i64 0, .int .i64 0, .int .i64 0, .int .i64 0, .int .i64 0, .slice none 0 0, .slice none 0 0, .bool false, .int .i64 0, .int .i64 0, .int .i64 0, .int .i64 0, .int .i64 0, .int .i64 0, .int .i64 0, .int .i64 0, .bool false] ++ []) from YZ.out)
        have ZE := Lib.hid ((show Hold (wf.drew.setCells (w.heap.size + 1) 0 [.slice A13 s13.xs.length c13, .int .i64 (s13.er : Int)]) (w.heap.size + 1) 98 [.slice A13 s13.xs.length c13, .int .i64 (s13.er : Int)] from FZ).bel SY (by omega))
        have YE := Lib.hid (show Hold ((wf.drew.setCells (w.heap.size + 1) 0 [.slice A13 s13.xs.length c13, .int .i64 (s13.er : Int)]).setCells (w.heap.size + 2) 0 [encN a1, encN a2, encN a3, encN a4, encN a5, encN a6, encN a7, .int .i64 c.k, .int .i64 c.tc, .int .i64 c.tn, .int .i64 c.tt, .int .i64 c.tk, .int .i64 c.sh, .slice A1 c.rs.length k1, .slice A2 c.ws.length k2, .bool c.cm, encN a8, encN (f 0), encN (f 1), encN (f 2), encN (f 3), encN (f 4), encN (f 5), encN (f 6), .bool false]) (w.heap.size + 2) 37 [encN a1, encN a2, encN a3, encN a4, encN a5, encN a6, encN a7, .int .i64 c.k, .int .i64 c.tc, .int .i64 c.tn, .int .i64 c.tt, .int .i64 c.tk, .int .i64 c.sh, .slice A1 c.rs.length k1, .slice A2 c.ws.length k2, .bool c.cm, encN a8, encN (f 0), encN (f 1), encN (f 2), encN (f 3), encN (f 4), encN (f 5), encN (f 6), .bool false] from FY)
        have IE := Lib.hid (ownsRow_bel (ownsRow_bel (ownsRow_bel (g := 0) IF.out (Bel.of (Below.refl _ _).drew) (by omega)) SZ (by omega)) SY (by omega))
        have JE := Lib.hid (ownsRow_bel (ownsRow_bel (ownsRow_bel (g := 0) JF.out (Bel.of (Below.refl _ _).drew) (by omega)) SZ (by omega)) SY (by omega))
        have BE := Lib.hid (below_setCells (by omega : w.heap.size ≤ w.heap.size + 2) [encN a1, encN a2, encN a3, encN a4, encN a5, encN a6, encN a7, .int .i64 c.k, .int .i64 c.tc, .int .i64 c.tn, .int .i64 c.tt, .int .i64 c.tk, .int .i64 c.sh, .slice A1 c.rs.length k1, .slice A2 c.ws.length k2, .bool c.cm, encN a8, encN (f 0), encN (f 1), encN (f 2), encN (f 3), encN (f 4), encN (f 5), encN (f 6), .bool false] 0 _ _ (below_setCells (by omega : w.heap.size ≤ w.heap.size + 1) [.slice A13 s13.xs.length c13, .int .i64 (s13.er : Int)] 0 _ _ BF.out.drew))
        clear SZ SY FZ FY
        have PD := HQ.out
        have h8 := Ha8.out
        rw [← HZ0.out] at h8
        have hs7 := HS9.out
        subst hs7
        have RAN := Lib.hid (show P.Ran P.rcd s s13 ⟨a1, a2, a3, a4, a5, a6, a7, c, a8, f 0, f 1, f 2, f 3, f 4, f 5, f 6, false⟩ from P.Ran.bind P.errs_num Ha1.out (P.Ran.bind P.errs_num Ha2.out (P.Ran.bind P.errs_num Ha3.out (P.Ran.bind P.errs_num Ha4.out (P.Ran.bind P.errs_num Ha5.out (P.Ran.bind P.errs_num Ha6.out (P.Ran.bind P.errs_num Ha7.out (P.Ran.bind P.errs_num h8 (P.Ran.bind P.errs_num (PD 0 (by omega)) (P.Ran.bind P.errs_num (PD 1 (by omega)) (P.Ran.bind P.errs_num (PD 2 (by omega)) (P.Ran.bind P.errs_num (PD 3 (by omega)) (P.Ran.bind P.errs_num (PD 4 (by omega)) (P.Ran.bind P.errs_num (PD 5 (by omega)) (P.Ran.bind P.errs_num (PD 6 (by omega)) (P.Ran.bind P.errs_boolean (P.Ran.bind P.errs_one H10.out (by rw [if_pos HB1.out, HS.out]; exact P.Ran.err _ _)) (P.Ran.bind (P.errs_mark 1) H12.out (P.Ran.bind P.errs_cmd H13.out (P.Ran.ret _ _)))))))))))))))))))
        clear PD h8
        refine wp_region_any (by kernel_rfl) ?_
        try (change wpAny _ _ _ _ _ _ _ (World.drew _))
        refine wpAny_ready (rs := [0, 1]) (by kernel_rfl) (by simp) ?_
        refine AllReady.cons rfl (fun K hK => ?_) (AllReady.cons rfl (fun K hK => ?_) AllReady.nil)
        · refine step_ld (by rfl) 98 _ rfl w.heap.size 0 rfl [.slice A13 s13.xs.length c13, .int .i64 (s13.er : Int)] _ ((show wf.drew.rangeAt w.heap.size 0 _ from PF.out.cel.whole)) Try.underlying98 rfl (by kernel_rfl) ?_
          try go_simp
          refine hK _ _ ?_
          clear hK K
          refine wpAny_ready (rs := [1, 2]) (by kernel_rfl) (by simp) ?_
          refine AllReady.cons rfl (fun K hK => ?_) (AllReady.cons rfl (fun K hK => ?_) AllReady.nil)
          · refine step_ld (by rfl) 37 _ rfl (w.heap.size + 3) 0 rfl [encN a1, encN a2, encN a3, encN a4, encN a5, encN a6, encN a7, .int .i64 c.k, .int .i64 c.tc, .int .i64 c.tn, .int .i64 c.tt, .int .i64 c.tk, .int .i64 c.sh, .slice A1 c.rs.length k1, .slice A2 c.ws.length k2, .bool c.cm, encN a8, encN (f 0), encN (f 1), encN (f 2), encN (f 3), encN (f 4), encN (f 5), encN (f 6), .bool false] _ ((show wf.drew.rangeAt (w.heap.size + 3) 0 _ from CF.out.cel.whole)) Try.underlying37 rfl (by kernel_rfl) ?_
            try go_simp
            refine hK _ _ ?_
            clear hK K
            refine wpAny_ready (rs := [2]) (by kernel_rfl) (by simp) ?_
            refine AllReady.cons rfl (fun K hK => ?_) AllReady.nil
            refine step_st (by rfl) 98 _ _ rfl (w.heap.size + 1) 0 [.slice A13 s13.xs.length c13, .int .i64 (s13.er : Int)] rfl rfl TZ.out (by kernel_rfl) (by kernel_rfl) ?_
            try go_simp
            refine hK _ _ ?_
            clear hK K
            refine wpAny_ready (rs := [3]) (by kernel_rfl) (by simp) ?_
            refine AllReady.cons rfl (fun K hK => ?_) AllReady.nil
            refine step_st (by rfl) 37 _ _ rfl (w.heap.size + 2) 0 [encN a1, encN a2, encN a3, encN a4, encN a5, encN a6, encN a7, .int .i64 c.k, .int .i64 c.tc, .int .i64 c.tn, .int .i64 c.tt, .int .i64 c.tk, .int .i64 c.sh, .slice A1 c.rs.length k1, .slice A2 c.ws.length k2, .bool c.cm, encN a8, encN (f 0), encN (f 1), encN (f 2), encN (f 3), encN (f 4), encN (f 5), encN (f 6), .bool false] rfl rfl TY.out (by kernel_rfl) (by kernel_rfl) ?_
            try go_simp
            refine hK _ _ ?_
            clear hK K
            refine wpAny_done (by kernel_rfl) ?_ _
            go_wp2
            refine bodyPost_ret (results_cc rfl rfl rfl ZE.out.cel.whole YE.out.cel.whole _ _ Try.underlying98 Try.underlying37 rfl rfl (by kernel_rfl) (by kernel_rfl)) rfl ?_
            exact ⟨s13, ⟨a1, a2, a3, a4, a5, a6, a7, c, a8, f 0, f 1, f 2, f 3, f 4, f 5, f 6, false⟩, _, _, _, rfl, D13.out, ownsRow_baseN IE.out (by omega), ownsRow_baseN JE.out (by omega), BE.out, RAN.out, N1.out⟩
          · refine step_st (by rfl) 98 _ _ rfl (w.heap.size + 1) 0 [.slice A13 s13.xs.length c13, .int .i64 (s13.er : Int)] rfl rfl TZ.out (by kernel_rfl) (by kernel_rfl) ?_
            try go_simp
            refine hK _ _ ?_
            clear hK K
            refine wpAny_ready (rs := [1]) (by kernel_rfl) (by simp) ?_
            refine AllReady.cons rfl (fun K hK => ?_) AllReady.nil
            refine step_ld (by rfl) 37 _ rfl (w.heap.size + 3) 0 rfl [encN a1, encN a2, encN a3, encN a4, encN a5, encN a6, encN a7, .int .i64 c.k, .int .i64 c.tc, .int .i64 c.tn, .int .i64 c.tt, .int .i64 c.tk, .int .i64 c.sh, .slice A1 c.rs.length k1, .slice A2 c.ws.length k2, .bool c.cm, encN a8, encN (f 0), encN (f 1), encN (f 2), encN (f 3), encN (f 4), encN (f 5), encN (f 6), .bool false] _ (CZ.out.cel.whole) Try.underlying37 rfl (by kernel_rfl) ?_
            try go_simp
            refine hK _ _ ?_
            clear hK K
            refine wpAny_ready (rs := [3]) (by kernel_rfl) (by simp) ?_
            refine AllReady.cons rfl (fun K hK => ?_) AllReady.nil
            refine step_st (by rfl) 37 _ _ rfl (w.heap.size + 2) 0 [encN a1, encN a2, encN a3, encN a4, encN a5, encN a6, encN a7, .int .i64 c.k, .int .i64 c.tc, .int .i64 c.tn, .int .i64 c.tt, .int .i64 c.tk, .int .i64 c.sh, .slice A1 c.rs.length k1, .slice A2 c.ws.length k2, .bool c.cm, encN a8, encN (f 0), encN (f 1), encN (f 2), encN (f 3), encN (f 4), encN (f 5), encN (f 6), .bool false] rfl rfl TY.out (by kernel_rfl) (by kernel_rfl) ?_
            try go_simp
            refine hK _ _ ?_
            clear hK K
            refine wpAny_done (by kernel_rfl) ?_ _
            go_wp2
            refine bodyPost_ret (results_cc rfl rfl rfl ZE.out.cel.whole YE.out.cel.whole _ _ Try.underlying98 Try.underlying37 rfl rfl (by kernel_rfl) (by kernel_rfl)) rfl ?_
            exact ⟨s13, ⟨a1, a2, a3, a4, a5, a6, a7, c, a8, f 0, f 1, f 2, f 3, f 4, f 5, f 6, false⟩, _, _, _, rfl, D13.out, ownsRow_baseN IE.out (by omega), ownsRow_baseN JE.out (by omega), BE.out, RAN.out, N1.out⟩
        · refine step_ld (by rfl) 37 _ rfl (w.heap.size + 3) 0 rfl [encN a1, encN a2, encN a3, encN a4, encN a5, encN a6, encN a7, .int .i64 c.k, .int .i64 c.tc, .int .i64 c.tn, .int .i64 c.tt, .int .i64 c.tk, .int .i64 c.sh, .slice A1 c.rs.length k1, .slice A2 c.ws.length k2, .bool c.cm, encN a8, encN (f 0), encN (f 1), encN (f 2), encN (f 3), encN (f 4), encN (f 5), encN (f 6), .bool false] _ ((show wf.drew.rangeAt (w.heap.size + 3) 0 _ from CF.out.cel.whole)) Try.underlying37 rfl (by kernel_rfl) ?_
          try go_simp
          refine hK _ _ ?_
          clear hK K
          refine wpAny_ready (rs := [0]) (by kernel_rfl) (by simp) ?_
          refine AllReady.cons rfl (fun K hK => ?_) AllReady.nil
          refine step_ld (by rfl) 98 _ rfl w.heap.size 0 rfl [.slice A13 s13.xs.length c13, .int .i64 (s13.er : Int)] _ ((show wf.drew.rangeAt w.heap.size 0 _ from PF.out.cel.whole)) Try.underlying98 rfl (by kernel_rfl) ?_
          try go_simp
          refine hK _ _ ?_
          clear hK K
          refine wpAny_ready (rs := [2]) (by kernel_rfl) (by simp) ?_
          refine AllReady.cons rfl (fun K hK => ?_) AllReady.nil
          refine step_st (by rfl) 98 _ _ rfl (w.heap.size + 1) 0 [.slice A13 s13.xs.length c13, .int .i64 (s13.er : Int)] rfl rfl TZ.out (by kernel_rfl) (by kernel_rfl) ?_
          try go_simp
          refine hK _ _ ?_
          clear hK K
          refine wpAny_ready (rs := [3]) (by kernel_rfl) (by simp) ?_
          refine AllReady.cons rfl (fun K hK => ?_) AllReady.nil
          refine step_st (by rfl) 37 _ _ rfl (w.heap.size + 2) 0 [encN a1, encN a2, encN a3, encN a4, encN a5, encN a6, encN a7, .int .i64 c.k, .int .i64 c.tc, .int .i64 c.tn, .int .i64 c.tt, .int .i64 c.tk, .int .i64 c.sh, .slice A1 c.rs.length k1, .slice A2 c.ws.length k2, .bool c.cm, encN a8, encN (f 0), encN (f 1), encN (f 2), encN (f 3), encN (f 4), encN (f 5), encN (f 6), .bool false] rfl rfl TY.out (by kernel_rfl) (by kernel_rfl) ?_
          try go_simp
          refine hK _ _ ?_
          clear hK K
          refine wpAny_done (by kernel_rfl) ?_ _
          go_wp2
          refine bodyPost_ret (results_cc rfl rfl rfl ZE.out.cel.whole YE.out.cel.whole _ _ Try.underlying98 Try.underlying37 rfl rfl (by kernel_rfl) (by kernel_rfl)) rfl ?_
          exact ⟨s13, ⟨a1, a2, a3, a4, a5, a6, a7, c, a8, f 0, f 1, f 2, f 3, f 4, f 5, f 6, false⟩, _, _, _, rfl, D13.out, ownsRow_baseN IE.out (by omega), ownsRow_baseN JE.out (by omega), BE.out, RAN.out, N1.out⟩
      · have HB1 := Lib.hid hb1
        obtain ⟨qv, hqv⟩ : ∃ qv, qv = decide (b = 1) := ⟨_, rfl⟩
        have qb : ((b : Int) == 1) = qv := by
          rw [hqv]
          by_cases h : b = 1
          · subst h; rfl
          · rw [decide_eq_false h, beq_eq_false_iff_ne]; omega
        have HQV := Lib.hid hqv
        clear hqv
        have cc := C10b.out.cell 24 rfl
        have cf := C10b.out.soft 24
        have P10ba := Lib.hid (P10b.out.bel (Bel.store (((w10).setCell ⟨w.heap.size, 0, none⟩ (.slice A10 s10.xs.length c10)).setCell ⟨w.heap.size, 1, none⟩ (.int .i64 (s10.er : Int))) (w.heap.size + 3) 24 (.bool qv)) (by omega))
        have Z10ba := Lib.hid (Z10b.out.bel (Bel.store (((w10).setCell ⟨w.heap.size, 0, none⟩ (.slice A10 s10.xs.length c10)).setCell ⟨w.heap.size, 1, none⟩ (.int .i64 (s10.er : Int))) (w.heap.size + 3) 24 (.bool qv)) (by omega))
        have Y10ba := Lib.hid (Y10b.out.bel (Bel.store (((w10).setCell ⟨w.heap.size, 0, none⟩ (.slice A10 s10.xs.length c10)).setCell ⟨w.heap.size, 1, none⟩ (.int .i64 (s10.er : Int))) (w.heap.size + 3) 24 (.bool qv)) (by omega))
        have C10ba := Lib.hid (show Hold ((((w10).setCell ⟨w.heap.size, 0, none⟩ (.slice A10 s10.xs.length c10)).setCell ⟨w.heap.size, 1, none⟩ (.int .i64 (s10.er : Int))).setCell ⟨(w.heap.size + 3), 24, none⟩ (.bool qv)) (w.heap.size + 3) 37 [encN a1, encN a2, encN a3, encN a4, encN a5, encN a6, encN a7, .int .i64 0, .int .i64 0, .int .i64 0, .int .i64 0, .int .i64 0, .int .i64 0, .slice none 0 0, .slice none 0 0, .bool false, encN a8, encN (f 0), encN (f 1), encN (f 2), encN (f 3), encN (f 4), encN (f 5), encN (f 6), .bool qv] from C10b.out.put 24 (.bool qv))
        have B10ba := Lib.hid (B10b.out.setCell (p := ⟨(w.heap.size + 3), 24, none⟩) (by show w.heap.size ≤ (w.heap.size + 3); omega) (.bool qv))
        clear P10b Z10b Y10b C10b B10b
        go_wp2_with (fail)
        refine (tag_doc 1 rfl (HW.out.trans (B10ba.out.mono HW.out.size)) D10.out).mono ?_
        rintro e w11 ⟨s12, x12, rfl, hx, hb, hp⟩
        obtain ⟨A11, c11, rfl, hq⟩ := hx
        have D11 := Lib.hid (show Prt w0 _ s12 from ⟨A11, c11, rfl, hq⟩)
        clear hq
        have P11 := Lib.hid (P10ba.out.on hb)
        have Z11 := Lib.hid (Z10ba.out.on hb)
        have Y11 := Lib.hid (Y10ba.out.on hb)
        have C11 := Lib.hid (C10ba.out.on hb)
        have B11 := Lib.hid (below_on B10ba.out hb)
        have H12 := Lib.hid hp
        clear hb hp
        clear P10ba Z10ba Y10ba C10ba B10ba
        clear za0 zb0 za1 zb1 cc cf
        clear qb
        have za0 := P11.out.cell 0 rfl
        have zb0 := P11.out.soft 0
        have za1 := P11.out.cell 1 rfl
        have zb1 := P11.out.soft 1
        have P11a := Lib.hid (show Hold ((w11).setCell ⟨w.heap.size, 0, none⟩ (.slice A11 s12.xs.length c11)) w.heap.size 98 [.slice A11 s12.xs.length c11, .int .i64 (s10.er : Int)] from P11.out.put 0 (.slice A11 s12.xs.length c11))
        have Z11a := Lib.hid (Z11.out.bel (Bel.store (w11) w.heap.size 0 (.slice A11 s12.xs.length c11)) (by omega))
        have Y11a := Lib.hid (Y11.out.bel (Bel.store (w11) w.heap.size 0 (.slice A11 s12.xs.length c11)) (by omega))
        have C11a := Lib.hid (C11.out.bel (Bel.store (w11) w.heap.size 0 (.slice A11 s12.xs.length c11)) (by omega))
        have B11a := Lib.hid (B11.out.setCell (p := ⟨w.heap.size, 0, none⟩) (by show w.heap.size ≤ w.heap.size; omega) (.slice A11 s12.xs.length c11))
        clear P11 Z11 Y11 C11 B11
        have P11b := Lib.hid (show Hold (((w11).setCell ⟨w.heap.size, 0, none⟩ (.slice A11 s12.xs.length c11)).setCell ⟨w.heap.size, 1, none⟩ (.int .i64 (s12.er : Int))) w.heap.size 98 [.slice A11 s12.xs.length c11, .int .i64 (s12.er : Int)] from P11a.out.put 1 (.int .i64 (s12.er : Int)))
        have Z11b := Lib.hid (Z11a.out.bel (Bel.store ((w11).setCell ⟨w.heap.size, 0, none⟩ (.slice A11 s12.xs.length c11)) w.heap.size 1 (.int .i64 (s12.er : Int))) (by omega))
        have Y11b := Lib.hid (Y11a.out.bel (Bel.store ((w11).setCell ⟨w.heap.size, 0, none⟩ (.slice A11 s12.xs.length c11)) w.heap.size 1 (.int .i64 (s12.er : Int))) (by omega))
        have C11b := Lib.hid (C11a.out.bel (Bel.store ((w11).setCell ⟨w.heap.size, 0, none⟩ (.slice A11 s12.xs.length c11)) w.heap.size 1 (.int .i64 (s12.er : Int))) (by omega))
        have B11b := Lib.hid (B11a.out.setCell (p := ⟨w.heap.size, 1, none⟩) (by show w.heap.size ≤ w.heap.size; omega) (.int .i64 (s12.er : Int)))
        clear P11a Z11a Y11a C11a B11a
        go_wp2_with (fail)
        have hcs : w.heap.size + 4 ≤ (((w11).setCell ⟨w.heap.size, 0, none⟩ (.slice A11 s12.xs.length c11)).setCell ⟨w.heap.size, 1, none⟩ (.int .i64 (s12.er : Int))).heap.size := by have := C11b.out.lt; omega
        refine (command_doc (HW.out.trans (B11b.out.mono HW.out.size)) D11.out).mono ?_
        rintro e w12 ⟨s13, c, va, vb, x13, rfl, hx, hra, hrb, hb, hp, hl1⟩
        obtain ⟨A12, c12, rfl, hq⟩ := hx
        have D12 := Lib.hid (show Prt w0 _ s13 from ⟨A12, c12, rfl, hq⟩)
        clear hq
        have P12 := Lib.hid (P11b.out.on hb)
        have Z12 := Lib.hid (Z11b.out.on hb)
        have Y12 := Lib.hid (Y11b.out.on hb)
        have C12 := Lib.hid (C11b.out.on hb)
        have B12 := Lib.hid (below_on B11b.out hb)
        have H13 := Lib.hid hp
        have N1 := Lib.hid hl1
        clear hb hp hl1
        clear P11b Z11b Y11b C11b B11b
        clear za0 zb0 za1 zb1
        have Ix := Lib.hid (ownsRow_baseN hra hcs)
        have Jx := Lib.hid (ownsRow_baseN hrb hcs)
        clear hra hrb hcs
        obtain ⟨A1, k1, rfl⟩ := ownsRow_slice Ix.out
        obtain ⟨A2, k2, rfl⟩ := ownsRow_slice Jx.out
        have I12 := Lib.hid Ix.out
        have J12 := Lib.hid Jx.out
        clear Ix Jx
        have KI := Lib.hid (fun q (e : (.slice A1 c.rs.length k1 : Value).ownBlock = some q) => World.ownsRow.lt I12.out q e)
        have KJ := Lib.hid (fun q (e : (.slice A2 c.ws.length k2 : Value).ownBlock = some q) => World.ownsRow.lt J12.out q e)
        have za0 := P12.out.cell 0 rfl
        have zb0 := P12.out.soft 0
        have za1 := P12.out.cell 1 rfl
        have zb1 := P12.out.soft 1
        have P12a := Lib.hid (show Hold ((w12).setCell ⟨w.heap.size, 0, none⟩ (.slice A12 s13.xs.length c12)) w.heap.size 98 [.slice A12 s13.xs.length c12, .int .i64 (s12.er : Int)] from P12.out.put 0 (.slice A12 s13.xs.length c12))
        have Z12a := Lib.hid (Z12.out.bel (Bel.store (w12) w.heap.size 0 (.slice A12 s13.xs.length c12)) (by omega))
        have Y12a := Lib.hid (Y12.out.bel (Bel.store (w12) w.heap.size 0 (.slice A12 s13.xs.length c12)) (by omega))
        have C12a := Lib.hid (C12.out.bel (Bel.store (w12) w.heap.size 0 (.slice A12 s13.xs.length c12)) (by omega))
        have I12a := Lib.hid (ownsRow_put I12.out w.heap.size 0 (.slice A12 s13.xs.length c12) (fun q e => by have := KI.out q e; omega))
        have J12a := Lib.hid (ownsRow_put J12.out w.heap.size 0 (.slice A12 s13.xs.length c12) (fun q e => by have := KJ.out q e; omega))
        have B12a := Lib.hid (B12.out.setCell (p := ⟨w.heap.size, 0, none⟩) (by show w.heap.size ≤ w.heap.size; omega) (.slice A12 s13.xs.length c12))
        clear P12 Z12 Y12 C12 I12 J12 B12
        have P12b := Lib.hid (show Hold (((w12).setCell ⟨w.heap.size, 0, none⟩ (.slice A12 s13.xs.length c12)).setCell ⟨w.heap.size, 1, none⟩ (.int .i64 (s13.er : Int))) w.heap.size 98 [.slice A12 s13.xs.length c12, .int .i64 (s13.er : Int)] from P12a.out.put 1 (.int .i64 (s13.er : Int)))
        have Z12b := Lib.hid (Z12a.out.bel (Bel.store ((w12).setCell ⟨w.heap.size, 0, none⟩ (.slice A12 s13.xs.length c12)) w.heap.size 1 (.int .i64 (s13.er : Int))) (by omega))
        have Y12b := Lib.hid (Y12a.out.bel (Bel.store ((w12).setCell ⟨w.heap.size, 0, none⟩ (.slice A12 s13.xs.length c12)) w.heap.size 1 (.int .i64 (s13.er : Int))) (by omega))
        have C12b := Lib.hid (C12a.out.bel (Bel.store ((w12).setCell ⟨w.heap.size, 0, none⟩ (.slice A12 s13.xs.length c12)) w.heap.size 1 (.int .i64 (s13.er : Int))) (by omega))
        have I12b := Lib.hid (ownsRow_put I12a.out w.heap.size 1 (.int .i64 (s13.er : Int)) (fun q e => by have := KI.out q e; omega))
        have J12b := Lib.hid (ownsRow_put J12a.out w.heap.size 1 (.int .i64 (s13.er : Int)) (fun q e => by have := KJ.out q e; omega))
        have B12b := Lib.hid (B12a.out.setCell (p := ⟨w.heap.size, 1, none⟩) (by show w.heap.size ≤ w.heap.size; omega) (.int .i64 (s13.er : Int)))
        clear P12a Z12a Y12a C12a I12a J12a B12a
        have T1 := Lib.hid (show (((w12).setCell ⟨w.heap.size, 0, none⟩ (.slice A12 s13.xs.length c12)).setCell ⟨w.heap.size, 1, none⟩ (.int .i64 (s13.er : Int))).there (w.heap.size + 3) 7 ([.int .i64 c.k, .int .i64 c.tc, .int .i64 c.tn, .int .i64 c.tt, .int .i64 c.tk, .int .i64 c.sh, .slice A1 c.rs.length k1, .slice A2 c.ws.length k2, .bool c.cm] : List Value).length from C12b.out.there (by show 7 + 9 ≤ 25; omega))
        have se := bel_setCells (((w12).setCell ⟨w.heap.size, 0, none⟩ (.slice A12 s13.xs.length c12)).setCell ⟨w.heap.size, 1, none⟩ (.int .i64 (s13.er : Int))) (w.heap.size + 3) [.int .i64 c.k, .int .i64 c.tc, .int .i64 c.tn, .int .i64 c.tt, .int .i64 c.tk, .int .i64 c.sh, .slice A1 c.rs.length k1, .slice A2 c.ws.length k2, .bool c.cm] 7
        have FP := Hold.set [.int .i64 c.k, .int .i64 c.tc, .int .i64 c.tn, .int .i64 c.tt, .int .i64 c.tk, .int .i64 c.sh, .slice A1 c.rs.length k1, .slice A2 c.ws.length k2, .bool c.cm] [encN a1, encN a2, encN a3, encN a4, encN a5, encN a6, encN a7] [.int .i64 0, .int .i64 0, .int .i64 0, .int .i64 0, .int .i64 0, .int .i64 0, .slice none 0 0, .slice none 0 0, .bool false] [encN a8, encN (f 0), encN (f 1), encN (f 2), encN (f 3), encN (f 4), encN (f 5), encN (f 6), .bool qv] rfl _ (show Hold (((w12).setCell ⟨w.heap.size, 0, none⟩ (.slice A12 s13.xs.length c12)).setCell ⟨w.heap.size, 1, none⟩ (.int .i64 (s13.er : Int))) (w.heap.size + 3) 37 ([encN a1, encN a2, encN a3, encN a4, encN a5, encN a6, encN a7] ++ [.int .i64 0, .int .i64 0, .int .i64 0, .int .i64 0, .int .i64 0, .int .i64 0, .slice none 0 0, .slice none 0 0, .bool false] ++ [encN a8, encN (f 0), encN (f 1), encN (f 2), encN (f 3), encN (f 4), encN (f 5), encN (f 6), .bool qv]) from C12b.out)
        obtain ⟨wf, ef⟩ : ∃ wf, wf = (((w12).setCell ⟨w.heap.size, 0, none⟩ (.slice A12 s13.xs.length c12)).setCell ⟨w.heap.size, 1, none⟩ (.int .i64 (s13.er : Int))).setCells (w.heap.size + 3) 7 [.int .i64 c.k, .int .i64 c.tc, .int .i64 c.tn, .int .i64 c.tt, .int .i64 c.tk, .int .i64 c.sh, .slice A1 c.rs.length k1, .slice A2 c.ws.length k2, .bool c.cm] := ⟨_, rfl⟩
        have CF := Lib.hid (show Hold wf (w.heap.size + 3) 37 [encN a1, encN a2, encN a3, encN a4, encN a5, encN a6, encN a7, .int .i64 c.k, .int .i64 c.tc, .int .i64 c.tn, .int .i64 c.tt, .int .i64 c.tk, .int .i64 c.sh, .slice A1 c.rs.length k1, .slice A2 c.ws.length k2, .bool c.cm, encN a8, encN (f 0), encN (f 1), encN (f 2), encN (f 3), encN (f 4), encN (f 5), encN (f 6), .bool qv] from ef ▸ FP)
        have PF := Lib.hid (show Hold wf _ _ _ from ef ▸ P12b.out.bel se (by omega))
        have ZF := Lib.hid (show Hold wf _ _ _ from ef ▸ Z12b.out.bel se (by omega))
        have YF := Lib.hid (show Hold wf _ _ _ from ef ▸ Y12b.out.bel se (by omega))
        have IF := Lib.hid (show wf.ownsRow _ _ _ _ _ _ from ef ▸ ownsRow_bel I12b.out se (by omega))
        have JF := Lib.hid (show wf.ownsRow _ _ _ _ _ _ from ef ▸ ownsRow_bel J12b.out se (by omega))
        have BF := Lib.hid (show Below w.heap.size w wf from ef ▸ below_setCells (by omega : w.heap.size ≤ w.heap.size + 3) [.int .i64 c.k, .int .i64 c.tc, .int .i64 c.tn, .int .i64 c.tt, .int .i64 c.tk, .int .i64 c.sh, .slice A1 c.rs.length k1, .slice A2 c.ws.length k2, .bool c.cm] 7 _ _ B12b.out)
        clear se FP P12b Z12b Y12b C12b I12b J12b B12b
        go_wp2_with (with_reducible refine store_list rfl 33 _ _ rfl (w.heap.size + 3) 7 [.int .i64 c.k, .int .i64 c.tc, .int .i64 c.tn, .int .i64 c.tt, .int .i64 c.tk, .int .i64 c.sh, .slice A1 c.rs.length k1, .slice A2 c.ws.length k2, .bool c.cm] rfl rfl T1.out (by kernel_rfl) (by kernel_rfl) ?_)
        rw [← ef]
        clear ef T1 za0 zb0 za1 zb1
        have TZ := Lib.hid (show wf.drew.there (w.heap.size + 1) 0 ([.slice A12 s13.xs.length c12, .int .i64 (s13.er : Int)] : List Value).length from ZF.out.there (Nat.le_refl 2))
        have SZ := bel_setCells wf.drew (w.heap.size + 1) [.slice A12 s13.xs.length c12, .int .i64 (s13.er : Int)] 0
        have CZ := Lib.hid (show Hold (wf.drew.setCells (w.heap.size + 1) 0 [.slice A12 s13.xs.length c12, .int .i64 (s13.er : Int)]) (w.heap.size + 3) 37 [encN a1, encN a2, encN a3, encN a4, encN a5, encN a6, encN a7, .int .i64 c.k, .int .i64 c.tc, .int .i64 c.tn, .int .i64 c.tt, .int .i64 c.tk, .int .i64 c.sh, .slice A1 c.rs.length k1, .slice A2 c.ws.length k2, .bool c.cm, encN a8, encN (f 0), encN (f 1), encN (f 2), encN (f 3), encN (f 4), encN (f 5), encN (f 6), .bool qv] from (show Hold wf.drew _ _ _ from CF.out).bel SZ (by omega))
        have YZ := Lib.hid ((show Hold wf.drew (w.heap.size + 2) 37 [.int .i64 0, .int .i64 0, .int .i64 0, .int .i64 0, .int .i64 0, .int .i64 0, .int .i64 0, .int .i64 0, .int .i64 0, .int .i64 0, .int .i64 0, .int .i64 0, .int .i64 0, .slice none 0 0, .slice none 0 0, .bool false, .int .i64 0, .int .i64 0, .int .i64 0, .int .i64 0, .int .i64 0, .int .i64 0, .int .i64 0, .int .i64 0, .bool false] from YF.out).bel SZ (by omega))
        have FZ := Hold.set [.slice A12 s13.xs.length c12, .int .i64 (s13.er : Int)] [] [.slice none 0 0, .int .i64 0] [] rfl _ (show Hold wf.drew (w.heap.size + 1) 98 ([] ++ [.slice none 0 0, .int .i64 0] ++ []) from ZF.out)
        have TY := Lib.hid (show (wf.drew.setCells (w.heap.size + 1) 0 [.slice A12 s13.xs.length c12, .int .i64 (s13.er : Int)]).there (w.heap.size + 2) 0 ([encN a1, encN a2, encN a3, encN a4, encN a5, encN a6, encN a7, .int .i64 c.k, .int .i64 c.tc, .int .i64 c.tn, .int .i64 c.tt, .int .i64 c.tk, .int .i64 c.sh, .slice A1 c.rs.length k1, .slice A2 c.ws.length k2, .bool c.cm, encN a8, encN (f 0), encN (f 1), encN (f 2), encN (f 3), encN (f 4), encN (f 5), encN (f 6), .bool qv] : List Value).length from YZ.out.there (Nat.le_refl 25))
        have SY := bel_setCells (wf.drew.setCells (w.heap.size + 1) 0 [.slice A12 s13.xs.length c12, .int .i64 (s13.er : Int)]) (w.heap.size + 2) [encN a1, encN a2, encN a3, encN a4, encN a5, encN a6, encN a7, .int .i64 c.k, .int .i64 c.tc, .int .i64 c.tn, .int .i64 c.tt, .int .i64 c.tk, .int .i64 c.sh, .slice A1 c.rs.length k1, .slice A2 c.ws.length k2, .bool c.cm, encN a8, encN (f 0), encN (f 1), encN (f 2), encN (f 3), encN (f 4), encN (f 5), encN (f 6), .bool qv] 0
        have FY := Hold.set [encN a1, encN a2, encN a3, encN a4, encN a5, encN a6, encN a7, .int .i64 c.k, .int .i64 c.tc, .int .i64 c.tn, .int .i64 c.tt, .int .i64 c.tk, .int .i64 c.sh, .slice A1 c.rs.length k1, .slice A2 c.ws.length k2, .bool c.cm, encN a8, encN (f 0), encN (f 1), encN (f 2), encN (f 3), encN (f 4), encN (f 5), encN (f 6), .bool qv] [] [.int .i64 0, .int .i64 0, .int .i64 0, .int .i64 0, .int .i64 0, .int .i64 0, .int .i64 0, .int .i64 0, .int .i64 0, .int .i64 0, .int .i64 0, .int .i64 0, .int .i64 0, .slice none 0 0, .slice none 0 0, .bool false, .int .i64 0, .int .i64 0, .int .i64 0, .int .i64 0, .int .i64 0, .int .i64 0, .int .i64 0, .int .i64 0, .bool false] [] rfl _ (show Hold (wf.drew.setCells (w.heap.size + 1) 0 [.slice A12 s13.xs.length c12, .int .i64 (s13.er : Int)]) (w.heap.size + 2) 37 ([] ++ [.int .i64 0, .int .i64 0, .int .i64 0, .int .i64 0, .int .i64 0, .int .i64 0, .int .i64 0, .int .i64 0, .int .i64 0, .int .i64 0, .int .i64 0, .int .i64 0, .int .i64 0, .slice none 0 0, .slice none 0 0, .bool false, .int .i64 0, .int .i64 0, .int .i64 0, .int .i64 0, .int .i64 0, .int .i64 0, .int .i64 0, .int .i64 0, .bool false] ++ []) from YZ.out)
        have ZE := Lib.hid ((show Hold (wf.drew.setCells (w.heap.size + 1) 0 [.slice A12 s13.xs.length c12, .int .i64 (s13.er : Int)]) (w.heap.size + 1) 98 [.slice A12 s13.xs.length c12, .int .i64 (s13.er : Int)] from FZ).bel SY (by omega))
        have YE := Lib.hid (show Hold ((wf.drew.setCells (w.heap.size + 1) 0 [.slice A12 s13.xs.length c12, .int .i64 (s13.er : Int)]).setCells (w.heap.size + 2) 0 [encN a1, encN a2, encN a3, encN a4, encN a5, encN a6, encN a7, .int .i64 c.k, .int .i64 c.tc, .int .i64 c.tn, .int .i64 c.tt, .int .i64 c.tk, .int .i64 c.sh, .slice A1 c.rs.length k1, .slice A2 c.ws.length k2, .bool c.cm, encN a8, encN (f 0), encN (f 1), encN (f 2), encN (f 3), encN (f 4), encN (f 5), encN (f 6), .bool qv]) (w.heap.size + 2) 37 [encN a1, encN a2, encN a3, encN a4, encN a5, encN a6, encN a7, .int .i64 c.k, .int .i64 c.tc, .int .i64 c.tn, .int .i64 c.tt, .int .i64 c.tk, .int .i64 c.sh, .slice A1 c.rs.length k1, .slice A2 c.ws.length k2, .bool c.cm, encN a8, encN (f 0), encN (f 1), encN (f 2), encN (f 3), encN (f 4), encN (f 5), encN (f 6), .bool qv] from FY)
        have IE := Lib.hid (ownsRow_bel (ownsRow_bel (ownsRow_bel (g := 0) IF.out (Bel.of (Below.refl _ _).drew) (by omega)) SZ (by omega)) SY (by omega))
        have JE := Lib.hid (ownsRow_bel (ownsRow_bel (ownsRow_bel (g := 0) JF.out (Bel.of (Below.refl _ _).drew) (by omega)) SZ (by omega)) SY (by omega))
        have BE := Lib.hid (below_setCells (by omega : w.heap.size ≤ w.heap.size + 2) [encN a1, encN a2, encN a3, encN a4, encN a5, encN a6, encN a7, .int .i64 c.k, .int .i64 c.tc, .int .i64 c.tn, .int .i64 c.tt, .int .i64 c.tk, .int .i64 c.sh, .slice A1 c.rs.length k1, .slice A2 c.ws.length k2, .bool c.cm, encN a8, encN (f 0), encN (f 1), encN (f 2), encN (f 3), encN (f 4), encN (f 5), encN (f 6), .bool qv] 0 _ _ (below_setCells (by omega : w.heap.size ≤ w.heap.size + 1) [.slice A12 s13.xs.length c12, .int .i64 (s13.er : Int)] 0 _ _ BF.out.drew))
        clear SZ SY FZ FY
        have PD := HQ.out
        have h8 := Ha8.out
        rw [← HZ0.out] at h8
        have hs7 := HS9.out
        subst hs7
        have RAN := Lib.hid (show P.Ran P.rcd s s13 ⟨a1, a2, a3, a4, a5, a6, a7, c, a8, f 0, f 1, f 2, f 3, f 4, f 5, f 6, qv⟩ from P.Ran.bind P.errs_num Ha1.out (P.Ran.bind P.errs_num Ha2.out (P.Ran.bind P.errs_num Ha3.out (P.Ran.bind P.errs_num Ha4.out (P.Ran.bind P.errs_num Ha5.out (P.Ran.bind P.errs_num Ha6.out (P.Ran.bind P.errs_num Ha7.out (P.Ran.bind P.errs_num h8 (P.Ran.bind P.errs_num (PD 0 (by omega)) (P.Ran.bind P.errs_num (PD 1 (by omega)) (P.Ran.bind P.errs_num (PD 2 (by omega)) (P.Ran.bind P.errs_num (PD 3 (by omega)) (P.Ran.bind P.errs_num (PD 4 (by omega)) (P.Ran.bind P.errs_num (PD 5 (by omega)) (P.Ran.bind P.errs_num (PD 6 (by omega)) (P.Ran.bind P.errs_boolean (P.Ran.bind P.errs_one H10.out (by rw [if_neg HB1.out, HQV.out]; exact P.Ran.ret _ _)) (P.Ran.bind (P.errs_mark 1) H12.out (P.Ran.bind P.errs_cmd H13.out (P.Ran.ret _ _)))))))))))))))))))
        clear PD h8
        refine wp_region_any (by kernel_rfl) ?_
        try (change wpAny _ _ _ _ _ _ _ (World.drew _))
        refine wpAny_ready (rs := [0, 1]) (by kernel_rfl) (by simp) ?_
        refine AllReady.cons rfl (fun K hK => ?_) (AllReady.cons rfl (fun K hK => ?_) AllReady.nil)
        · refine step_ld (by rfl) 98 _ rfl w.heap.size 0 rfl [.slice A12 s13.xs.length c12, .int .i64 (s13.er : Int)] _ ((show wf.drew.rangeAt w.heap.size 0 _ from PF.out.cel.whole)) Try.underlying98 rfl (by kernel_rfl) ?_
          try go_simp
          refine hK _ _ ?_
          clear hK K
          refine wpAny_ready (rs := [1, 2]) (by kernel_rfl) (by simp) ?_
          refine AllReady.cons rfl (fun K hK => ?_) (AllReady.cons rfl (fun K hK => ?_) AllReady.nil)
          · refine step_ld (by rfl) 37 _ rfl (w.heap.size + 3) 0 rfl [encN a1, encN a2, encN a3, encN a4, encN a5, encN a6, encN a7, .int .i64 c.k, .int .i64 c.tc, .int .i64 c.tn, .int .i64 c.tt, .int .i64 c.tk, .int .i64 c.sh, .slice A1 c.rs.length k1, .slice A2 c.ws.length k2, .bool c.cm, encN a8, encN (f 0), encN (f 1), encN (f 2), encN (f 3), encN (f 4), encN (f 5), encN (f 6), .bool qv] _ ((show wf.drew.rangeAt (w.heap.size + 3) 0 _ from CF.out.cel.whole)) Try.underlying37 rfl (by kernel_rfl) ?_
            try go_simp
            refine hK _ _ ?_
            clear hK K
            refine wpAny_ready (rs := [2]) (by kernel_rfl) (by simp) ?_
            refine AllReady.cons rfl (fun K hK => ?_) AllReady.nil
            refine step_st (by rfl) 98 _ _ rfl (w.heap.size + 1) 0 [.slice A12 s13.xs.length c12, .int .i64 (s13.er : Int)] rfl rfl TZ.out (by kernel_rfl) (by kernel_rfl) ?_
            try go_simp
            refine hK _ _ ?_
            clear hK K
            refine wpAny_ready (rs := [3]) (by kernel_rfl) (by simp) ?_
            refine AllReady.cons rfl (fun K hK => ?_) AllReady.nil
            refine step_st (by rfl) 37 _ _ rfl (w.heap.size + 2) 0 [encN a1, encN a2, encN a3, encN a4, encN a5, encN a6, encN a7, .int .i64 c.k, .int .i64 c.tc, .int .i64 c.tn, .int .i64 c.tt, .int .i64 c.tk, .int .i64 c.sh, .slice A1 c.rs.length k1, .slice A2 c.ws.length k2, .bool c.cm, encN a8, encN (f 0), encN (f 1), encN (f 2), encN (f 3), encN (f 4), encN (f 5), encN (f 6), .bool qv] rfl rfl TY.out (by kernel_rfl) (by kernel_rfl) ?_
            try go_simp
            refine hK _ _ ?_
            clear hK K
            refine wpAny_done (by kernel_rfl) ?_ _
            go_wp2
            refine bodyPost_ret (results_cc rfl rfl rfl ZE.out.cel.whole YE.out.cel.whole _ _ Try.underlying98 Try.underlying37 rfl rfl (by kernel_rfl) (by kernel_rfl)) rfl ?_
            exact ⟨s13, ⟨a1, a2, a3, a4, a5, a6, a7, c, a8, f 0, f 1, f 2, f 3, f 4, f 5, f 6, qv⟩, _, _, _, rfl, D12.out, ownsRow_baseN IE.out (by omega), ownsRow_baseN JE.out (by omega), BE.out, RAN.out, N1.out⟩
          · refine step_st (by rfl) 98 _ _ rfl (w.heap.size + 1) 0 [.slice A12 s13.xs.length c12, .int .i64 (s13.er : Int)] rfl rfl TZ.out (by kernel_rfl) (by kernel_rfl) ?_
            try go_simp
            refine hK _ _ ?_
            clear hK K
            refine wpAny_ready (rs := [1]) (by kernel_rfl) (by simp) ?_
            refine AllReady.cons rfl (fun K hK => ?_) AllReady.nil
            refine step_ld (by rfl) 37 _ rfl (w.heap.size + 3) 0 rfl [encN a1, encN a2, encN a3, encN a4, encN a5, encN a6, encN a7, .int .i64 c.k, .int .i64 c.tc, .int .i64 c.tn, .int .i64 c.tt, .int .i64 c.tk, .int .i64 c.sh, .slice A1 c.rs.length k1, .slice A2 c.ws.length k2, .bool c.cm, encN a8, encN (f 0), encN (f 1), encN (f 2), encN (f 3), encN (f 4), encN (f 5), encN (f 6), .bool qv] _ (CZ.out.cel.whole) Try.underlying37 rfl (by kernel_rfl) ?_
            try go_simp
            refine hK _ _ ?_
            clear hK K
            refine wpAny_ready (rs := [3]) (by kernel_rfl) (by simp) ?_
            refine AllReady.cons rfl (fun K hK => ?_) AllReady.nil
            refine step_st (by rfl) 37 _ _ rfl (w.heap.size + 2) 0 [encN a1, encN a2, encN a3, encN a4, encN a5, encN a6, encN a7, .int .i64 c.k, .int .i64 c.tc, .int .i64 c.tn, .int .i64 c.tt, .int .i64 c.tk, .int .i64 c.sh, .slice A1 c.rs.length k1, .slice A2 c.ws.length k2, .bool c.cm, encN a8, encN (f 0), encN (f 1), encN (f 2), encN (f 3), encN (f 4), encN (f 5), encN (f 6), .bool qv] rfl rfl TY.out (by kernel_rfl) (by kernel_rfl) ?_
            try go_simp
            refine hK _ _ ?_
            clear hK K
            refine wpAny_done (by kernel_rfl) ?_ _
            go_wp2
            refine bodyPost_ret (results_cc rfl rfl rfl ZE.out.cel.whole YE.out.cel.whole _ _ Try.underlying98 Try.underlying37 rfl rfl (by kernel_rfl) (by kernel_rfl)) rfl ?_
            exact ⟨s13, ⟨a1, a2, a3, a4, a5, a6, a7, c, a8, f 0, f 1, f 2, f 3, f 4, f 5, f 6, qv⟩, _, _, _, rfl, D12.out, ownsRow_baseN IE.out (by omega), ownsRow_baseN JE.out (by omega), BE.out, RAN.out, N1.out⟩
        · refine step_ld (by rfl) 37 _ rfl (w.heap.size + 3) 0 rfl [encN a1, encN a2, encN a3, encN a4, encN a5, encN a6, encN a7, .int .i64 c.k, .int .i64 c.tc, .int .i64 c.tn, .int .i64 c.tt, .int .i64 c.tk, .int .i64 c.sh, .slice A1 c.rs.length k1, .slice A2 c.ws.length k2, .bool c.cm, encN a8, encN (f 0), encN (f 1), encN (f 2), encN (f 3), encN (f 4), encN (f 5), encN (f 6), .bool qv] _ ((show wf.drew.rangeAt (w.heap.size + 3) 0 _ from CF.out.cel.whole)) Try.underlying37 rfl (by kernel_rfl) ?_
          try go_simp
          refine hK _ _ ?_
          clear hK K
          refine wpAny_ready (rs := [0]) (by kernel_rfl) (by simp) ?_
          refine AllReady.cons rfl (fun K hK => ?_) AllReady.nil
          refine step_ld (by rfl) 98 _ rfl w.heap.size 0 rfl [.slice A12 s13.xs.length c12, .int .i64 (s13.er : Int)] _ ((show wf.drew.rangeAt w.heap.size 0 _ from PF.out.cel.whole)) Try.underlying98 rfl (by kernel_rfl) ?_
          try go_simp
          refine hK _ _ ?_
          clear hK K
          refine wpAny_ready (rs := [2]) (by kernel_rfl) (by simp) ?_
          refine AllReady.cons rfl (fun K hK => ?_) AllReady.nil
          refine step_st (by rfl) 98 _ _ rfl (w.heap.size + 1) 0 [.slice A12 s13.xs.length c12, .int .i64 (s13.er : Int)] rfl rfl TZ.out (by kernel_rfl) (by kernel_rfl) ?_
          try go_simp
          refine hK _ _ ?_
          clear hK K
          refine wpAny_ready (rs := [3]) (by kernel_rfl) (by simp) ?_
          refine AllReady.cons rfl (fun K hK => ?_) AllReady.nil
          refine step_st (by rfl) 37 _ _ rfl (w.heap.size + 2) 0 [encN a1, encN a2, encN a3, encN a4, encN a5, encN a6, encN a7, .int .i64 c.k, .int .i64 c.tc, .int .i64 c.tn, .int .i64 c.tt, .int .i64 c.tk, .int .i64 c.sh, .slice A1 c.rs.length k1, .slice A2 c.ws.length k2, .bool c.cm, encN a8, encN (f 0), encN (f 1), encN (f 2), encN (f 3), encN (f 4), encN (f 5), encN (f 6), .bool qv] rfl rfl TY.out (by kernel_rfl) (by kernel_rfl) ?_
          try go_simp
          refine hK _ _ ?_
          clear hK K
          refine wpAny_done (by kernel_rfl) ?_ _
          go_wp2
          refine bodyPost_ret (results_cc rfl rfl rfl ZE.out.cel.whole YE.out.cel.whole _ _ Try.underlying98 Try.underlying37 rfl rfl (by kernel_rfl) (by kernel_rfl)) rfl ?_
          exact ⟨s13, ⟨a1, a2, a3, a4, a5, a6, a7, c, a8, f 0, f 1, f 2, f 3, f 4, f 5, f 6, qv⟩, _, _, _, rfl, D12.out, ownsRow_baseN IE.out (by omega), ownsRow_baseN JE.out (by omega), BE.out, RAN.out, N1.out⟩
end Go.Proofs.Ytagngbdlpdilnaa
