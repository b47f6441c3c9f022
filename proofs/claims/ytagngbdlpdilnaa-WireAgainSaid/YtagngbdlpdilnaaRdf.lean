/- Contracts of the closures of command: one read, one write; no conditions but those that they name. -/
import Derived.Test.YtagngbdlpdilnaaRde
namespace Go.Proofs.Ytagngbdlpdilnaa
open Go.ChangeShapes Go.WideShapes Go.ChangeAt Go.RowKit

/-- What one more item leaves. -/
def Item {α : Type} (p : P.Ps α) (I : World → α → Prop) (g q : Nat) (s : P.Sr) (w : World) (e : Ending) (w' : World) : Prop :=
  e = .returned (.tuple #[]) ∧ ∃ s2 x, Rdr w' g s2 ∧ I w' x ∧ Bel g q w w' ∧ P.Ran p s s2 x

theorem Bel.belw {g B : Nat} {a w w' : World} (h : Bel g B a w) (k : Below B w w') : Bel g B a w' := ⟨k.os.trans h.os, k.tape.trans h.tape, k.output.trans h.output, Nat.le_trans h.size k.size, fun i hi hg => (k.block i hi).trans (h.block i hi hg)⟩
theorem Bel.undrew {g : Nat} {w w' : World} (h : Bel g w.drew.heap.size w.drew w') : Bel g w.heap.size w w' := ⟨h.os, h.tape, h.output, h.size, h.block⟩

set_option maxHeartbeats 8000000 in
set_option maxRecDepth 100000 in
theorem item_rd {w : World} {g q cb base : Nat} {L : List Value} {va vb : Value} {cm : Bool} {rs : List (List UInt8 × Int × Int)} {ws : List (List UInt8 × List UInt8)} {s : P.Sr} (h : Rdr w g s) (C : Cst w g q cb base L va vb cm rs ws) (hl : rs.length ≤ 1000) :
    Calls Try.prog 99 #[.pointer (some ⟨q, 0, none⟩), .pointer (some ⟨cb, 0, none⟩)] w (Item P.rd (fun w' x => ∃ v, Cst w' g q cb base L v vb cm (rs ++ [x]) ws) g q s w) := by
  have R0 := Lib.hid h
  have C0 := Lib.hid C
  have bq := C.box.cell 0 rfl
  have HL := Lib.hid hl
  clear h C hl
  go_enter Try.func99, Try.ntmps99
  go_wp2_with (fail)
  refine (text_any R0.out).mono ?_
  rintro e w1 ⟨s1, k, rfl, hk, hr, hb, hp⟩
  have R1 := Lib.hid hr
  have B1 := Lib.hid hb
  have P1 := Lib.hid hp
  have C1 := Lib.hid (C0.out.bel hb)
  clear hr hb hp bq hk
  have bq := C1.out.box.cell 0 rfl
  have c6 := C1.out.atA
  go_wp2
  go_region_law (first
    | (refine step_go 97 enter97 rfl #[.tmp 8] #[125] rfl #[.pointer (some ⟨g, 0, none⟩)] (by simp [Act.eval]) (Φ := fun v w' => ∃ s2 s3 a b, v = .agg #[encN a, encN b] ∧ Rdr w' g s3 ∧ Bel g w1.heap.size w1 w' ∧ P.Ran P.num s1 s2 a ∧ P.Ran P.num s2 s3 b) ((stamp_any (w := w1.drew) (R1.out.drew)).mono (by rintro e w' ⟨s2, s3, a, b, rfl, -, -, hr, hb, h1, h2⟩; exact ⟨_, rfl, s2, s3, a, b, rfl, hr, hb.undrew, h1, h2⟩)) ?_
       rintro v w2 ⟨s2, s3, a, b, rfl, hr2, hb2, hp2, hp3⟩
       have R2 := Lib.hid hr2
       have B2 := Lib.hid hb2
       have P2 := Lib.hid hp2
       have P3 := Lib.hid hp3
       have C2 := Lib.hid (C1.out.bel hb2)
       have c6' := C2.out.atA
       have c6'' : (w2.alloc (.cells #[encT k, encN a, encN b] 74)).cell? ⟨cb, 6, none⟩ = some va := (World.cell?_alloc_lt w2 _ _ (by have := C2.out.cmd.lt; exact this)).trans c6'
       obtain ⟨v', w', hrun, hcell, hsoft, hcst, hbel⟩ := C2.out.putA (k, (a : Int), (b : Int)) HL.out
       obtain ⟨A3, k3, hv3⟩ := ownsRow_slice hcst.ra
       rw [List.length_append, List.length_singleton] at hv3
       subst hv3
       have C3 := Lib.hid hcst
       have B3 := Lib.hid hbel
       clear hr2 hb2 hp2 hp3 hcst hbel)
    | refine step_app rfl (.tmp 6) (.tmp 11) 30 30 rfl _ _ (by simp [Act.eval]) (by simp [Act.eval]) _ _ hrun ?_)
  all_goals
    go_wp2
    refine bodyPost_end (v := .tuple #[]) (by simp [results, Try.results99]) rfl ?_
    refine ⟨rfl, s3, (k, (a : Int), (b : Int)), (R2.out.low B3.out C0.out.gq), ⟨_, C3.out⟩, ?_, ?_⟩
    · exact ((B1.out.mono (Nat.le_of_lt C0.out.box.lt)).on (B2.out) (.inl rfl) (by have := C0.out.box.lt; have := B1.out.size; omega)).belw B3.out
    · exact P.Ran.bind P.errs_text P1.out (P.Ran.bind P.errs_num P2.out (P.Ran.bind P.errs_num P3.out (P.Ran.ret _ _)))
set_option maxHeartbeats 8000000 in
set_option maxRecDepth 100000 in
theorem item_wr {w : World} {g q cb base : Nat} {L : List Value} {va vb : Value} {cm : Bool} {rs : List (List UInt8 × Int × Int)} {ws : List (List UInt8 × List UInt8)} {s : P.Sr} (h : Rdr w g s) (C : Cst w g q cb base L va vb cm rs ws) (hl : ws.length ≤ 1000) :
    Calls Try.prog 101 #[.pointer (some ⟨q, 0, none⟩), .pointer (some ⟨cb, 0, none⟩)] w (Item P.wr (fun w' x => ∃ v, Cst w' g q cb base L va v cm rs (ws ++ [x])) g q s w) := by
  have R0 := Lib.hid h
  have C0 := Lib.hid C
  have bq := C.box.cell 0 rfl
  have HL := Lib.hid hl
  clear h C hl
  go_enter Try.func101, Try.ntmps101
  go_wp2_with (fail)
  refine (text_any R0.out).mono ?_
  rintro e w1 ⟨s1, k, rfl, hk, hr, hb, hp⟩
  have R1 := Lib.hid hr
  have B1 := Lib.hid hb
  have P1 := Lib.hid hp
  have C1 := Lib.hid (C0.out.bel hb)
  clear hr hb hp bq hk
  have bq := C1.out.box.cell 0 rfl
  have c6 := C1.out.atB
  go_wp2
  go_region_law (first
    | (refine step_go 100 enter100 rfl #[.tmp 8, .const (.int .i64 8)] #[125, 3] rfl #[.pointer (some ⟨g, 0, none⟩), .int .i64 8] (by simp [Act.eval]) (Φ := fun v w' => ∃ s2 b, v = encT b ∧ Rdr w' g s2 ∧ Bel g w1.heap.size w1 w' ∧ P.Ran P.text s1 s2 b) ((text_any (w := w1.drew) (R1.out.drew)).mono (by rintro e w' ⟨s2, b, rfl, -, hr, hb, h1⟩; exact ⟨_, rfl, s2, b, rfl, hr, hb.undrew, h1⟩)) ?_
       rintro v w2 ⟨s2, b, rfl, hr2, hb2, hp2⟩
       have R2 := Lib.hid hr2
       have B2 := Lib.hid hb2
       have P2 := Lib.hid hp2
       have C2 := Lib.hid (C1.out.bel hb2)
       have c6' := C2.out.atB
       have c6'' : (w2.alloc (.cells #[encT k, encT b] 76)).cell? ⟨cb, 7, none⟩ = some vb := (World.cell?_alloc_lt w2 _ _ (by have := C2.out.cmd.lt; exact this)).trans c6'
       obtain ⟨v', w', hrun, hcell, hsoft, hcst, hbel⟩ := C2.out.putB (k, b) HL.out
       obtain ⟨A3, k3, hv3⟩ := ownsRow_slice hcst.rb
       rw [List.length_append, List.length_singleton] at hv3
       subst hv3
       have C3 := Lib.hid hcst
       have B3 := Lib.hid hbel
       clear hr2 hb2 hp2 hcst hbel)
    | refine step_app rfl (.tmp 6) (.tmp 11) 31 31 rfl _ _ (by simp [Act.eval]) (by simp [Act.eval]) _ _ hrun ?_)
  all_goals
    go_wp2
    refine bodyPost_end (v := .tuple #[]) (by simp [results, Try.results101]) rfl ?_
    refine ⟨rfl, s2, (k, b), (R2.out.low B3.out C0.out.gq), ⟨_, C3.out⟩, ?_, ?_⟩
    · exact ((B1.out.mono (Nat.le_of_lt C0.out.box.lt)).on (B2.out) (.inl rfl) (by have := C0.out.box.lt; have := B1.out.size; omega)).belw B3.out
    · exact P.Ran.bind P.errs_text P1.out (P.Ran.bind P.errs_text P2.out (P.Ran.ret _ _))
end Go.Proofs.Ytagngbdlpdilnaa
