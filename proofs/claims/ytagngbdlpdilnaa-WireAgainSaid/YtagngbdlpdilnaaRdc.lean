/- Contracts of boolean, mark, stamp, ballot, text; no conditions but those that they name. -/
import Derived.Test.YtagngbdlpdilnaaRdb
import Derived.Laws.IdiomStrings
namespace Go.Proofs.Ytagngbdlpdilnaa
open Go.ChangeShapes Go.WideShapes Go.ChangeAt Go.RowKit

set_option maxHeartbeats 4000000 in
theorem boolean_any {w : World} {g : Nat} {s : P.Sr} (h : Rdr w g s) : Calls Try.prog 102 #[.pointer (some ⟨g, 0, none⟩)] w (Rn P.boolean (fun b => .bool b) (fun _ => True) g s w) := by
  have hR := Lib.hid h
  clear h
  go_enter Try.func102, Try.ntmps102
  go_wp2_with (fail)
  refine (one_any hR.out).mono ?_
  rintro e w1 ⟨s1, x, rfl, hx, hr, hb, hp⟩
  have HR := Lib.hid hr
  have HB := Lib.hid hb
  have HP := Lib.hid hp
  clear hr hb hp hx
  by_cases h1 : 1 < x
  · go_wp2_with (fail)
    refine (fail_any 4 rfl HR.out).mono ?_
    rintro e w2 ⟨rfl, hr, hb⟩
    have HR2 := Lib.hid hr
    have HB2 := Lib.hid (HB.out.trans hb (by have := HB.out.size; omega))
    clear hr hb
    have hx1 : ((x : Int) == 1) = false := by rw [beq_eq_false_iff_ne]; omega
    have H1 := Lib.hid h1
    clear h1
    go_wp2
    go_ret
    refine ⟨_, false, rfl, trivial, HR2.out, HB2.out, P.Ran.bind P.errs_one HP.out ?_⟩
    rw [if_pos H1.out]
    exact P.Ran.err _ _
  · have H1 := Lib.hid h1
    obtain ⟨q, hq⟩ : ∃ q, q = decide (x = 1) := ⟨_, rfl⟩
    have hx1 : ((x : Int) == 1) = q := by
      rw [hq]
      by_cases h : x = 1
      · subst h; rfl
      · rw [decide_eq_false h, beq_eq_false_iff_ne]; omega
    have HQ := Lib.hid hq
    clear hq
    go_wp2
    go_ret
    refine ⟨_, q, rfl, trivial, HR.out, HB.out, P.Ran.bind P.errs_one HP.out ?_⟩
    rw [if_neg H1.out, HQ.out]
    exact P.Ran.ret _ _

set_option maxHeartbeats 4000000 in
theorem mark_any {w : World} {g : Nat} {s : P.Sr} (c : Nat) {y : Int} (hy : y = (c : Int)) (h : Rdr w g s) : Calls Try.prog 104 #[.pointer (some ⟨g, 0, none⟩), .int .u8 y] w (Rn (P.mark c) (fun _ => .tuple #[]) (fun _ => True) g s w) := by
  subst hy
  have hR := Lib.hid h
  clear h
  go_enter Try.func104, Try.ntmps104
  go_wp2_with (fail)
  refine (one_any hR.out).mono ?_
  rintro e w1 ⟨s1, x, rfl, hx, hr, hb, hp⟩
  have HR := Lib.hid hr
  have HB := Lib.hid hb
  have HP := Lib.hid hp
  clear hr hb hp hx
  by_cases h1 : x = c
  · subst h1
    go_wp2
    refine bodyPost_end (v := .tuple #[]) (by simp [results, Try.results104]) rfl ?_
    refine ⟨_, (), rfl, trivial, HR.out, HB.out, P.Ran.bind P.errs_one HP.out ?_⟩
    rw [if_pos rfl]
    exact P.Ran.ret _ _
  · have H1 := Lib.hid h1
    have q1 : ((x : Int) == (c : Int)) = false := by rw [beq_eq_false_iff_ne]; omega
    have q2 : ((x : Int) != (c : Int)) = true := by rw [bne, q1]; rfl
    have q3 : (x == c) = false := by rw [beq_eq_false_iff_ne]; exact h1
    have q4 : (x != c) = true := by rw [bne, q3]; rfl
    clear h1
    go_wp2_with (fail)
    refine (fail_any 4 rfl HR.out).mono ?_
    rintro e w2 ⟨rfl, hr, hb⟩
    have HR2 := Lib.hid hr
    have HB2 := Lib.hid (HB.out.trans hb (by have := HB.out.size; omega))
    clear hr hb
    go_wp2
    refine bodyPost_end (v := .tuple #[]) (by simp [results, Try.results104]) rfl ?_
    refine ⟨_, (), rfl, trivial, HR2.out, HB2.out, P.Ran.bind P.errs_one HP.out ?_⟩
    rw [if_neg H1.out]
    exact P.Ran.err _ _

theorem results_c {fn : Func} {j : Nat} {t : TypeId} {tmps : Array Value} {w : World} {b : Nat} {L : List Value} (hf : fn.results = #[ResultVar.cell j t]) (hp : tmps.getD j undef = .pointer (some ⟨b, 0, none⟩)) (hr : w.rangeAt b 0 L) (d : TypeDesc) (hu : Try.prog.underlying t = some d) (hd : d.isRow = true) (hi : (Try.prog.info? t).map (·.size) = some L.length) :
    (results fn tmps).run Try.prog w = .ok (.agg L.toArray) w := by
  have hp' : tmps[j]?.getD undef = .pointer (some ⟨b, 0, none⟩) := by simpa using hp
  simp [results, hf, hp', asAddr, run_loadVar_mid w b 0 t L _ hr hu hd hi]
theorem results_cv {fn : Func} {j k : Nat} {t : TypeId} {tmps : Array Value} {w : World} {b : Nat} {L : List Value} {x : Value} (hf : fn.results = #[ResultVar.cell j t, ResultVar.tmp k]) (hp : tmps.getD j undef = .pointer (some ⟨b, 0, none⟩)) (hx : tmps.getD k undef = x) (hr : w.rangeAt b 0 L) (d : TypeDesc) (hu : Try.prog.underlying t = some d) (hd : d.isRow = true) (hi : (Try.prog.info? t).map (·.size) = some L.length) :
    (results fn tmps).run Try.prog w = .ok (.tuple #[.agg L.toArray, x]) w := by
  rw [results_cell_tmp hf, hp, hx]
  simp [asAddr, run_loadVar_mid w b 0 t L _ hr hu hd hi, Result.andThen]

/-- Two numbers in a row. -/
def R2n (g : Nat) (s : P.Sr) (w : World) (e : Ending) (w' : World) : Prop :=
  ∃ s1 s2 a b, e = .returned (.agg #[encN a, encN b]) ∧ a ≤ 1099511627776 ∧ b ≤ 1099511627776 ∧ Rdr w' g s2 ∧ Bel g w.heap.size w w' ∧ P.Ran P.num s s1 a ∧ P.Ran P.num s1 s2 b

set_option maxHeartbeats 4000000 in
set_option maxRecDepth 100000 in
theorem stamp_any {w : World} {g : Nat} {s : P.Sr} (h : Rdr w g s) : Calls Try.prog 97 #[.pointer (some ⟨g, 0, none⟩)] w (R2n g s w) := by
  have hR := Lib.hid (h.alloc (.cells #[.int .i64 0, .int .i64 0] 29))
  have H0 := Lib.hid (Hold.new w [.int .i64 0, .int .i64 0] 29)
  have B0 := Lib.hid ((Bel.refl g w.heap.size w).alloc (Nat.le_refl _) (.cells #[.int .i64 0, .int .i64 0] 29))
  have HL := Lib.hid h.lt
  clear h
  go_enter Try.func97, Try.ntmps97
  go_wp2_with (fail)
  refine (number_any hR.out).mono ?_
  rintro e w1 ⟨s1, a, rfl, ha, hr, hb, hp⟩
  have HR := Lib.hid hr
  have HB := Lib.hid (B0.out.trans hb (by simp))
  have HP := Lib.hid hp
  have HA := Lib.hid ha
  have H1 := Lib.hid (H0.out.bel hb (by have := HL.out; omega))
  clear hr hb hp ha
  go_wp2_with (fail)
  refine (number_any HR.out).mono ?_
  rintro e w2 ⟨s2, b, rfl, hx, hr, hb, hp⟩
  have HR2 := Lib.hid hr
  have HB2 := Lib.hid (HB.out.trans hb (by have := HB.out.size; omega))
  have HP2 := Lib.hid hp
  have HX := Lib.hid hx
  have H2 := Lib.hid (H1.out.bel hb (by have := HL.out; omega))
  clear hr hb hp hx
  have H3 := Lib.hid (((show Hold w2 w.heap.size 29 [.int .i64 0, .int .i64 0] from H2.out).put 0 (encN a)).put 1 (encN b))
  have c0 := H2.out.cell 0 rfl
  have c1 := H2.out.cell 1 rfl
  have f0 := H2.out.soft 0
  have f1 := H2.out.soft 1
  go_wp2
  refine bodyPost_ret (results_c rfl rfl H3.out.cel.whole _ Try.underlying29 rfl (by kernel_rfl)) rfl ?_
  refine ⟨s1, s2, a, b, rfl, HA.out, HX.out, (HR2.out.bel (Bel.store _ _ 0 _) HL.out).bel (Bel.store _ _ 1 _) HL.out, ?_, HP.out, HP2.out⟩
  exact (HB2.out.on (Bel.store _ _ 0 _) (.inr (Nat.le_refl _)) HB2.out.size).on (Bel.store _ _ 1 _) (.inr (Nat.le_refl _)) (Nat.le_trans HB2.out.size (Bel.store _ _ 0 _).size)

set_option maxHeartbeats 4000000 in
set_option maxRecDepth 100000 in
theorem ballot_any {w : World} {g : Nat} {s : P.Sr} (h : Rdr w g s) : Calls Try.prog 103 #[.pointer (some ⟨g, 0, none⟩)] w (R2n g s w) := by
  have hR := Lib.hid (h.alloc (.cells #[.int .i64 0, .int .i64 0] 25))
  have H0 := Lib.hid (Hold.new w [.int .i64 0, .int .i64 0] 25)
  have B0 := Lib.hid ((Bel.refl g w.heap.size w).alloc (Nat.le_refl _) (.cells #[.int .i64 0, .int .i64 0] 25))
  have HL := Lib.hid h.lt
  clear h
  go_enter Try.func103, Try.ntmps103
  go_wp2_with (fail)
  refine (number_any hR.out).mono ?_
  rintro e w1 ⟨s1, a, rfl, ha, hr, hb, hp⟩
  have HR := Lib.hid hr
  have HB := Lib.hid (B0.out.trans hb (by simp))
  have HP := Lib.hid hp
  have HA := Lib.hid ha
  have H1 := Lib.hid (H0.out.bel hb (by have := HL.out; omega))
  clear hr hb hp ha
  go_wp2_with (fail)
  refine (number_any HR.out).mono ?_
  rintro e w2 ⟨s2, b, rfl, hx, hr, hb, hp⟩
  have HR2 := Lib.hid hr
  have HB2 := Lib.hid (HB.out.trans hb (by have := HB.out.size; omega))
  have HP2 := Lib.hid hp
  have HX := Lib.hid hx
  have H2 := Lib.hid (H1.out.bel hb (by have := HL.out; omega))
  clear hr hb hp hx
  have H3 := Lib.hid (((show Hold w2 w.heap.size 25 [.int .i64 0, .int .i64 0] from H2.out).put 0 (encN a)).put 1 (encN b))
  have c0 := H2.out.cell 0 rfl
  have c1 := H2.out.cell 1 rfl
  have f0 := H2.out.soft 0
  have f1 := H2.out.soft 1
  go_wp2
  refine bodyPost_ret (results_c rfl rfl H3.out.cel.whole _ Try.underlying25 rfl (by kernel_rfl)) rfl ?_
  refine ⟨s1, s2, a, b, rfl, HA.out, HX.out, (HR2.out.bel (Bel.store _ _ 0 _) HL.out).bel (Bel.store _ _ 1 _) HL.out, ?_, HP.out, HP2.out⟩
  exact (HB2.out.on (Bel.store _ _ 0 _) (.inr (Nat.le_refl _)) HB2.out.size).on (Bel.store _ _ 1 _) (.inr (Nat.le_refl _)) (Nat.le_trans HB2.out.size (Bel.store _ _ 0 _).size)
end Go.Proofs.Ytagngbdlpdilnaa
