/- Contracts of the document's reading: fail, one, tag; no conditions but those that they name. -/
import Derived.Test.YtagngbdlpdilnaaRd
namespace Go.Proofs.Ytagngbdlpdilnaa
open Go.ChangeShapes Go.WideShapes Go.ChangeAt Go.RowKit

/-- A reading by value: what is left of bytes that lie in an elder world, and why it can't go on. -/
def Prt (w : World) (x : Value) (s : P.Sr) : Prop := ∃ A c, x = .agg #[.slice A s.xs.length c, .int .i64 (s.er : Int)] ∧ Bts w (.slice A s.xs.length c) s.xs

theorem Hold.new1 (w : World) (o : Obj) (L : List Value) (t : TypeId) : Hold ((w.alloc o).alloc (.cells L.toArray t)) (w.heap.size + 1) t L := by simpa using Hold.new (w.alloc o) L t
theorem results_cs {fn : Func} {j : Nat} {t : TypeId} {tmps : Array Value} {w : World} {b : Nat} {L : List Value} (hf : fn.results = #[ResultVar.cell j t]) (hp : tmps.getD j undef = .pointer (some ⟨b, 0, none⟩)) (hr : Hold w b t L) (d : TypeDesc) (hu : Try.prog.underlying t = some d) (hd : d.isRow = true) (hi : (Try.prog.info? t).map (·.size) = some L.length) :
    (results fn tmps).run Try.prog w = .ok (.agg L.toArray) w := results_c hf hp hr.cel.whole d hu hd hi

set_option maxHeartbeats 4000000 in
set_option maxRecDepth 100000 in
theorem fail_doc {w0 w : World} {x : Value} {s : P.Sr} (e : Nat) {y : Int} (hy : y = (e : Int)) (h : Prt w0 x s) :
    Calls Try.prog 59 #[x, .int .i64 y] w fun e' w' => ∃ x', e' = .returned x' ∧ Prt w0 x' (P.fail e s) ∧ Below w.heap.size w w' := by
  subst hy
  obtain ⟨A, c, rfl, hb⟩ := h
  have HB := Lib.hid hb
  obtain ⟨L, hL⟩ : ∃ L, L = s.xs.length := ⟨_, rfl⟩
  rw [← hL]
  have HL := Lib.hid hL
  clear hb hL
  by_cases h0 : s.er = 0
  · have H0 := Lib.hid h0
    rw [h0]
    clear h0
    go_enter Try.func59, Try.ntmps59
    go_wp2
    refine bodyPost_ret (results_cs rfl rfl (Hold.new1 w _ [.slice A L c, .int .i64 (e : Int)] 98) _ Try.underlying98 rfl (by kernel_rfl)) rfl ?_
    refine ⟨_, rfl, ⟨A, c, ?_, ?_⟩, below_new (below_new (Below.refl _ _))⟩
    · unfold P.fail; rw [if_pos H0.out, HL.out]
    · unfold P.fail; rw [if_pos H0.out]; exact HB.out
  · have q1 : ((s.er : Int) == 0) = false := by rw [beq_eq_false_iff_ne]; omega
    have H0 := Lib.hid h0
    clear h0
    go_enter Try.func59, Try.ntmps59
    go_wp2
    refine bodyPost_ret (results_cs rfl rfl (Hold.new1 w _ [.slice A L c, .int .i64 (s.er : Int)] 98) _ Try.underlying98 rfl (by kernel_rfl)) rfl ?_
    refine ⟨_, rfl, ⟨A, c, ?_, ?_⟩, below_new (below_new (Below.refl _ _))⟩
    · unfold P.fail; rw [if_neg H0.out, HL.out]
    · unfold P.fail; rw [if_neg H0.out]; exact HB.out

/-- A reading of a plain value, by value. -/
def Dn {α : Type} (p : P.Ps α) (enc : α → Value) (Q : P.Sr → α → Prop) (w0 : World) (s : P.Sr) (w : World) (e : Ending) (w' : World) : Prop :=
  ∃ s1 v x, e = .returned (.tuple #[x, enc v]) ∧ Q s1 v ∧ Prt w0 x s1 ∧ Below w.heap.size w w' ∧ P.Ran p s s1 v

set_option maxHeartbeats 4000000 in
set_option maxRecDepth 100000 in
theorem one_doc {w0 w : World} {x : Value} {s : P.Sr} (hw : Below w0.heap.size w0 w) (h : Prt w0 x s) :
    Calls Try.prog 54 #[x] w (Dn P.one encN (fun _ n => n < 256) w0 s w) := by
  have HP := Lib.hid h
  obtain ⟨A, c, rfl, hb⟩ := h
  have HB := Lib.hid hb
  obtain ⟨xs, er⟩ := s
  simp only at HP HB ⊢
  obtain ⟨L, hL⟩ : ∃ L, L = xs.length := ⟨_, rfl⟩
  rw [← hL] at HP HB ⊢
  have HL := Lib.hid hL
  have HW := Lib.hid hw
  clear hb hL hw
  by_cases h0 : er = 0
  · subst h0
    by_cases hl : L = 0
    · subst hl
      obtain rfl : xs = [] := List.length_eq_zero_iff.1 HL.out.symm
      have Z0 := Lib.hid (Hold.new1 w (.cells #[.slice A 0 c, .int .i64 ((0 : Nat) : Int)] 98) [.slice none 0 0, .int .i64 0] 98)
      go_enter Try.func54, Try.ntmps54
      go_wp2_with (fail)
      refine (fail_doc 3 rfl HP.out).mono ?_
      rintro e w1 ⟨x', rfl, hx, hb⟩
      obtain ⟨A1, c1, rfl, hb1⟩ := hx
      have Z1 := Lib.hid (Z0.out.on hb)
      have z0 := Z1.out.cell 0 rfl
      have z1 := Z1.out.cell 1 rfl
      have y0 := Z1.out.soft 0
      have y1 := Z1.out.soft 1
      have B1 := Lib.hid (below_on (below_new (below_new (Below.refl w.heap.size w))) hb)
      have HX := Lib.hid hb1
      obtain ⟨v0, hv0⟩ : ∃ v0, v0 = Value.slice A1 (P.fail 3 ⟨[], 0⟩).xs.length c1 := ⟨_, rfl⟩
      obtain ⟨v1, hv1⟩ : ∃ v1, v1 = Value.int .i64 ((P.fail 3 ⟨[], 0⟩).er : Int) := ⟨_, rfl⟩
      have k0 : v0 = Value.slice A1 0 c1 := hv0
      have k1 : v1 = Value.int .i64 3 := hv1
      rw [← hv0, ← hv1, k0, k1]
      have Z2 := Lib.hid ((Z1.out.put 0 (.slice A1 0 c1)).put 1 (.int .i64 3))
      clear hb hb1 hv0 hv1 k0 k1
      go_wp2
      refine bodyPost_ret (results_cv rfl rfl rfl Z2.out.cel.whole _ Try.underlying98 rfl (by kernel_rfl)) rfl ?_
      refine ⟨P.fail 3 ⟨[], 0⟩, 0, _, rfl, by omega, ⟨A1, c1, rfl, HX.out⟩, ?_, P.Ran.one_nil 0⟩
      exact (B1.out.setCell (p := ⟨w.heap.size + 1, 0, none⟩) (by simp) _).setCell (p := ⟨w.heap.size + 1, 1, none⟩) (by simp) _
    · obtain ⟨x, ys, rfl⟩ : ∃ x ys, xs = x :: ys := by
        cases xs with
        | nil => exact absurd HL.out hl
        | cons x ys => exact ⟨x, ys, rfl⟩
      obtain rfl : L = ys.length + 1 := HL.out
      have hb := HB.out.below HW.out
      obtain ⟨A', c', e, hc, hx⟩ := hb
      rw [List.length_map] at hc hx e
      cases e
      obtain ⟨b, o, rfl, hlt, hy⟩ := hx (by simp)
      have d0 := hy 0 (enc8 x) rfl
      simp only [Nat.add_zero, enc8] at d0
      obtain ⟨A2, c2, e2, hc2, hx2⟩ := HB.out
      rw [List.length_map] at hc2 hx2 e2
      cases e2
      obtain ⟨b2, o2, e3, hlt2, hy2⟩ := hx2 (by simp)
      cases e3
      have HY := Lib.hid hy2
      have HLT := Lib.hid hlt2
      have hMc : ys.length + 1 ≤ c := by simpa using hc
      have e1 : ((ys.length : Int) + 1 == 0) = false := by simp; omega
      obtain ⟨t, ht⟩ : ∃ t, t = x.toNat := ⟨_, rfl⟩
      have wr : IntKind.i64.wrap (t : Int) = (t : Int) := wrap_nat t (by have := x.toNat_lt; omega)
      rw [← ht] at d0
      have HT := Lib.hid ht
      clear ht
      clear hy hx hy2 hx2 hc hc2 hl hlt2
      by_cases hc1 : c = 1
      · subst hc1
        obtain rfl : ys = [] := List.length_eq_zero_iff.1 (by omega)
        simp only [List.length_nil] at e1
        go_enter Try.func54, Try.ntmps54
        go_wp2
        refine bodyPost_ret (results_cv rfl rfl rfl (Hold.new1 w _ [.slice (some ⟨b, o, none⟩) 0 0, .int .i64 0] 98).cel.whole _ Try.underlying98 rfl (by kernel_rfl)) rfl ?_
        exact ⟨⟨[], 0⟩, t, _, rfl, by rw [HT.out]; exact x.toNat_lt, ⟨_, _, rfl, ⟨_, _, rfl, Nat.zero_le _, fun h => absurd h (by simp)⟩⟩, below_new (below_new (Below.refl _ _)), HT.out ▸ P.Ran.one_cons x []⟩
      · go_enter Try.func54, Try.ntmps54
        go_wp2
        refine bodyPost_ret (results_cv rfl rfl rfl (Hold.new1 w _ [.slice (some ⟨b, o + 1, none⟩) ys.length (c - 1), .int .i64 0] 98).cel.whole _ Try.underlying98 rfl (by kernel_rfl)) rfl ?_
        refine ⟨⟨ys, 0⟩, t, _, rfl, by rw [HT.out]; exact x.toNat_lt, ⟨_, c - 1, rfl, ⟨_, c - 1, by rw [List.length_map], by rw [List.length_map]; show ys.length ≤ c - 1; omega, fun _ => ⟨b, o + 1, rfl, HLT.out, fun j y hj => ?_⟩⟩⟩, below_new (below_new (Below.refl _ _)), HT.out ▸ P.Ran.one_cons x ys⟩
        rw [Nat.add_assoc, Nat.add_comm 1 j]
        exact HY.out (j + 1) y hj
  · have q1 : ((er : Int) == 0) = false := by rw [beq_eq_false_iff_ne]; omega
    have q2 : ((er : Int) != 0) = true := by rw [bne, q1]; rfl
    have H0 := Lib.hid h0
    clear h0
    go_enter Try.func54, Try.ntmps54
    go_wp2
    refine bodyPost_ret (results_cv rfl rfl rfl (Hold.new1 w _ [.slice A L c, .int .i64 (er : Int)] 98).cel.whole _ Try.underlying98 rfl (by kernel_rfl)) rfl ?_
    exact ⟨⟨xs, er⟩, 0, _, rfl, by omega, HL.out ▸ HP.out, below_new (below_new (Below.refl _ _)), P.Ran.idle H0.out 0⟩
end Go.Proofs.Ytagngbdlpdilnaa
