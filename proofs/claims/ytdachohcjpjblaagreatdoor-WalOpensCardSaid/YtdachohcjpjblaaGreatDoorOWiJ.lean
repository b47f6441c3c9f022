/- The document's reader: contracts; no conditions but those that they name. -/
import Derived.Test.YtdachohcjpjblaaGreatDoorOWiI
import Derived.Deep.CutBlock
import Derived.Great.BuildSlice
set_option maxHeartbeats 8000000
set_option maxRecDepth 100000
open Go.Value renaming int → J
open Go.IntKind renaming i64 → U
open Go.Lib renaming hid → V
namespace Go.Proofs.YtdachohcjpjblaaGreatDoor.Wi
open Go.ChangeShapes Go.WideShapes Go.ChangeAt Go.RowKit
def Prt (w : World) (x : Value) (s : P.Sr) : Prop := ∃ A c, x = .agg #[.slice A s.xs.length c,J U (s.er : Int)] ∧ Bts w (.slice A s.xs.length c) s.xs
theorem Hold.new1 (w : World) (o : Obj) (L : List Value) (t : TypeId) : Hold ((w.alloc o).alloc (.cells L.toArray t)) (w.heap.size + 1) t L := by simpa using Hold.new (w.alloc o) L t
theorem results_cs {fn : Func} {j : Nat} {t : TypeId} {tmps : Array Value} {w : World} {b : Nat} {L : List Value} (hf : fn.results = #[ResultVar.cell j t]) (hp : tmps.getD j undef = .pointer (some ⟨b, 0, none⟩)) (hr : Hold w b t L) (d : TypeDesc) (hu : Tryz.prog.underlying t = some d) (hd : d.isRow = true) (hi : (Tryz.prog.info? t).map (·.size) = some L.length) :
 (results fn tmps).run Tryz.prog w = .ok (.agg L.toArray) w := results_c hf hp hr.cel.whole d hu hd hi
theorem fail_doc {w0 w : World} {x : Value} {s : P.Sr} (e : Nat) {y : Int} (hy : y = (e : Int)) (h : Prt w0 x s) :
 Calls Tryz.prog 63 #[x,J U y] w fun e' w' => ∃ x', e' = .returned x' ∧ Prt w0 x' (P.fail e s) ∧ Below w.heap.size w w' := by
 subst hy
 obtain ⟨A, c, rfl, hb⟩ := h
 have HB := V hb
 obtain ⟨L, hL⟩ : ∃ L, L = s.xs.length := ⟨_, rfl⟩
 rw [← hL]
 have HL := V hL
 clear hb hL
 by_cases h0 : s.er = 0
 ·have H0 := V h0
  rw [h0]
  clear h0
  go_enter Tryz.func63, Tryz.ntmps63
  go_wp2
  refine bodyPost_ret (results_cs rfl rfl (Hold.new1 w _ [.slice A L c,J U (e : Int)] 119) _ Tryz.underlying119 rfl (by kernel_rfl)) rfl ?_
  refine ⟨_, rfl, ⟨A, c, ?_, ?_⟩, below_new (below_new (Below.refl _ _))⟩
  ·unfold P.fail; rw [if_pos H0.out, HL.out]
  ·unfold P.fail; rw [if_pos H0.out]; exact HB.out
 ·have q1 : ((s.er : Int) == 0) = false := by rw [beq_eq_false_iff_ne]; omega
  have H0 := V h0
  clear h0
  go_enter Tryz.func63, Tryz.ntmps63
  go_wp2
  refine bodyPost_ret (results_cs rfl rfl (Hold.new1 w _ [.slice A L c,J U (s.er : Int)] 119) _ Tryz.underlying119 rfl (by kernel_rfl)) rfl ?_
  refine ⟨_, rfl, ⟨A, c, ?_, ?_⟩, below_new (below_new (Below.refl _ _))⟩
  ·unfold P.fail; rw [if_neg H0.out, HL.out]
  ·unfold P.fail; rw [if_neg H0.out]; exact HB.out
def Dn {α : Type} (p : P.Ps α) (enc : α → Value) (Q : P.Sr → α → Prop) (w0 : World) (s : P.Sr) (w : World) (e : Ending) (w' : World) : Prop :=
 ∃ s1 v x, e = .returned (.tuple #[x, enc v]) ∧ Q s1 v ∧ Prt w0 x s1 ∧ Below w.heap.size w w' ∧ P.Ran p s s1 v
theorem one_doc {w0 w : World} {x : Value} {s : P.Sr} (hw : Below w0.heap.size w0 w) (h : Prt w0 x s) :
 Calls Tryz.prog 55 #[x] w (Dn P.one encN (fun _ n => n < 256) w0 s w) := by
 have HP := V h
 obtain ⟨A, c, rfl, hb⟩ := h
 have HB := V hb
 obtain ⟨xs, er⟩ := s
 simp only at HP HB ⊢
 obtain ⟨L, hL⟩ : ∃ L, L = xs.length := ⟨_, rfl⟩
 rw [← hL] at HP HB ⊢
 have HL := V hL
 have HW := V hw
 clear hb hL hw
 by_cases h0 : er = 0
 ·subst h0
  by_cases hl : L = 0
  ·subst hl
   obtain rfl : xs = [] := List.length_eq_zero_iff.1 HL.out.symm
   have Z0 := V (Hold.new1 w (.cells #[.slice A 0 c,J U ((0 : Nat) : Int)] 119) [.slice none 0 0,J U 0] 119)
   go_enter Tryz.func55, Tryz.ntmps55
   go_wp2_with (fail)
   refine (fail_doc 3 rfl HP.out).mono ?_
   rintro e w1 ⟨x', rfl, hx, hb⟩
   obtain ⟨A1, c1, rfl, hb1⟩ := hx
   have Z1 := V (Z0.out.on hb)
   have z0 := Z1.out.cell 0 rfl
   have z1 := Z1.out.cell 1 rfl
   have y0 := Z1.out.soft 0
   have y1 := Z1.out.soft 1
   have B1 := V (below_on (below_new (below_new (Below.refl w.heap.size w))) hb)
   have HX := V hb1
   obtain ⟨v0, hv0⟩ : ∃ v0, v0 = Value.slice A1 (P.fail 3 ⟨[], 0⟩).xs.length c1 := ⟨_, rfl⟩
   obtain ⟨v1, hv1⟩ : ∃ v1, v1 = J U ((P.fail 3 ⟨[], 0⟩).er : Int) := ⟨_, rfl⟩
   have k0 : v0 = Value.slice A1 0 c1 := hv0
   have k1 : v1 = J U 3 := hv1
   rw [← hv0, ← hv1, k0, k1]
   have Z2 := V ((Z1.out.put 0 (.slice A1 0 c1)).put 1 (J U 3))
   clear hb hb1 hv0 hv1 k0 k1
   go_wp2
   refine bodyPost_ret (results_cv rfl rfl rfl Z2.out.cel.whole _ Tryz.underlying119 rfl (by kernel_rfl)) rfl ?_
   refine ⟨P.fail 3 ⟨[], 0⟩, 0, _, rfl, by omega, ⟨A1, c1, rfl, HX.out⟩, ?_, P.Ran.one_nil 0⟩
   exact (B1.out.setCell (p := ⟨w.heap.size + 1, 0, none⟩) (by simp) _).setCell (p := ⟨w.heap.size + 1, 1, none⟩) (by simp) _
  ·obtain ⟨x, ys, rfl⟩ : ∃ x ys, xs = x :: ys := by
    cases xs with
    | nil => exact absurd HL.out hl
    | cons x ys => exact ⟨x, ys, rfl⟩
   obtain rfl : L = ys.length + 1 := HL.out
   have hb := HB.out.below HW.out
   obtain ⟨A', c', e, hc, hx⟩ := hb
   rw [List.length_map] at hc hx e
   cases e
   obtain ⟨b, o, rfl, hlt, hy⟩ := hx (by simp)
   have d0 := hy 0 (enc8 x) rfl
   simp only [Nat.add_zero, enc8] at d0
   obtain ⟨A2, c2, e2, hc2, hx2⟩ := HB.out
   rw [List.length_map] at hc2 hx2 e2
   cases e2
   obtain ⟨b2, o2, e3, hlt2, hy2⟩ := hx2 (by simp)
   cases e3
   have HY := V hy2
   have HLT := V hlt2
   have hMc : ys.length + 1 ≤ c := by simpa using hc
   have e1 : ((ys.length : Int) + 1 == 0) = false := by simp; omega
   obtain ⟨t, ht⟩ : ∃ t, t = x.toNat := ⟨_, rfl⟩
   have wr : IntKind.i64.wrap (t : Int) = (t : Int) := wrap_nat t (by have := x.toNat_lt; omega)
   rw [← ht] at d0
   have HT := V ht
   clear ht
   clear hy hx hy2 hx2 hc hc2 hl hlt2
   by_cases hc1 : c = 1
   ·subst hc1
    obtain rfl : ys = [] := List.length_eq_zero_iff.1 (by omega)
    simp only [List.length_nil] at e1
    go_enter Tryz.func55, Tryz.ntmps55
    go_wp2
    refine bodyPost_ret (results_cv rfl rfl rfl (Hold.new1 w _ [.slice (some ⟨b, o, none⟩) 0 0,J U 0] 119).cel.whole _ Tryz.underlying119 rfl (by kernel_rfl)) rfl ?_
    exact ⟨⟨[], 0⟩, t, _, rfl, by rw [HT.out]; exact x.toNat_lt, ⟨_, _, rfl, ⟨_, _, rfl, Nat.zero_le _, fun h => absurd h (by simp)⟩⟩, below_new (below_new (Below.refl _ _)), HT.out ▸ P.Ran.one_cons x []⟩
   ·go_enter Tryz.func55, Tryz.ntmps55
    go_wp2
    refine bodyPost_ret (results_cv rfl rfl rfl (Hold.new1 w _ [.slice (some ⟨b, o + 1, none⟩) ys.length (c - 1),J U 0] 119).cel.whole _ Tryz.underlying119 rfl (by kernel_rfl)) rfl ?_
    refine ⟨⟨ys, 0⟩, t, _, rfl, by rw [HT.out]; exact x.toNat_lt, ⟨_, c - 1, rfl, ⟨_, c - 1, by rw [List.length_map], by rw [List.length_map]; show ys.length ≤ c - 1; omega, fun _ => ⟨b, o + 1, rfl, HLT.out, fun j y hj => ?_⟩⟩⟩, below_new (below_new (Below.refl _ _)), HT.out ▸ P.Ran.one_cons x ys⟩
    rw [Nat.add_assoc, Nat.add_comm 1 j]
    exact HY.out (j + 1) y hj
 ·have q1 : ((er : Int) == 0) = false := by rw [beq_eq_false_iff_ne]; omega
  have q2 : ((er : Int) != 0) = true := by rw [bne, q1]; rfl
  have H0 := V h0
  clear h0
  go_enter Tryz.func55, Tryz.ntmps55
  go_wp2
  refine bodyPost_ret (results_cv rfl rfl rfl (Hold.new1 w _ [.slice A L c,J U (er : Int)] 119).cel.whole _ Tryz.underlying119 rfl (by kernel_rfl)) rfl ?_
  exact ⟨⟨xs, er⟩, 0, _, rfl, by omega, HL.out ▸ HP.out, below_new (below_new (Below.refl _ _)), P.Ran.idle H0.out 0⟩
open Go.ChangeShapes Go.WideShapes Go.ChangeAt Go.RowKit
theorem tag_doc {w0 w : World} {x : Value} {s : P.Sr} (c : Nat) {y : Int} (hy : y = (c : Int)) (hw : Below w0.heap.size w0 w) (h : Prt w0 x s) :
 Calls Tryz.prog 61 #[x,J U y] w fun e w' => ∃ s1 x', e = .returned x' ∧ Prt w0 x' s1 ∧ Below w.heap.size w w' ∧ P.Ran (P.mark c) s s1 () := by
 subst hy
 obtain ⟨A0, c0, rfl, hq⟩ := h
 have D0 := V (show Prt w0 _ s from ⟨A0, c0, rfl, hq⟩)
 have HW := V hw
 have P0 := V ((Hold.new w [.slice A0 s.xs.length c0,J U (s.er : Int)] 119).alloc (.cells #[.slice none 0 0,J U 0] 119))
 have Z0 := V (Hold.new1 w (.cells #[.slice A0 s.xs.length c0,J U (s.er : Int)] 119) [.slice none 0 0,J U 0] 119)
 have B0 := V (below_new (o := .cells #[.slice none 0 0,J U 0] 119) (below_new (o := .cells #[.slice A0 s.xs.length c0,J U (s.er : Int)] 119) (Below.refl w.heap.size w)))
 clear hq hw
 go_enter Tryz.func61, Tryz.ntmps61
 go_wp2_with (fail)
 refine (one_doc (HW.out.trans (B0.out.mono HW.out.size)) D0.out).mono ?_
 rintro e w1 ⟨s1, n, x1, rfl, hn, hx, hb, hp⟩
 obtain ⟨A1, c1, rfl, hq⟩ := hx
 have D1 := V (show Prt w0 _ s1 from ⟨A1, c1, rfl, hq⟩)
 have W10 := V (below_on B0.out hb)
 have P10 := V (P0.out.on hb)
 have Z10 := V (Z0.out.on hb)
 clear hq hb
 have H1 := V hp
 clear hp hn
 have p0 := P10.out.cell 0 rfl
 have p1 := P10.out.cell 1 rfl
 have r0 := P10.out.soft 0
 have r1 := P10.out.soft 1
 have P1 := V (show Hold ((w1.setCell ⟨w.heap.size, 0, none⟩ (.slice A1 s1.xs.length c1)).setCell ⟨w.heap.size, 1, none⟩ (J U (s1.er : Int))) w.heap.size 119 [.slice A1 s1.xs.length c1,J U (s1.er : Int)] from (P10.out.put 0 (.slice A1 s1.xs.length c1)).put 1 (J U (s1.er : Int)))
 have Z1 := V ((Z10.out.bel (Bel.store _ w.heap.size 0 (.slice A1 s1.xs.length c1)) (by omega)).bel (Bel.store _ w.heap.size 1 (J U (s1.er : Int))) (by omega))
 have B1 := V ((W10.out.setCell (p := ⟨w.heap.size, 0, none⟩) (by simp) (.slice A1 s1.xs.length c1)).setCell (p := ⟨w.heap.size, 1, none⟩) (by simp) (J U (s1.er : Int)))
 by_cases hc : n = c
 ·subst hc
  have z0 := Z1.out.cell 0 rfl
  have z1 := Z1.out.cell 1 rfl
  have y0 := Z1.out.soft 0
  have y1 := Z1.out.soft 1
  have ZE := V ((Z1.out.put 0 (.slice A1 s1.xs.length c1)).put 1 (J U (s1.er : Int)))
  have BE := V ((B1.out.setCell (p := ⟨w.heap.size + 1, 0, none⟩) (by simp) (.slice A1 s1.xs.length c1)).setCell (p := ⟨w.heap.size + 1, 1, none⟩) (by simp) (J U (s1.er : Int)))
  go_wp2
  refine bodyPost_ret (results_cs rfl rfl ZE.out _ Tryz.underlying119 rfl (by kernel_rfl)) rfl ?_
  exact ⟨s1, _, rfl, D1.out, BE.out, P.Ran.bind P.errs_one H1.out (by rw [if_pos rfl]; exact P.Ran.ret _ _)⟩
 ·have q1 : ((n : Int) == (c : Int)) = false := by rw [beq_eq_false_iff_ne]; omega
  have q2 : ((n : Int) != (c : Int)) = true := by rw [bne, q1]; rfl
  have q3 : (n == c) = false := by rw [beq_eq_false_iff_ne]; exact hc
  have q4 : (n != c) = true := by rw [bne, q3]; rfl
  have HC := V hc
  clear hc
  go_wp2_with (fail)
  refine (fail_doc 4 rfl D1.out).mono ?_
  rintro e w2 ⟨x2, rfl, hx, hb⟩
  obtain ⟨A2, c2, rfl, hq⟩ := hx
  have D2 := V (show Prt w0 _ (P.fail 4 s1) from ⟨A2, c2, rfl, hq⟩)
  obtain ⟨s2, hs2⟩ : ∃ s2, s2 = P.fail 4 s1 := ⟨_, rfl⟩
  rw [← hs2] at D2 ⊢
  have HS := V hs2
  have Z2 := V (Z1.out.on hb)
  have B2 := V (below_on B1.out hb)
  clear hq hb hs2 p0 p1 r0 r1
  have z0 := Z2.out.cell 0 rfl
  have z1 := Z2.out.cell 1 rfl
  have y0 := Z2.out.soft 0
  have y1 := Z2.out.soft 1
  have ZE := V ((Z2.out.put 0 (.slice A2 s2.xs.length c2)).put 1 (J U (s2.er : Int)))
  have BE := V ((B2.out.setCell (p := ⟨w.heap.size + 1, 0, none⟩) (by simp) (.slice A2 s2.xs.length c2)).setCell (p := ⟨w.heap.size + 1, 1, none⟩) (by simp) (J U (s2.er : Int)))
  go_wp2
  refine bodyPost_ret (results_cs rfl rfl ZE.out _ Tryz.underlying119 rfl (by kernel_rfl)) rfl ?_
  exact ⟨s2, _, rfl, D2.out, BE.out, P.Ran.bind P.errs_one H1.out (by rw [if_neg HC.out, HS.out]; exact P.Ran.err _ _)⟩
theorem number_doc {w0 w : World} {x : Value} {s : P.Sr} (hw : Below w0.heap.size w0 w) (h : Prt w0 x s) :
 Calls Tryz.prog 60 #[x] w (Dn P.num encN (fun s1 v => v ≤ 1099511627776 ∧ (s1.er ≠ 0 → v = 0)) w0 s w) := by
 obtain ⟨A0, c0, rfl, hq⟩ := h
 have D0 := V (show Prt w0 _ s from ⟨A0, c0, rfl, hq⟩)
 have HW := V hw
 have P0 := V ((Hold.new w [.slice A0 s.xs.length c0,J U (s.er : Int)] 119).alloc (.cells #[.slice none 0 0,J U 0] 119))
 have Z0 := V (Hold.new1 w (.cells #[.slice A0 s.xs.length c0,J U (s.er : Int)] 119) [.slice none 0 0,J U 0] 119)
 have B0 := V (below_new (o := .cells #[.slice none 0 0,J U 0] 119) (below_new (o := .cells #[.slice A0 s.xs.length c0,J U (s.er : Int)] 119) (Below.refl w.heap.size w)))
 clear hq hw
 go_enter Tryz.func60, Tryz.ntmps60
 go_wp2
 go_loopw [4, 5, 6] (fun a pw i wr => ∃ (k n q : Nat) (s1 : P.Sr) (A1 : Option Addr) (c1 : Nat), k ≤ 6 ∧ i = J U k ∧ a = J U n ∧ pw = J U q ∧ q = 128 ^ k ∧ n < q ∧ Hold wr w.heap.size 119 [.slice A1 s1.xs.length c1,J U (s1.er : Int)] ∧ Hold wr (w.heap.size + 1) 119 [.slice none 0 0,J U 0] ∧ Below w.heap.size w wr ∧ Prt w0 (.agg #[.slice A1 s1.xs.length c1,J U (s1.er : Int)]) s1 ∧ ∀ s2 v, P.Ran (P.numL (6 - k) k n) s1 s2 v → P.Ran P.num s s2 v) (fun _ _ i _ => 6 - (intOf i).toNat)
 case atStart => exact ⟨0, 0, 1, s, A0, c0, Nat.zero_le _, rfl, rfl, rfl, rfl, by omega, P0.out, Z0.out, B0.out, D0.out, fun _ _ h => h⟩
 case round =>
  obtain ⟨k, n, q, s9, A9, c9, hk, rfl, rfl, rfl, hq, hn, hp, hz, hb, hd, hc⟩ := hrel
  have P9 := V hp
  have Z9 := V hz
  have B9 := V hb
  have D9 := V hd
  have p0 := P9.out.cell 0 rfl
  have p1 := P9.out.cell 1 rfl
  by_cases h6 : k < 6
  ·obtain ⟨f, hf⟩ : ∃ f, 6 - k = f + 1 := ⟨5 - k, by omega⟩
   rw [hf, P.numL_succ] at hc
   have HC := V hc
   have HQ := V hq
   have HN := V hn
   have HF := V hf
   have hq5 : q ≤ 34359738368 := by rw [hq]; exact pow_le5 (by omega)
   have HQ5 := V hq5
   clear hp hz hb hd hc hq hf hn
   go_wp2_with (fail)
   refine (one_doc (HW.out.trans (B9.out.mono HW.out.size)) D9.out).mono ?_
   rintro e w1 ⟨s1, x, x1, rfl, hx256, hx, hb, hp⟩
   obtain ⟨A1, c1, rfl, hq⟩ := hx
   have D1 := V (show Prt w0 _ s1 from ⟨A1, c1, rfl, hq⟩)
   have W10 := V (below_on B9.out hb)
   have P10 := V (P9.out.on hb)
   have Z10 := V (Z9.out.on hb)
   clear hq hb
   have H1 := V hp
   have HX := V hx256
   clear hp p0 p1 P9 Z9 B9 hq5 hx256
   have p0 := P10.out.cell 0 rfl
   have p1 := P10.out.cell 1 rfl
   have r0 := P10.out.soft 0
   have r1 := P10.out.soft 1
   have P1 := V (show Hold ((w1.setCell ⟨w.heap.size, 0, none⟩ (.slice A1 s1.xs.length c1)).setCell ⟨w.heap.size, 1, none⟩ (J U (s1.er : Int))) w.heap.size 119 [.slice A1 s1.xs.length c1,J U (s1.er : Int)] from (P10.out.put 0 (.slice A1 s1.xs.length c1)).put 1 (J U (s1.er : Int)))
   have Z1 := V ((Z10.out.bel (Bel.store _ w.heap.size 0 (.slice A1 s1.xs.length c1)) (by omega)).bel (Bel.store _ w.heap.size 1 (J U (s1.er : Int))) (by omega))
   have B1 := V ((W10.out.setCell (p := ⟨w.heap.size, 0, none⟩) (by simp) (.slice A1 s1.xs.length c1)).setCell (p := ⟨w.heap.size, 1, none⟩) (by simp) (J U (s1.er : Int)))
   by_cases he : s1.er = 0
   ·have HE := V he
    have q1 : ((s1.er : Int) == 0) = true := by rw [beq_iff_eq]; omega
    have q2 : ((s1.er : Int) != 0) = false := by rw [bne, q1]; rfl
    clear he
    by_cases h1 : x < 128
    ·obtain ⟨r, hr⟩ : ∃ r, r = x * q := ⟨_, rfl⟩
     obtain ⟨t, ht⟩ : ∃ t, t = n + r := ⟨_, rfl⟩
     have hr2 : r ≤ 127 * 34359738368 := by rw [hr]; exact Nat.mul_le_mul (by omega) HQ5.out
     have m1 : IntKind.i64.wrap ((x : Int) * (q : Int)) = (r : Int) := by rw [show (x : Int) * (q : Int) = (r : Int) by rw [hr]; push_cast; rfl]; exact wrap_nat r (by omega)
     have m2 : IntKind.i64.wrap ((n : Int) + (r : Int)) = (t : Int) := by rw [show (n : Int) + (r : Int) = (t : Int) by rw [ht]; push_cast; rfl]; exact wrap_nat t (by have := HN.out; have := HQ5.out; omega)
     have HT := V (show t = n + x * 128 ^ k by rw [ht, hr, HQ.out])
     have HR2 := V hr2
     clear hr ht hr2
     by_cases h2 : x = 0 ∧ 0 < k
     ·obtain ⟨rfl, h3⟩ := h2
      rw [show ((0 : Nat) : Int) = 0 from rfl] at m1
      go_wp2_with (fail)
      refine (fail_doc 4 rfl D1.out).mono ?_
      rintro e w2 ⟨x2, rfl, hx, hb⟩
      obtain ⟨A2, c2, rfl, hq⟩ := hx
      have D2 := V (show Prt w0 _ (P.fail 4 s1) from ⟨A2, c2, rfl, hq⟩)
      obtain ⟨s2, hs2⟩ : ∃ s2, s2 = P.fail 4 s1 := ⟨_, rfl⟩
      rw [← hs2] at D2 ⊢
      have HS2 := V hs2
      have Z2 := V (Z1.out.on hb)
      have B2 := V (below_on B1.out hb)
      clear hq hb hs2
      clear p0 p1 r0 r1
      have z0 := Z2.out.cell 0 rfl
      have z1 := Z2.out.cell 1 rfl
      have y0 := Z2.out.soft 0
      have y1 := Z2.out.soft 1
      have ZE := V ((Z2.out.put 0 (.slice A2 s2.xs.length c2)).put 1 (J U (s2.er : Int)))
      have BE := V ((B2.out.setCell (p := ⟨w.heap.size + 1, 0, none⟩) (by simp) (.slice A2 s2.xs.length c2)).setCell (p := ⟨w.heap.size + 1, 1, none⟩) (by simp) (J U (s2.er : Int)))
      go_wp2
      refine bodyPost_ret (results_cv rfl rfl rfl ZE.out.cel.whole _ Tryz.underlying119 rfl (by kernel_rfl)) rfl ?_
      refine ⟨s2, 0, _, rfl, ⟨by omega, fun _ => rfl⟩, D2.out, BE.out, HC.out s2 0 (P.Ran.bind P.errs_one H1.out ?_)⟩
      rw [if_pos (by omega), if_pos ⟨rfl, h3⟩, HS2.out]
      exact P.Ran.err _ _
     ·have H2 := V h2
      have K1 := V h1
      have nc : ∀ (s4 : P.Sr) (v : Nat), P.Ran (if 1099511627776 < t then P.err 2 else P.ret t) s1 s4 v → P.Ran P.num s s4 v := fun s4 v hh => by
       refine HC.out s4 v (P.Ran.bind P.errs_one H1.out ?_)
       rw [if_pos h1, if_neg h2, ← HT.out]
       exact hh
      have NC := V nc
      clear nc
      have g0 : ((x : Int) == 0 && decide ((k : Int) > 0)) = false := by
       rw [Bool.and_eq_false_iff]
       by_cases hx0 : x = 0
       ·right; exact decide_eq_false (by omega)
       ·left; rw [beq_eq_false_iff_ne]; omega
      clear g0
      by_cases hx0 : x = 0
      ·obtain rfl : k = 0 := by omega
       subst hx0
       obtain rfl : q = 1 := by have := HQ.out; simpa using this
       obtain rfl : n = 0 := by have := HN.out; omega
       obtain rfl : t = 0 := by have := HT.out; simpa using this
       clear h2 h1 m1 m2
       have z0 := Z1.out.cell 0 rfl
       have z1 := Z1.out.cell 1 rfl
       have y0 := Z1.out.soft 0
       have y1 := Z1.out.soft 1
       have ZE := V ((Z1.out.put 0 (.slice A1 s1.xs.length c1)).put 1 (J U (s1.er : Int)))
       have BE := V ((B1.out.setCell (p := ⟨w.heap.size + 1, 0, none⟩) (by simp) (.slice A1 s1.xs.length c1)).setCell (p := ⟨w.heap.size + 1, 1, none⟩) (by simp) (J U (s1.er : Int)))
       go_wp2
       refine bodyPost_ret (results_cv rfl rfl rfl ZE.out.cel.whole _ Tryz.underlying119 rfl (by kernel_rfl)) rfl ?_
       refine ⟨s1, 0, _, rfl, ⟨by omega, fun _ => rfl⟩, D1.out, BE.out, NC.out s1 0 ?_⟩
       rw [if_neg (by omega)]
       exact P.Ran.ret _ _
      ·have hx1 : ((x : Int) == 0) = false := by rw [beq_eq_false_iff_ne]; omega
       clear h2
       by_cases hm : 1099511627776 < t
       ·have HM := V hm
        go_wp2_with (fail)
        refine (fail_doc 2 rfl D1.out).mono ?_
        rintro e w2 ⟨x2, rfl, hx, hb⟩
        obtain ⟨A2, c2, rfl, hq⟩ := hx
        have D2 := V (show Prt w0 _ (P.fail 2 s1) from ⟨A2, c2, rfl, hq⟩)
        obtain ⟨s2, hs2⟩ : ∃ s2, s2 = P.fail 2 s1 := ⟨_, rfl⟩
        rw [← hs2] at D2 ⊢
        have HS2 := V hs2
        have Z2 := V (Z1.out.on hb)
        have B2 := V (below_on B1.out hb)
        clear hq hb hs2
        clear p0 p1 r0 r1
        have z0 := Z2.out.cell 0 rfl
        have z1 := Z2.out.cell 1 rfl
        have y0 := Z2.out.soft 0
        have y1 := Z2.out.soft 1
        have ZE := V ((Z2.out.put 0 (.slice A2 s2.xs.length c2)).put 1 (J U (s2.er : Int)))
        have BE := V ((B2.out.setCell (p := ⟨w.heap.size + 1, 0, none⟩) (by simp) (.slice A2 s2.xs.length c2)).setCell (p := ⟨w.heap.size + 1, 1, none⟩) (by simp) (J U (s2.er : Int)))
        go_wp2
        refine bodyPost_ret (results_cv rfl rfl rfl ZE.out.cel.whole _ Tryz.underlying119 rfl (by kernel_rfl)) rfl ?_
        refine ⟨s2, 0, _, rfl, ⟨by omega, fun _ => rfl⟩, D2.out, BE.out, NC.out s2 0 ?_⟩
        rw [if_pos HM.out, HS2.out]
        exact P.Ran.err _ _
       ·have HM := V hm
        have z0 := Z1.out.cell 0 rfl
        have z1 := Z1.out.cell 1 rfl
        have y0 := Z1.out.soft 0
        have y1 := Z1.out.soft 1
        have ZE := V ((Z1.out.put 0 (.slice A1 s1.xs.length c1)).put 1 (J U (s1.er : Int)))
        have BE := V ((B1.out.setCell (p := ⟨w.heap.size + 1, 0, none⟩) (by simp) (.slice A1 s1.xs.length c1)).setCell (p := ⟨w.heap.size + 1, 1, none⟩) (by simp) (J U (s1.er : Int)))
        go_wp2
        refine bodyPost_ret (results_cv rfl rfl rfl ZE.out.cel.whole _ Tryz.underlying119 rfl (by kernel_rfl)) rfl ?_
        refine ⟨s1, t, _, rfl, ⟨by have := HM.out; omega, fun h => absurd HE.out h⟩, D1.out, BE.out, NC.out s1 t ?_⟩
        rw [if_neg HM.out]
        exact P.Ran.ret _ _
    ·have hx2 := HX.out
     obtain ⟨y, hy⟩ : ∃ y, y = x - 128 := ⟨_, rfl⟩
     obtain ⟨r, hr⟩ : ∃ r, r = y * q := ⟨_, rfl⟩
     obtain ⟨t, ht⟩ : ∃ t, t = n + r := ⟨_, rfl⟩
     obtain ⟨q', hq'⟩ : ∃ q', q' = q * 128 := ⟨_, rfl⟩
     have hr2 : r ≤ 127 * 34359738368 := by rw [hr]; exact Nat.mul_le_mul (by omega) HQ5.out
     have hr3 : r ≤ 127 * q := by rw [hr]; exact Nat.mul_le_mul_right _ (by omega)
     have m0 : IntKind.i64.wrap ((x : Int) - 128) = (y : Int) := by rw [show (x : Int) - 128 = (y : Int) by omega]; exact wrap_nat y (by omega)
     have m1 : IntKind.i64.wrap ((y : Int) * (q : Int)) = (r : Int) := by rw [show (y : Int) * (q : Int) = (r : Int) by rw [hr]; push_cast; rfl]; exact wrap_nat r (by omega)
     have m2 : IntKind.i64.wrap ((n : Int) + (r : Int)) = (t : Int) := by rw [show (n : Int) + (r : Int) = (t : Int) by rw [ht]; push_cast; rfl]; exact wrap_nat t (by have := HN.out; have := HQ5.out; omega)
     have m3 : IntKind.i64.wrap ((q : Int) * 128) = (q' : Int) := by rw [show (q : Int) * 128 = (q' : Int) by omega]; exact wrap_nat q' (by have := HQ5.out; omega)
     have HT := V (show t = n + (x - 128) * 128 ^ k by rw [ht, hr, hy, HQ.out])
     have HT2 := V (show t < q' by have := HN.out; omega)
     have HQ' := V (show q' = 128 ^ (k + 1) by rw [hq', HQ.out, Nat.pow_succ])
     have K1 := V h1
     clear hr ht hr2 hr3 hy hq' hx2
     go_wp2
     go_roundw
     case rel =>
      refine ⟨k + 1, t, q', s1, A1, c1, by omega, by go_num, rfl, rfl, HQ'.out, HT2.out, P1.out, Z1.out, B1.out, D1.out, fun s4 v hh => HC.out s4 v (P.Ran.bind P.errs_one H1.out ?_)⟩
      rw [if_neg K1.out, ← HT.out]
      rw [show 6 - (k + 1) = f by have := HF.out; omega] at hh
      exact hh
     case measure => simp [intOf]; omega
   ·have HE := V he
    have q1 : ((s1.er : Int) == 0) = false := by rw [beq_eq_false_iff_ne]; omega
    have q2 : ((s1.er : Int) != 0) = true := by rw [bne, q1]; rfl
    clear he
    have z0 := Z1.out.cell 0 rfl
    have z1 := Z1.out.cell 1 rfl
    have y0 := Z1.out.soft 0
    have y1 := Z1.out.soft 1
    have ZE := V ((Z1.out.put 0 (.slice A1 s1.xs.length c1)).put 1 (J U (s1.er : Int)))
    have BE := V ((B1.out.setCell (p := ⟨w.heap.size + 1, 0, none⟩) (by simp) (.slice A1 s1.xs.length c1)).setCell (p := ⟨w.heap.size + 1, 1, none⟩) (by simp) (J U (s1.er : Int)))
    go_wp2
    refine bodyPost_ret (results_cv rfl rfl rfl ZE.out.cel.whole _ Tryz.underlying119 rfl (by kernel_rfl)) rfl ?_
    exact ⟨s1, 0, _, rfl, ⟨by omega, fun _ => rfl⟩, D1.out, BE.out, HC.out s1 0 (P.Ran.early H1.out HE.out 0)⟩
  ·obtain rfl : k = 6 := by omega
   have HC := V hc
   clear hp hz hb hd hc hq hn
   go_wp2_with (fail)
   refine (fail_doc 2 rfl D9.out).mono ?_
   rintro e w2 ⟨x2, rfl, hx, hb⟩
   obtain ⟨A2, c2, rfl, hq⟩ := hx
   have D2 := V (show Prt w0 _ (P.fail 2 s9) from ⟨A2, c2, rfl, hq⟩)
   obtain ⟨s2, hs2⟩ : ∃ s2, s2 = P.fail 2 s9 := ⟨_, rfl⟩
   rw [← hs2] at D2 ⊢
   have HS2 := V hs2
   have Z2 := V (Z9.out.on hb)
   have B2 := V (below_on B9.out hb)
   clear hq hb hs2
   clear p0 p1
   have z0 := Z2.out.cell 0 rfl
   have z1 := Z2.out.cell 1 rfl
   have y0 := Z2.out.soft 0
   have y1 := Z2.out.soft 1
   have ZE := V ((Z2.out.put 0 (.slice A2 s2.xs.length c2)).put 1 (J U (s2.er : Int)))
   have BE := V ((B2.out.setCell (p := ⟨w.heap.size + 1, 0, none⟩) (by simp) (.slice A2 s2.xs.length c2)).setCell (p := ⟨w.heap.size + 1, 1, none⟩) (by simp) (J U (s2.er : Int)))
   go_wp2
   refine bodyPost_ret (results_cv rfl rfl rfl ZE.out.cel.whole _ Tryz.underlying119 rfl (by kernel_rfl)) rfl ?_
   refine ⟨s2, 0, _, rfl, ⟨by omega, fun _ => rfl⟩, D2.out, BE.out, HC.out s2 0 ?_⟩
   rw [HS2.out]
   exact P.Ran.err _ _
theorem few_doc {w0 w : World} {x : Value} {s : P.Sr} (hw : Below w0.heap.size w0 w) (h : Prt w0 x s) :
 Calls Tryz.prog 78 #[x] w (Dn P.few encN (fun s1 v => v ≤ 8 ∧ (s1.er ≠ 0 → v = 0)) w0 s w) := by
 obtain ⟨A0, c0, rfl, hq⟩ := h
 have D0 := V (show Prt w0 _ s from ⟨A0, c0, rfl, hq⟩)
 have HW := V hw
 have P0 := V ((Hold.new w [.slice A0 s.xs.length c0,J U (s.er : Int)] 119).alloc (.cells #[.slice none 0 0,J U 0] 119))
 have Z0 := V (Hold.new1 w (.cells #[.slice A0 s.xs.length c0,J U (s.er : Int)] 119) [.slice none 0 0,J U 0] 119)
 have B0 := V (below_new (o := .cells #[.slice none 0 0,J U 0] 119) (below_new (o := .cells #[.slice A0 s.xs.length c0,J U (s.er : Int)] 119) (Below.refl w.heap.size w)))
 clear hq hw
 go_enter Tryz.func78, Tryz.ntmps78
 go_wp2_with (fail)
 refine (number_doc (HW.out.trans (B0.out.mono HW.out.size)) D0.out).mono ?_
 rintro e w1 ⟨s1, n, x1, rfl, ⟨hn, hn0⟩, hx, hb, hp⟩
 obtain ⟨A1, c1, rfl, hq⟩ := hx
 have D1 := V (show Prt w0 _ s1 from ⟨A1, c1, rfl, hq⟩)
 have W10 := V (below_on B0.out hb)
 have P10 := V (P0.out.on hb)
 have Z10 := V (Z0.out.on hb)
 clear hq hb
 have H1 := V hp
 have HN0 := V hn0
 clear hp hn hn0
 have p0 := P10.out.cell 0 rfl
 have p1 := P10.out.cell 1 rfl
 have r0 := P10.out.soft 0
 have r1 := P10.out.soft 1
 have P1 := V (show Hold ((w1.setCell ⟨w.heap.size, 0, none⟩ (.slice A1 s1.xs.length c1)).setCell ⟨w.heap.size, 1, none⟩ (J U (s1.er : Int))) w.heap.size 119 [.slice A1 s1.xs.length c1,J U (s1.er : Int)] from (P10.out.put 0 (.slice A1 s1.xs.length c1)).put 1 (J U (s1.er : Int)))
 have Z1 := V ((Z10.out.bel (Bel.store _ w.heap.size 0 (.slice A1 s1.xs.length c1)) (by omega)).bel (Bel.store _ w.heap.size 1 (J U (s1.er : Int))) (by omega))
 have B1 := V ((W10.out.setCell (p := ⟨w.heap.size, 0, none⟩) (by simp) (.slice A1 s1.xs.length c1)).setCell (p := ⟨w.heap.size, 1, none⟩) (by simp) (J U (s1.er : Int)))
 by_cases he : s1.er = 0
 ·have HE := V he
  have q1 : ((s1.er : Int) == 0) = true := by rw [beq_iff_eq]; omega
  clear he
  by_cases h8 : 8 < n
  ·have H8 := V h8
   go_wp2_with (fail)
   refine (fail_doc 2 rfl D1.out).mono ?_
   rintro e w2 ⟨x2, rfl, hx, hb⟩
   obtain ⟨A2, c2, rfl, hq⟩ := hx
   have D2 := V (show Prt w0 _ (P.fail 2 s1) from ⟨A2, c2, rfl, hq⟩)
   obtain ⟨s2, hs2⟩ : ∃ s2, s2 = P.fail 2 s1 := ⟨_, rfl⟩
   rw [← hs2] at D2 ⊢
   have HS2 := V hs2
   have Z2 := V (Z1.out.on hb)
   have B2 := V (below_on B1.out hb)
   clear hq hb hs2
   clear p0 p1 r0 r1
   have z0 := Z2.out.cell 0 rfl
   have z1 := Z2.out.cell 1 rfl
   have y0 := Z2.out.soft 0
   have y1 := Z2.out.soft 1
   have ZE := V ((Z2.out.put 0 (.slice A2 s2.xs.length c2)).put 1 (J U (s2.er : Int)))
   have BE := V ((B2.out.setCell (p := ⟨w.heap.size + 1, 0, none⟩) (by simp) (.slice A2 s2.xs.length c2)).setCell (p := ⟨w.heap.size + 1, 1, none⟩) (by simp) (J U (s2.er : Int)))
   go_wp2
   refine bodyPost_ret (results_cv rfl rfl rfl ZE.out.cel.whole _ Tryz.underlying119 rfl (by kernel_rfl)) rfl ?_
   refine ⟨s2, 0, _, rfl, ⟨by omega, fun _ => rfl⟩, D2.out, BE.out, P.Ran.bind P.errs_num H1.out ?_⟩
   rw [if_pos H8.out, HS2.out]
   exact P.Ran.err _ _
  ·have H8 := V h8
   have z0 := Z1.out.cell 0 rfl
   have z1 := Z1.out.cell 1 rfl
   have y0 := Z1.out.soft 0
   have y1 := Z1.out.soft 1
   have ZE := V ((Z1.out.put 0 (.slice A1 s1.xs.length c1)).put 1 (J U (s1.er : Int)))
   have BE := V ((B1.out.setCell (p := ⟨w.heap.size + 1, 0, none⟩) (by simp) (.slice A1 s1.xs.length c1)).setCell (p := ⟨w.heap.size + 1, 1, none⟩) (by simp) (J U (s1.er : Int)))
   go_wp2
   refine bodyPost_ret (results_cv rfl rfl rfl ZE.out.cel.whole _ Tryz.underlying119 rfl (by kernel_rfl)) rfl ?_
   refine ⟨s1, n, _, rfl, ⟨by have := H8.out; omega, HN0.out⟩, D1.out, BE.out, P.Ran.bind P.errs_num H1.out ?_⟩
   rw [if_neg H8.out]
   exact P.Ran.ret _ _
 ·have q1 : ((s1.er : Int) == 0) = false := by rw [beq_eq_false_iff_ne]; omega
  obtain rfl : n = 0 := HN0.out he
  have HE := V he
  clear he
  have z0 := Z1.out.cell 0 rfl
  have z1 := Z1.out.cell 1 rfl
  have y0 := Z1.out.soft 0
  have y1 := Z1.out.soft 1
  have ZE := V ((Z1.out.put 0 (.slice A1 s1.xs.length c1)).put 1 (J U (s1.er : Int)))
  have BE := V ((B1.out.setCell (p := ⟨w.heap.size + 1, 0, none⟩) (by simp) (.slice A1 s1.xs.length c1)).setCell (p := ⟨w.heap.size + 1, 1, none⟩) (by simp) (J U (s1.er : Int)))
  go_wp2
  refine bodyPost_ret (results_cv rfl rfl rfl ZE.out.cel.whole _ Tryz.underlying119 rfl (by kernel_rfl)) rfl ?_
  refine ⟨s1, 0, _, rfl, ⟨by omega, fun _ => rfl⟩, D1.out, BE.out, P.Ran.early H1.out HE.out 0⟩
open Go.ChangeShapes Go.WideShapes Go.ChangeAt Go.RowKit
theorem P.rep_one : ∀ (n : Nat) (xs : List UInt8), P.rep P.one n xs = if xs.length < n then .error 3 else .ok (xs.drop n, (xs.take n).map UInt8.toNat)
 | 0, xs => by rw [if_neg (by omega)]; rfl
 | n + 1, xs => by
   show P.bind (P.rep P.one n) (fun l => P.bind P.one fun x => P.ret (l ++ [x])) xs = _
   unfold P.bind
   rw [P.rep_one n xs]
   by_cases h : xs.length < n
   ·rw [if_pos h, if_pos (by omega)]
   ·rw [if_neg h]
    simp only
    by_cases h1 : xs.length < n + 1
    ·rw [if_pos h1, List.drop_of_length_le (by omega)]; rfl
    ·rw [if_neg h1, List.drop_eq_getElem_cons (by omega : n < xs.length), List.take_add_one, List.getElem?_eq_getElem (by omega)]
     simp only [P.one, P.ret]
     rw [List.map_append]
     rfl
theorem P.take_of_rep {s s1 : P.Sr} {n : Nat} {l : List Nat} (h : P.Ran (P.rep P.one n) s s1 l) : P.Ran (P.take n) s s1 (l.map UInt8.ofNat) := by
 refine ⟨h.stuck, fun h0 r u hu => ?_, fun h0 e he => ?_⟩
 ·unfold P.take at hu
  by_cases hl : s.xs.length < n
  ·rw [if_pos hl] at hu; cases hu
  ·rw [if_neg hl] at hu
   cases hu
   obtain ⟨e1, e2⟩ := h.ok h0 (s.xs.drop n) ((s.xs.take n).map UInt8.toNat) (by rw [P.rep_one, if_neg hl])
   refine ⟨e1, ?_⟩
   rw [e2, List.map_map]
   conv => rhs; rw [← List.map_id (s.xs.take n)]
   apply List.map_congr_left
   intro x _
   simp
 ·unfold P.take at he
  by_cases hl : s.xs.length < n
  ·rw [if_pos hl] at he
   cases he
   exact h.bad h0 3 (by rw [P.rep_one, if_pos hl])
  ·rw [if_neg hl] at he; cases he
theorem text_doc {w0 w : World} {x : Value} {s : P.Sr} (hw : Below w0.heap.size w0 w) (h : Prt w0 x s) :
 Calls Tryz.prog 79 #[x] w (Dn P.text encT (fun _ v => v.length ≤ 8) w0 s w) := by
 obtain ⟨A0, c0, rfl, hq⟩ := h
 have D0 := V (show Prt w0 _ s from ⟨A0, c0, rfl, hq⟩)
 have HW := V hw
 have P0 := V ((Hold.new w [.slice A0 s.xs.length c0,J U (s.er : Int)] 119).alloc (.cells #[.slice none 0 0,J U 0] 119))
 have Z0 := V (Hold.new1 w (.cells #[.slice A0 s.xs.length c0,J U (s.er : Int)] 119) [.slice none 0 0,J U 0] 119)
 have B0 := V (below_new (o := .cells #[.slice none 0 0,J U 0] 119) (below_new (o := .cells #[.slice A0 s.xs.length c0,J U (s.er : Int)] 119) (Below.refl w.heap.size w)))
 clear hq hw
 go_enter Tryz.func79, Tryz.ntmps79
 go_wp2_with (fail)
 refine (few_doc (HW.out.trans (B0.out.mono HW.out.size)) D0.out).mono ?_
 rintro e w1 ⟨s1, n, x1, rfl, ⟨hn, -⟩, hx, hb, hp⟩
 obtain ⟨A1, c1, rfl, hq⟩ := hx
 have D1 := V (show Prt w0 _ s1 from ⟨A1, c1, rfl, hq⟩)
 have W10 := V (below_on B0.out hb)
 have P10 := V (P0.out.on hb)
 have Z10 := V (Z0.out.on hb)
 clear hq hb
 have H1 := V hp
 have HN := V hn
 clear hp hn
 have p0 := P10.out.cell 0 rfl
 have p1 := P10.out.cell 1 rfl
 have r0 := P10.out.soft 0
 have r1 := P10.out.soft 1
 have P1 := V (show Hold ((w1.setCell ⟨w.heap.size, 0, none⟩ (.slice A1 s1.xs.length c1)).setCell ⟨w.heap.size, 1, none⟩ (J U (s1.er : Int))) w.heap.size 119 [.slice A1 s1.xs.length c1,J U (s1.er : Int)] from (P10.out.put 0 (.slice A1 s1.xs.length c1)).put 1 (J U (s1.er : Int)))
 have Z1 := V ((Z10.out.bel (Bel.store _ w.heap.size 0 (.slice A1 s1.xs.length c1)) (by omega)).bel (Bel.store _ w.heap.size 1 (J U (s1.er : Int))) (by omega))
 have B1 := V ((W10.out.setCell (p := ⟨w.heap.size, 0, none⟩) (by simp) (.slice A1 s1.xs.length c1)).setCell (p := ⟨w.heap.size, 1, none⟩) (by simp) (J U (s1.er : Int)))
 go_wp2
 go_loopw [5, 6] (fun a i wr => ∃ (k : Nat) (l : List Nat) (s9 : P.Sr) (A9 : Option Addr) (c9 : Nat), k ≤ n ∧ i = J U k ∧ a = encT (l.map UInt8.ofNat) ∧ l.length = k ∧ Hold wr w.heap.size 119 [.slice A9 s9.xs.length c9,J U (s9.er : Int)] ∧ Hold wr (w.heap.size + 1) 119 [.slice none 0 0,J U 0] ∧ Below w.heap.size w wr ∧ Prt w0 (.agg #[.slice A9 s9.xs.length c9,J U (s9.er : Int)]) s9 ∧ P.Ran (P.rep P.one k) s1 s9 l) (fun _ i _ => n - (intOf i).toNat)
 case atStart => exact ⟨0, [], s1, A1, c1, Nat.zero_le _, rfl, rfl, rfl, P1.out, Z1.out, B1.out, D1.out, P.Ran.ret _ _⟩
 case round =>
  obtain ⟨k, l, s9, A9, c9, hk, rfl, rfl, hl, hp, hz, hb, hd, hc⟩ := hrel
  have P9 := V hp
  have Z9 := V hz
  have B9 := V hb
  have D9 := V hd
  have HC := V hc
  have HL := V hl
  clear hp hz hb hd hc hl p0 p1 r0 r1
  have p0 := P9.out.cell 0 rfl
  have p1 := P9.out.cell 1 rfl
  by_cases hlt : k < n
  ·go_wp2_with (fail)
   refine (one_doc (HW.out.trans (B9.out.mono HW.out.size)) D9.out).mono ?_
   rintro e w2 ⟨s2, y, x2, rfl, hy, hx, hb, hp⟩
   obtain ⟨A2, c2, rfl, hq⟩ := hx
   have D2 := V (show Prt w0 _ s2 from ⟨A2, c2, rfl, hq⟩)
   have W20 := V (below_on B9.out hb)
   have P20 := V (P9.out.on hb)
   have Z20 := V (Z9.out.on hb)
   clear hq hb
   have H2 := V hp
   clear hp p0 p1
   have p0 := P20.out.cell 0 rfl
   have p1 := P20.out.cell 1 rfl
   have r0 := P20.out.soft 0
   have r1 := P20.out.soft 1
   have P2 := V (show Hold ((w2.setCell ⟨w.heap.size, 0, none⟩ (.slice A2 s2.xs.length c2)).setCell ⟨w.heap.size, 1, none⟩ (J U (s2.er : Int))) w.heap.size 119 [.slice A2 s2.xs.length c2,J U (s2.er : Int)] from (P20.out.put 0 (.slice A2 s2.xs.length c2)).put 1 (J U (s2.er : Int)))
   have Z2 := V ((Z20.out.bel (Bel.store _ w.heap.size 0 (.slice A2 s2.xs.length c2)) (by omega)).bel (Bel.store _ w.heap.size 1 (J U (s2.er : Int))) (by omega))
   have B2 := V ((W20.out.setCell (p := ⟨w.heap.size, 0, none⟩) (by simp) (.slice A2 s2.xs.length c2)).setCell (p := ⟨w.heap.size, 1, none⟩) (by simp) (J U (s2.er : Int)))
   have wy : IntKind.u8.wrap (y : Int) = (y : Int) := by rw [wrap8]; omega
   obtain ⟨w3, e3⟩ : ∃ w3, w3 = (w2.setCell ⟨w.heap.size, 0, none⟩ (.slice A2 s2.xs.length c2)).setCell ⟨w.heap.size, 1, none⟩ (J U (s2.er : Int)) := ⟨_, rfl⟩
   have cv : (convert 22 9 (.slice (some ⟨w3.heap.size, 0, none⟩) 1 1)).run Tryz.prog (w3.alloc (.cells #[.int .u8 (y : Int)] 5)) = .ok (encT [UInt8.ofNat y]) (w3.alloc (.cells #[.int .u8 (y : Int)] 5)) :=
    conv_take (xs := [UInt8.ofNat y]) (n := 1) (fun j z hj => by
     have : j = 0 := by have := (List.getElem?_eq_some_iff.1 hj).1; simp at this; exact this
     subst this
     cases hj
     simp [byte_of y hy]) (by simp)
   have hs3 : w3.heap.size = w2.heap.size := by rw [e3]; simp
   rw [hs3] at cv
   rw [e3] at cv
   have cc : (⟨(l.map UInt8.ofNat).toArray⟩ : ByteArray) ++ ⟨[UInt8.ofNat y].toArray⟩ = ⟨((l ++ [y]).map UInt8.ofNat).toArray⟩ := by
    apply ByteArray.ext
    simp
   have lim : ¬ 9223372036854775807 < l.length + 1 := by have := HL.out; have := HN.out; omega
   have hk1 : k + 1 ≤ 9 := by have := HN.out; omega
   clear e3 hs3
   go_wp2
   go_roundw
   case rel =>
    refine ⟨k + 1, l ++ [y], s2, A2, c2, by omega, by go_num, ?_, by rw [List.length_append, HL.out]; rfl, P2.out.alloc _, Z2.out.alloc _, below_new B2.out, D2.out, ?_⟩
    ·rw [List.map_append]; rfl
    ·exact P.Ran.bind (P.errs_rep P.errs_one k) HC.out (P.Ran.bind P.errs_one H2.out (P.Ran.ret _ _))
   case measure => simp [intOf]; omega
  ·obtain rfl : k = n := by omega
   have z0 := Z9.out.cell 0 rfl
   have z1 := Z9.out.cell 1 rfl
   have y0 := Z9.out.soft 0
   have y1 := Z9.out.soft 1
   have ZE := V ((Z9.out.put 0 (.slice A9 s9.xs.length c9)).put 1 (J U (s9.er : Int)))
   have BE := V ((B9.out.setCell (p := ⟨w.heap.size + 1, 0, none⟩) (by simp) (.slice A9 s9.xs.length c9)).setCell (p := ⟨w.heap.size + 1, 1, none⟩) (by simp) (J U (s9.er : Int)))
   go_wp2
   refine bodyPost_ret (results_cv rfl rfl rfl ZE.out.cel.whole _ Tryz.underlying119 rfl (by kernel_rfl)) rfl ?_
   refine ⟨s9, l.map UInt8.ofNat, _, rfl, (show (l.map UInt8.ofNat).length ≤ 8 by rw [List.length_map, HL.out]; exact HN.out), D9.out, BE.out, P.Ran.bind P.errs_few H1.out (P.take_of_rep HC.out)⟩
open Go.ChangeShapes Go.WideShapes Go.ChangeAt Go.RowKit
theorem ownsRow_put {w : World} {base : Nat} {t : TypeId} {k : Nat} {v : Value} {n : Nat} {xs : List Value} (h : w.ownsRow base t k v n xs) (b o : Nat) (u : Value) (hb : ∀ q, v.ownBlock = some q → q ≠ b) : (w.setCell ⟨b, o, none⟩ u).ownsRow base t k v n xs := by
 refine ⟨h.1, ?_⟩
 rcases h.2 with h0 | ⟨g, cap, cur, hv, hg, hblk, r⟩
 ·exact .inl h0
 ·exact .inr ⟨g, cap, cur, hv, hg, (Below.heap_setCell _ _ _ _ (hb g (by rw [hv]; rfl))).trans hblk, r⟩
theorem app_rd {w : World} {base : Nat} {va : Value} {rs : List (List UInt8 × Int × Int)} (h : w.ownsRow base 113 3 va rs.length (rdsC rs)) (x : List UInt8 × Int × Int) (hl : rs.length ≤ 1000) (hb : base ≤ w.heap.size) :
 ∃ v' w', (Builtin.append_ #[60, 60] 60 #[va,.slice (some ⟨w.heap.size, 0, none⟩) 1 1]).run Tryz.prog (w.alloc (.cells (rdC x).toArray 113)) = .ok v' w' ∧ w'.ownsRow base 113 3 v' (rs ++ [x]).length (rdsC (rs ++ [x])) ∧ (w.alloc (.cells (rdC x).toArray 113)).grownBy w' va.ownBlock := by
 obtain ⟨v', w', hr, hown, hgrow⟩ := append_rds (World.ownsRow.alloc h (.cells (rdC x).toArray 113)) (rds_one w x) (by simp; omega) (by simp; omega)
 refine ⟨v', w', hr, ?_, hgrow⟩
 rw [show (rs ++ [x]).length = rs.length + 1 by simp, show rdsC (rs ++ [x]) = rdsC rs ++ rdsC [x] by unfold rdsC; rw [List.flatMap_append]]
 exact hown
theorem app_wr {w : World} {base : Nat} {va : Value} {rs : List (List UInt8 × List UInt8)} (h : w.ownsRow base 115 2 va rs.length (wrsC rs)) (x : List UInt8 × List UInt8) (hl : rs.length ≤ 1000) (hb : base ≤ w.heap.size) :
 ∃ v' w', (Builtin.append_ #[61, 61] 61 #[va,.slice (some ⟨w.heap.size, 0, none⟩) 1 1]).run Tryz.prog (w.alloc (.cells (wrC x).toArray 115)) = .ok v' w' ∧ w'.ownsRow base 115 2 v' (rs ++ [x]).length (wrsC (rs ++ [x])) ∧ (w.alloc (.cells (wrC x).toArray 115)).grownBy w' va.ownBlock := by
 obtain ⟨v', w', hr, hown, hgrow⟩ := append_wrs (World.ownsRow.alloc h (.cells (wrC x).toArray 115)) (wrs_one w x) (by simp; omega) (by simp; omega)
 refine ⟨v', w', hr, ?_, hgrow⟩
 rw [show (rs ++ [x]).length = rs.length + 1 by simp, show wrsC (rs ++ [x]) = wrsC rs ++ wrsC [x] by unfold wrsC; rw [List.flatMap_append]]
 exact hown
theorem Hold.grow {w w' : World} {b : Nat} {t : TypeId} {L : List Value} {row : Option Nat} (h : Hold w b t L) (k : w.grownBy w' row) (hb : ∀ q, row = some q → q ≠ b) : Hold w' b t L := (k.block b h.lt (fun e => hb b e.symm rfl)).trans h
theorem step_ld {P : Program} {ops : Array Oper} {o : Oper} {a : Act} {w : World} {K : Act → World → Prop} {Q : Exit → Act → World → Prop} {E : Prop}
 (hw : Region.wanted o (yielded ops a.tmps) = true) (ty : TypeId) (x : Operand) (ho : o.op = .load ty x) (b off : Nat) (hx : a.eval x = .pointer (some ⟨b, off, none⟩)) (cs : List Value) (d : TypeDesc) (hc : w.rangeAt b off cs)
 (hu : P.underlying ty = some d) (hd : d.isRow = true) (hi : (P.info? ty).map (·.size) = some cs.length) (hK : K (a.put o.dst (.agg cs.toArray)) w) : if Region.wanted o (yielded ops a.tmps) = true then Oper.wp P o a w K Q else E := by
 rw [if_pos hw]
 exact wp_load_mid ty x ho b off hx cs d hc hu hd hi hK
theorem step_st {P : Program} {ops : Array Oper} {op : Oper} {a : Act} {w : World} {K : Act → World → Prop} {Q : Exit → Act → World → Prop} {E : Prop}
 (hw : Region.wanted op (yielded ops a.tmps) = true) (ty : TypeId) (x y : Operand) (ho : op.op = .store ty x y) (b o : Nat) (L : List Value) (hx : a.eval x = .pointer (some ⟨b, o, none⟩)) (hy : a.eval y = .agg L.toArray)
 (ht : w.there b o L.length) (hi : (P.info? ty).map (·.size) = some L.length) (h1 : L.all (·.oneCell') = true) (hK : K (a.put op.dst undef) (w.setCells b o L)) : if Region.wanted op (yielded ops a.tmps) = true then Oper.wp P op a w K Q else E := by
 rw [if_pos hw]
 exact wp_store_mid ty x y ho b o L.toArray hx hy ht hi (by simpa using h1) (by simpa using hK)
theorem results_cc {fn : Func} {j k : Nat} {t u : TypeId} {tmps : Array Value} {w : World} {b b' : Nat} {L L' : List Value} (hf : fn.results = #[ResultVar.cell j t, ResultVar.cell k u]) (hp : tmps.getD j undef = .pointer (some ⟨b, 0, none⟩)) (hp' : tmps.getD k undef = .pointer (some ⟨b', 0, none⟩)) (hr : w.rangeAt b 0 L) (hr' : w.rangeAt b' 0 L')
 (d d' : TypeDesc) (hu : Tryz.prog.underlying t = some d) (hu' : Tryz.prog.underlying u = some d') (hd : d.isRow = true) (hd' : d'.isRow = true) (hi : (Tryz.prog.info? t).map (·.size) = some L.length) (hi' : (Tryz.prog.info? u).map (·.size) = some L'.length) :
 (results fn tmps).run Tryz.prog w = .ok (.tuple #[.agg L.toArray,.agg L'.toArray]) w := by
 have e : tmps[j]?.getD undef = .pointer (some ⟨b, 0, none⟩) := by simpa using hp
 have e' : tmps[k]?.getD undef = .pointer (some ⟨b', 0, none⟩) := by simpa using hp'
 simp [results, hf, e, e', asAddr, run_loadVar_mid w b 0 t L _ hr hu hd hi, run_loadVar_mid w b' 0 u L' _ hr' hu' hd' hi', Result.andThen]
def DcC (w0 : World) (s : P.Sr) (w : World) (e : Ending) (w' : World) : Prop := ∃ (s1 : P.Sr) (c : M.Cmd) (va vb x : Value), e = .returned (.tuple #[x,.agg #[J U c.k,J U c.tc,J U c.tn,J U c.tt,J U c.tk,J U c.sh, va, vb,.bool c.cm]]) ∧ Prt w0 x s1 ∧ w'.ownsRow w.heap.size 113 3 va c.rs.length (rdsC c.rs) ∧ w'.ownsRow w.heap.size 115 2 vb c.ws.length (wrsC c.ws) ∧ Below w.heap.size w w' ∧ P.Ran P.cmd s s1 c ∧ M.Mod c
theorem command_doc {w0 w : World} {x : Value} {s : P.Sr} (hw : Below w0.heap.size w0 w) (h : Prt w0 x s) : Calls Tryz.prog 56 #[x] w (DcC w0 s w) := by
 obtain ⟨A0, c0, rfl, hq⟩ := h
 have D0 := V (show Prt w0 _ s from ⟨A0, c0, rfl, hq⟩)
 have HW := V hw
 have P0 := V ((((Hold.new w [.slice A0 s.xs.length c0,J U (s.er : Int)] 119).alloc (.cells #[.slice none 0 0,J U 0] 119)).alloc (.cells #[J U 0,J U 0,J U 0,J U 0,J U 0,J U 0,.slice none 0 0,.slice none 0 0,.bool false] 63)).alloc (.cells #[J U 0,J U 0,J U 0,J U 0,J U 0,J U 0,.slice none 0 0,.slice none 0 0,.bool false] 63))
 have Z0 := V (((Hold.new1 w (.cells #[.slice A0 s.xs.length c0,J U (s.er : Int)] 119) [.slice none 0 0,J U 0] 119).alloc (.cells #[J U 0,J U 0,J U 0,J U 0,J U 0,J U 0,.slice none 0 0,.slice none 0 0,.bool false] 63)).alloc (.cells #[J U 0,J U 0,J U 0,J U 0,J U 0,J U 0,.slice none 0 0,.slice none 0 0,.bool false] 63))
 have Y0 := V ((show Hold (((w.alloc (.cells #[.slice A0 s.xs.length c0,J U (s.er : Int)] 119)).alloc (.cells #[.slice none 0 0,J U 0] 119)).alloc (.cells #[J U 0,J U 0,J U 0,J U 0,J U 0,J U 0,.slice none 0 0,.slice none 0 0,.bool false] 63)) (w.heap.size + 2) 63 [J U 0,J U 0,J U 0,J U 0,J U 0,J U 0,.slice none 0 0,.slice none 0 0,.bool false] by simpa using Hold.new ((w.alloc (.cells #[.slice A0 s.xs.length c0,J U (s.er : Int)] 119)).alloc (.cells #[.slice none 0 0,J U 0] 119)) [J U 0,J U 0,J U 0,J U 0,J U 0,J U 0,.slice none 0 0,.slice none 0 0,.bool false] 63).alloc (.cells #[J U 0,J U 0,J U 0,J U 0,J U 0,J U 0,.slice none 0 0,.slice none 0 0,.bool false] 63))
 have C0 := V (show Hold ((((w.alloc (.cells #[.slice A0 s.xs.length c0,J U (s.er : Int)] 119)).alloc (.cells #[.slice none 0 0,J U 0] 119)).alloc (.cells #[J U 0,J U 0,J U 0,J U 0,J U 0,J U 0,.slice none 0 0,.slice none 0 0,.bool false] 63)).alloc (.cells #[J U 0,J U 0,J U 0,J U 0,J U 0,J U 0,.slice none 0 0,.slice none 0 0,.bool false] 63)) (w.heap.size + 3) 63 [J U 0,J U 0,J U 0,J U 0,J U 0,J U 0,.slice none 0 0,.slice none 0 0,.bool false] by simpa using Hold.new (((w.alloc (.cells #[.slice A0 s.xs.length c0,J U (s.er : Int)] 119)).alloc (.cells #[.slice none 0 0,J U 0] 119)).alloc (.cells #[J U 0,J U 0,J U 0,J U 0,J U 0,J U 0,.slice none 0 0,.slice none 0 0,.bool false] 63)) [J U 0,J U 0,J U 0,J U 0,J U 0,J U 0,.slice none 0 0,.slice none 0 0,.bool false] 63)
 have B0 := V (below_new (o := .cells #[J U 0,J U 0,J U 0,J U 0,J U 0,J U 0,.slice none 0 0,.slice none 0 0,.bool false] 63) (below_new (o := .cells #[J U 0,J U 0,J U 0,J U 0,J U 0,J U 0,.slice none 0 0,.slice none 0 0,.bool false] 63) (below_new (o := .cells #[.slice none 0 0,J U 0] 119) (below_new (o := .cells #[.slice A0 s.xs.length c0,J U (s.er : Int)] 119) (Below.refl w.heap.size w)))))
 clear hq hw
 go_enter Tryz.func56, Tryz.ntmps56
 go_wp2_with (with_reducible refine wpList_store_fresh rfl 63 _ _ rfl _ rfl 63 _ [J U 0,J U 0,J U 0,J U 0,J U 0,J U 0,.slice none 0 0,.slice none 0 0,.bool false] rfl rfl rfl (by kernel_rfl) rfl ?_)
 go_wp2_with (fail)
 refine (number_doc (HW.out.trans (B0.out.mono HW.out.size)) D0.out).mono ?_
 rintro e w1 ⟨s1, a1, x1, rfl, -, hx, hb, hp⟩
 obtain ⟨A1, c1, rfl, hq⟩ := hx
 have D1 := V (show Prt w0 _ s1 from ⟨A1, c1, rfl, hq⟩)
 clear hq
 have P1 := V (P0.out.on hb)
 have Z1 := V (Z0.out.on hb)
 have Y1 := V (Y0.out.on hb)
 have C1 := V (C0.out.on hb)
 have B1 := V (below_on B0.out hb)
 have Ha1 := V hp
 clear hb hp
 clear P0 Z0 Y0 C0 B0
 have za0 := P1.out.cell 0 rfl
 have zb0 := P1.out.soft 0
 have za1 := P1.out.cell 1 rfl
 have zb1 := P1.out.soft 1
 have za2 := C1.out.cell 0 rfl
 have zb2 := C1.out.soft 0
 have P1a := V (show Hold ((w1).setCell ⟨w.heap.size, 0, none⟩ (.slice A1 s1.xs.length c1)) w.heap.size 119 [.slice A1 s1.xs.length c1,J U (s.er : Int)] from P1.out.put 0 (.slice A1 s1.xs.length c1))
 have Z1a := V (Z1.out.bel (Bel.store (w1) w.heap.size 0 (.slice A1 s1.xs.length c1)) (by omega))
 have Y1a := V (Y1.out.bel (Bel.store (w1) w.heap.size 0 (.slice A1 s1.xs.length c1)) (by omega))
 have C1a := V (C1.out.bel (Bel.store (w1) w.heap.size 0 (.slice A1 s1.xs.length c1)) (by omega))
 have B1a := V (B1.out.setCell (p := ⟨w.heap.size, 0, none⟩) (by show w.heap.size ≤ w.heap.size; omega) (.slice A1 s1.xs.length c1))
 clear P1 Z1 Y1 C1 B1
 have P1b := V (show Hold (((w1).setCell ⟨w.heap.size, 0, none⟩ (.slice A1 s1.xs.length c1)).setCell ⟨w.heap.size, 1, none⟩ (J U (s1.er : Int))) w.heap.size 119 [.slice A1 s1.xs.length c1,J U (s1.er : Int)] from P1a.out.put 1 (J U (s1.er : Int)))
 have Z1b := V (Z1a.out.bel (Bel.store ((w1).setCell ⟨w.heap.size, 0, none⟩ (.slice A1 s1.xs.length c1)) w.heap.size 1 (J U (s1.er : Int))) (by omega))
 have Y1b := V (Y1a.out.bel (Bel.store ((w1).setCell ⟨w.heap.size, 0, none⟩ (.slice A1 s1.xs.length c1)) w.heap.size 1 (J U (s1.er : Int))) (by omega))
 have C1b := V (C1a.out.bel (Bel.store ((w1).setCell ⟨w.heap.size, 0, none⟩ (.slice A1 s1.xs.length c1)) w.heap.size 1 (J U (s1.er : Int))) (by omega))
 have B1b := V (B1a.out.setCell (p := ⟨w.heap.size, 1, none⟩) (by show w.heap.size ≤ w.heap.size; omega) (J U (s1.er : Int)))
 clear P1a Z1a Y1a C1a B1a
 have P1c := V (P1b.out.bel (Bel.store (((w1).setCell ⟨w.heap.size, 0, none⟩ (.slice A1 s1.xs.length c1)).setCell ⟨w.heap.size, 1, none⟩ (J U (s1.er : Int))) (w.heap.size + 3) 0 (encN a1)) (by omega))
 have Z1c := V (Z1b.out.bel (Bel.store (((w1).setCell ⟨w.heap.size, 0, none⟩ (.slice A1 s1.xs.length c1)).setCell ⟨w.heap.size, 1, none⟩ (J U (s1.er : Int))) (w.heap.size + 3) 0 (encN a1)) (by omega))
 have Y1c := V (Y1b.out.bel (Bel.store (((w1).setCell ⟨w.heap.size, 0, none⟩ (.slice A1 s1.xs.length c1)).setCell ⟨w.heap.size, 1, none⟩ (J U (s1.er : Int))) (w.heap.size + 3) 0 (encN a1)) (by omega))
 have C1c := V (show Hold ((((w1).setCell ⟨w.heap.size, 0, none⟩ (.slice A1 s1.xs.length c1)).setCell ⟨w.heap.size, 1, none⟩ (J U (s1.er : Int))).setCell ⟨(w.heap.size + 3), 0, none⟩ (encN a1)) (w.heap.size + 3) 63 [encN a1,J U 0,J U 0,J U 0,J U 0,J U 0,.slice none 0 0,.slice none 0 0,.bool false] from C1b.out.put 0 (encN a1))
 have B1c := V (B1b.out.setCell (p := ⟨(w.heap.size + 3), 0, none⟩) (by show w.heap.size ≤ (w.heap.size + 3); omega) (encN a1))
 clear P1b Z1b Y1b C1b B1b
 go_wp2_with (fail)
 refine (number_doc (HW.out.trans (B1c.out.mono HW.out.size)) D1.out).mono ?_
 rintro e w2 ⟨s2, a2, x2, rfl, -, hx, hb, hp⟩
 obtain ⟨A2, c2, rfl, hq⟩ := hx
 have D2 := V (show Prt w0 _ s2 from ⟨A2, c2, rfl, hq⟩)
 clear hq
 have P2 := V (P1c.out.on hb)
 have Z2 := V (Z1c.out.on hb)
 have Y2 := V (Y1c.out.on hb)
 have C2 := V (C1c.out.on hb)
 have B2 := V (below_on B1c.out hb)
 have Ha2 := V hp
 clear hb hp
 clear P1c Z1c Y1c C1c B1c
 clear za0 zb0 za1 zb1 za2 zb2
 have za0 := P2.out.cell 0 rfl
 have zb0 := P2.out.soft 0
 have za1 := P2.out.cell 1 rfl
 have zb1 := P2.out.soft 1
 have za2 := C2.out.cell 1 rfl
 have zb2 := C2.out.soft 1
 have P2a := V (show Hold ((w2).setCell ⟨w.heap.size, 0, none⟩ (.slice A2 s2.xs.length c2)) w.heap.size 119 [.slice A2 s2.xs.length c2,J U (s1.er : Int)] from P2.out.put 0 (.slice A2 s2.xs.length c2))
 have Z2a := V (Z2.out.bel (Bel.store (w2) w.heap.size 0 (.slice A2 s2.xs.length c2)) (by omega))
 have Y2a := V (Y2.out.bel (Bel.store (w2) w.heap.size 0 (.slice A2 s2.xs.length c2)) (by omega))
 have C2a := V (C2.out.bel (Bel.store (w2) w.heap.size 0 (.slice A2 s2.xs.length c2)) (by omega))
 have B2a := V (B2.out.setCell (p := ⟨w.heap.size, 0, none⟩) (by show w.heap.size ≤ w.heap.size; omega) (.slice A2 s2.xs.length c2))
 clear P2 Z2 Y2 C2 B2
 have P2b := V (show Hold (((w2).setCell ⟨w.heap.size, 0, none⟩ (.slice A2 s2.xs.length c2)).setCell ⟨w.heap.size, 1, none⟩ (J U (s2.er : Int))) w.heap.size 119 [.slice A2 s2.xs.length c2,J U (s2.er : Int)] from P2a.out.put 1 (J U (s2.er : Int)))
 have Z2b := V (Z2a.out.bel (Bel.store ((w2).setCell ⟨w.heap.size, 0, none⟩ (.slice A2 s2.xs.length c2)) w.heap.size 1 (J U (s2.er : Int))) (by omega))
 have Y2b := V (Y2a.out.bel (Bel.store ((w2).setCell ⟨w.heap.size, 0, none⟩ (.slice A2 s2.xs.length c2)) w.heap.size 1 (J U (s2.er : Int))) (by omega))
 have C2b := V (C2a.out.bel (Bel.store ((w2).setCell ⟨w.heap.size, 0, none⟩ (.slice A2 s2.xs.length c2)) w.heap.size 1 (J U (s2.er : Int))) (by omega))
 have B2b := V (B2a.out.setCell (p := ⟨w.heap.size, 1, none⟩) (by show w.heap.size ≤ w.heap.size; omega) (J U (s2.er : Int)))
 clear P2a Z2a Y2a C2a B2a
 have P2c := V (P2b.out.bel (Bel.store (((w2).setCell ⟨w.heap.size, 0, none⟩ (.slice A2 s2.xs.length c2)).setCell ⟨w.heap.size, 1, none⟩ (J U (s2.er : Int))) (w.heap.size + 3) 1 (encN a2)) (by omega))
 have Z2c := V (Z2b.out.bel (Bel.store (((w2).setCell ⟨w.heap.size, 0, none⟩ (.slice A2 s2.xs.length c2)).setCell ⟨w.heap.size, 1, none⟩ (J U (s2.er : Int))) (w.heap.size + 3) 1 (encN a2)) (by omega))
 have Y2c := V (Y2b.out.bel (Bel.store (((w2).setCell ⟨w.heap.size, 0, none⟩ (.slice A2 s2.xs.length c2)).setCell ⟨w.heap.size, 1, none⟩ (J U (s2.er : Int))) (w.heap.size + 3) 1 (encN a2)) (by omega))
 have C2c := V (show Hold ((((w2).setCell ⟨w.heap.size, 0, none⟩ (.slice A2 s2.xs.length c2)).setCell ⟨w.heap.size, 1, none⟩ (J U (s2.er : Int))).setCell ⟨(w.heap.size + 3), 1, none⟩ (encN a2)) (w.heap.size + 3) 63 [encN a1, encN a2,J U 0,J U 0,J U 0,J U 0,.slice none 0 0,.slice none 0 0,.bool false] from C2b.out.put 1 (encN a2))
 have B2c := V (B2b.out.setCell (p := ⟨(w.heap.size + 3), 1, none⟩) (by show w.heap.size ≤ (w.heap.size + 3); omega) (encN a2))
 clear P2b Z2b Y2b C2b B2b
 go_wp2_with (fail)
 refine (number_doc (HW.out.trans (B2c.out.mono HW.out.size)) D2.out).mono ?_
 rintro e w3 ⟨s3, a3, x3, rfl, -, hx, hb, hp⟩
 obtain ⟨A3, c3, rfl, hq⟩ := hx
 have D3 := V (show Prt w0 _ s3 from ⟨A3, c3, rfl, hq⟩)
 clear hq
 have P3 := V (P2c.out.on hb)
 have Z3 := V (Z2c.out.on hb)
 have Y3 := V (Y2c.out.on hb)
 have C3 := V (C2c.out.on hb)
 have B3 := V (below_on B2c.out hb)
 have Ha3 := V hp
 clear hb hp
 clear P2c Z2c Y2c C2c B2c
 clear za0 zb0 za1 zb1 za2 zb2
 have za0 := P3.out.cell 0 rfl
 have zb0 := P3.out.soft 0
 have za1 := P3.out.cell 1 rfl
 have zb1 := P3.out.soft 1
 have za2 := C3.out.cell 2 rfl
 have zb2 := C3.out.soft 2
 have P3a := V (show Hold ((w3).setCell ⟨w.heap.size, 0, none⟩ (.slice A3 s3.xs.length c3)) w.heap.size 119 [.slice A3 s3.xs.length c3,J U (s2.er : Int)] from P3.out.put 0 (.slice A3 s3.xs.length c3))
 have Z3a := V (Z3.out.bel (Bel.store (w3) w.heap.size 0 (.slice A3 s3.xs.length c3)) (by omega))
 have Y3a := V (Y3.out.bel (Bel.store (w3) w.heap.size 0 (.slice A3 s3.xs.length c3)) (by omega))
 have C3a := V (C3.out.bel (Bel.store (w3) w.heap.size 0 (.slice A3 s3.xs.length c3)) (by omega))
 have B3a := V (B3.out.setCell (p := ⟨w.heap.size, 0, none⟩) (by show w.heap.size ≤ w.heap.size; omega) (.slice A3 s3.xs.length c3))
 clear P3 Z3 Y3 C3 B3
 have P3b := V (show Hold (((w3).setCell ⟨w.heap.size, 0, none⟩ (.slice A3 s3.xs.length c3)).setCell ⟨w.heap.size, 1, none⟩ (J U (s3.er : Int))) w.heap.size 119 [.slice A3 s3.xs.length c3,J U (s3.er : Int)] from P3a.out.put 1 (J U (s3.er : Int)))
 have Z3b := V (Z3a.out.bel (Bel.store ((w3).setCell ⟨w.heap.size, 0, none⟩ (.slice A3 s3.xs.length c3)) w.heap.size 1 (J U (s3.er : Int))) (by omega))
 have Y3b := V (Y3a.out.bel (Bel.store ((w3).setCell ⟨w.heap.size, 0, none⟩ (.slice A3 s3.xs.length c3)) w.heap.size 1 (J U (s3.er : Int))) (by omega))
 have C3b := V (C3a.out.bel (Bel.store ((w3).setCell ⟨w.heap.size, 0, none⟩ (.slice A3 s3.xs.length c3)) w.heap.size 1 (J U (s3.er : Int))) (by omega))
 have B3b := V (B3a.out.setCell (p := ⟨w.heap.size, 1, none⟩) (by show w.heap.size ≤ w.heap.size; omega) (J U (s3.er : Int)))
 clear P3a Z3a Y3a C3a B3a
 have P3c := V (P3b.out.bel (Bel.store (((w3).setCell ⟨w.heap.size, 0, none⟩ (.slice A3 s3.xs.length c3)).setCell ⟨w.heap.size, 1, none⟩ (J U (s3.er : Int))) (w.heap.size + 3) 2 (encN a3)) (by omega))
 have Z3c := V (Z3b.out.bel (Bel.store (((w3).setCell ⟨w.heap.size, 0, none⟩ (.slice A3 s3.xs.length c3)).setCell ⟨w.heap.size, 1, none⟩ (J U (s3.er : Int))) (w.heap.size + 3) 2 (encN a3)) (by omega))
 have Y3c := V (Y3b.out.bel (Bel.store (((w3).setCell ⟨w.heap.size, 0, none⟩ (.slice A3 s3.xs.length c3)).setCell ⟨w.heap.size, 1, none⟩ (J U (s3.er : Int))) (w.heap.size + 3) 2 (encN a3)) (by omega))
 have C3c := V (show Hold ((((w3).setCell ⟨w.heap.size, 0, none⟩ (.slice A3 s3.xs.length c3)).setCell ⟨w.heap.size, 1, none⟩ (J U (s3.er : Int))).setCell ⟨(w.heap.size + 3), 2, none⟩ (encN a3)) (w.heap.size + 3) 63 [encN a1, encN a2, encN a3,J U 0,J U 0,J U 0,.slice none 0 0,.slice none 0 0,.bool false] from C3b.out.put 2 (encN a3))
 have B3c := V (B3b.out.setCell (p := ⟨(w.heap.size + 3), 2, none⟩) (by show w.heap.size ≤ (w.heap.size + 3); omega) (encN a3))
 clear P3b Z3b Y3b C3b B3b
 go_wp2_with (fail)
 refine (number_doc (HW.out.trans (B3c.out.mono HW.out.size)) D3.out).mono ?_
 rintro e w4 ⟨s4, a4, x4, rfl, -, hx, hb, hp⟩
 obtain ⟨A4, c4, rfl, hq⟩ := hx
 have D4 := V (show Prt w0 _ s4 from ⟨A4, c4, rfl, hq⟩)
 clear hq
 have P4 := V (P3c.out.on hb)
 have Z4 := V (Z3c.out.on hb)
 have Y4 := V (Y3c.out.on hb)
 have C4 := V (C3c.out.on hb)
 have B4 := V (below_on B3c.out hb)
 have Ha4 := V hp
 clear hb hp
 clear P3c Z3c Y3c C3c B3c
 clear za0 zb0 za1 zb1 za2 zb2
 have za0 := P4.out.cell 0 rfl
 have zb0 := P4.out.soft 0
 have za1 := P4.out.cell 1 rfl
 have zb1 := P4.out.soft 1
 have za2 := C4.out.cell 3 rfl
 have zb2 := C4.out.soft 3
 have P4a := V (show Hold ((w4).setCell ⟨w.heap.size, 0, none⟩ (.slice A4 s4.xs.length c4)) w.heap.size 119 [.slice A4 s4.xs.length c4,J U (s3.er : Int)] from P4.out.put 0 (.slice A4 s4.xs.length c4))
 have Z4a := V (Z4.out.bel (Bel.store (w4) w.heap.size 0 (.slice A4 s4.xs.length c4)) (by omega))
 have Y4a := V (Y4.out.bel (Bel.store (w4) w.heap.size 0 (.slice A4 s4.xs.length c4)) (by omega))
 have C4a := V (C4.out.bel (Bel.store (w4) w.heap.size 0 (.slice A4 s4.xs.length c4)) (by omega))
 have B4a := V (B4.out.setCell (p := ⟨w.heap.size, 0, none⟩) (by show w.heap.size ≤ w.heap.size; omega) (.slice A4 s4.xs.length c4))
 clear P4 Z4 Y4 C4 B4
 have P4b := V (show Hold (((w4).setCell ⟨w.heap.size, 0, none⟩ (.slice A4 s4.xs.length c4)).setCell ⟨w.heap.size, 1, none⟩ (J U (s4.er : Int))) w.heap.size 119 [.slice A4 s4.xs.length c4,J U (s4.er : Int)] from P4a.out.put 1 (J U (s4.er : Int)))
 have Z4b := V (Z4a.out.bel (Bel.store ((w4).setCell ⟨w.heap.size, 0, none⟩ (.slice A4 s4.xs.length c4)) w.heap.size 1 (J U (s4.er : Int))) (by omega))
 have Y4b := V (Y4a.out.bel (Bel.store ((w4).setCell ⟨w.heap.size, 0, none⟩ (.slice A4 s4.xs.length c4)) w.heap.size 1 (J U (s4.er : Int))) (by omega))
 have C4b := V (C4a.out.bel (Bel.store ((w4).setCell ⟨w.heap.size, 0, none⟩ (.slice A4 s4.xs.length c4)) w.heap.size 1 (J U (s4.er : Int))) (by omega))
 have B4b := V (B4a.out.setCell (p := ⟨w.heap.size, 1, none⟩) (by show w.heap.size ≤ w.heap.size; omega) (J U (s4.er : Int)))
 clear P4a Z4a Y4a C4a B4a
 have P4c := V (P4b.out.bel (Bel.store (((w4).setCell ⟨w.heap.size, 0, none⟩ (.slice A4 s4.xs.length c4)).setCell ⟨w.heap.size, 1, none⟩ (J U (s4.er : Int))) (w.heap.size + 3) 3 (encN a4)) (by omega))
 have Z4c := V (Z4b.out.bel (Bel.store (((w4).setCell ⟨w.heap.size, 0, none⟩ (.slice A4 s4.xs.length c4)).setCell ⟨w.heap.size, 1, none⟩ (J U (s4.er : Int))) (w.heap.size + 3) 3 (encN a4)) (by omega))
 have Y4c := V (Y4b.out.bel (Bel.store (((w4).setCell ⟨w.heap.size, 0, none⟩ (.slice A4 s4.xs.length c4)).setCell ⟨w.heap.size, 1, none⟩ (J U (s4.er : Int))) (w.heap.size + 3) 3 (encN a4)) (by omega))
 have C4c := V (show Hold ((((w4).setCell ⟨w.heap.size, 0, none⟩ (.slice A4 s4.xs.length c4)).setCell ⟨w.heap.size, 1, none⟩ (J U (s4.er : Int))).setCell ⟨(w.heap.size + 3), 3, none⟩ (encN a4)) (w.heap.size + 3) 63 [encN a1, encN a2, encN a3, encN a4,J U 0,J U 0,.slice none 0 0,.slice none 0 0,.bool false] from C4b.out.put 3 (encN a4))
 have B4c := V (B4b.out.setCell (p := ⟨(w.heap.size + 3), 3, none⟩) (by show w.heap.size ≤ (w.heap.size + 3); omega) (encN a4))
 clear P4b Z4b Y4b C4b B4b
 go_wp2_with (fail)
 refine (number_doc (HW.out.trans (B4c.out.mono HW.out.size)) D4.out).mono ?_
 rintro e w5 ⟨s5, a5, x5, rfl, -, hx, hb, hp⟩
 obtain ⟨A5, c5, rfl, hq⟩ := hx
 have D5 := V (show Prt w0 _ s5 from ⟨A5, c5, rfl, hq⟩)
 clear hq
 have P5 := V (P4c.out.on hb)
 have Z5 := V (Z4c.out.on hb)
 have Y5 := V (Y4c.out.on hb)
 have C5 := V (C4c.out.on hb)
 have B5 := V (below_on B4c.out hb)
 have Ha5 := V hp
 clear hb hp
 clear P4c Z4c Y4c C4c B4c
 clear za0 zb0 za1 zb1 za2 zb2
 have za0 := P5.out.cell 0 rfl
 have zb0 := P5.out.soft 0
 have za1 := P5.out.cell 1 rfl
 have zb1 := P5.out.soft 1
 have za2 := C5.out.cell 4 rfl
 have zb2 := C5.out.soft 4
 have P5a := V (show Hold ((w5).setCell ⟨w.heap.size, 0, none⟩ (.slice A5 s5.xs.length c5)) w.heap.size 119 [.slice A5 s5.xs.length c5,J U (s4.er : Int)] from P5.out.put 0 (.slice A5 s5.xs.length c5))
 have Z5a := V (Z5.out.bel (Bel.store (w5) w.heap.size 0 (.slice A5 s5.xs.length c5)) (by omega))
 have Y5a := V (Y5.out.bel (Bel.store (w5) w.heap.size 0 (.slice A5 s5.xs.length c5)) (by omega))
 have C5a := V (C5.out.bel (Bel.store (w5) w.heap.size 0 (.slice A5 s5.xs.length c5)) (by omega))
 have B5a := V (B5.out.setCell (p := ⟨w.heap.size, 0, none⟩) (by show w.heap.size ≤ w.heap.size; omega) (.slice A5 s5.xs.length c5))
 clear P5 Z5 Y5 C5 B5
 have P5b := V (show Hold (((w5).setCell ⟨w.heap.size, 0, none⟩ (.slice A5 s5.xs.length c5)).setCell ⟨w.heap.size, 1, none⟩ (J U (s5.er : Int))) w.heap.size 119 [.slice A5 s5.xs.length c5,J U (s5.er : Int)] from P5a.out.put 1 (J U (s5.er : Int)))
 have Z5b := V (Z5a.out.bel (Bel.store ((w5).setCell ⟨w.heap.size, 0, none⟩ (.slice A5 s5.xs.length c5)) w.heap.size 1 (J U (s5.er : Int))) (by omega))
 have Y5b := V (Y5a.out.bel (Bel.store ((w5).setCell ⟨w.heap.size, 0, none⟩ (.slice A5 s5.xs.length c5)) w.heap.size 1 (J U (s5.er : Int))) (by omega))
 have C5b := V (C5a.out.bel (Bel.store ((w5).setCell ⟨w.heap.size, 0, none⟩ (.slice A5 s5.xs.length c5)) w.heap.size 1 (J U (s5.er : Int))) (by omega))
 have B5b := V (B5a.out.setCell (p := ⟨w.heap.size, 1, none⟩) (by show w.heap.size ≤ w.heap.size; omega) (J U (s5.er : Int)))
 clear P5a Z5a Y5a C5a B5a
 have P5c := V (P5b.out.bel (Bel.store (((w5).setCell ⟨w.heap.size, 0, none⟩ (.slice A5 s5.xs.length c5)).setCell ⟨w.heap.size, 1, none⟩ (J U (s5.er : Int))) (w.heap.size + 3) 4 (encN a5)) (by omega))
 have Z5c := V (Z5b.out.bel (Bel.store (((w5).setCell ⟨w.heap.size, 0, none⟩ (.slice A5 s5.xs.length c5)).setCell ⟨w.heap.size, 1, none⟩ (J U (s5.er : Int))) (w.heap.size + 3) 4 (encN a5)) (by omega))
 have Y5c := V (Y5b.out.bel (Bel.store (((w5).setCell ⟨w.heap.size, 0, none⟩ (.slice A5 s5.xs.length c5)).setCell ⟨w.heap.size, 1, none⟩ (J U (s5.er : Int))) (w.heap.size + 3) 4 (encN a5)) (by omega))
 have C5c := V (show Hold ((((w5).setCell ⟨w.heap.size, 0, none⟩ (.slice A5 s5.xs.length c5)).setCell ⟨w.heap.size, 1, none⟩ (J U (s5.er : Int))).setCell ⟨(w.heap.size + 3), 4, none⟩ (encN a5)) (w.heap.size + 3) 63 [encN a1, encN a2, encN a3, encN a4, encN a5,J U 0,.slice none 0 0,.slice none 0 0,.bool false] from C5b.out.put 4 (encN a5))
 have B5c := V (B5b.out.setCell (p := ⟨(w.heap.size + 3), 4, none⟩) (by show w.heap.size ≤ (w.heap.size + 3); omega) (encN a5))
 clear P5b Z5b Y5b C5b B5b
 go_wp2_with (fail)
 refine (number_doc (HW.out.trans (B5c.out.mono HW.out.size)) D5.out).mono ?_
 rintro e w6 ⟨s6, a6, x6, rfl, -, hx, hb, hp⟩
 obtain ⟨A6, c6, rfl, hq⟩ := hx
 have D6 := V (show Prt w0 _ s6 from ⟨A6, c6, rfl, hq⟩)
 clear hq
 have P6 := V (P5c.out.on hb)
 have Z6 := V (Z5c.out.on hb)
 have Y6 := V (Y5c.out.on hb)
 have C6 := V (C5c.out.on hb)
 have B6 := V (below_on B5c.out hb)
 have Ha6 := V hp
 clear hb hp
 clear P5c Z5c Y5c C5c B5c
 clear za0 zb0 za1 zb1 za2 zb2
 have za0 := P6.out.cell 0 rfl
 have zb0 := P6.out.soft 0
 have za1 := P6.out.cell 1 rfl
 have zb1 := P6.out.soft 1
 have za2 := C6.out.cell 5 rfl
 have zb2 := C6.out.soft 5
 have P6a := V (show Hold ((w6).setCell ⟨w.heap.size, 0, none⟩ (.slice A6 s6.xs.length c6)) w.heap.size 119 [.slice A6 s6.xs.length c6,J U (s5.er : Int)] from P6.out.put 0 (.slice A6 s6.xs.length c6))
 have Z6a := V (Z6.out.bel (Bel.store (w6) w.heap.size 0 (.slice A6 s6.xs.length c6)) (by omega))
 have Y6a := V (Y6.out.bel (Bel.store (w6) w.heap.size 0 (.slice A6 s6.xs.length c6)) (by omega))
 have C6a := V (C6.out.bel (Bel.store (w6) w.heap.size 0 (.slice A6 s6.xs.length c6)) (by omega))
 have B6a := V (B6.out.setCell (p := ⟨w.heap.size, 0, none⟩) (by show w.heap.size ≤ w.heap.size; omega) (.slice A6 s6.xs.length c6))
 clear P6 Z6 Y6 C6 B6
 have P6b := V (show Hold (((w6).setCell ⟨w.heap.size, 0, none⟩ (.slice A6 s6.xs.length c6)).setCell ⟨w.heap.size, 1, none⟩ (J U (s6.er : Int))) w.heap.size 119 [.slice A6 s6.xs.length c6,J U (s6.er : Int)] from P6a.out.put 1 (J U (s6.er : Int)))
 have Z6b := V (Z6a.out.bel (Bel.store ((w6).setCell ⟨w.heap.size, 0, none⟩ (.slice A6 s6.xs.length c6)) w.heap.size 1 (J U (s6.er : Int))) (by omega))
 have Y6b := V (Y6a.out.bel (Bel.store ((w6).setCell ⟨w.heap.size, 0, none⟩ (.slice A6 s6.xs.length c6)) w.heap.size 1 (J U (s6.er : Int))) (by omega))
 have C6b := V (C6a.out.bel (Bel.store ((w6).setCell ⟨w.heap.size, 0, none⟩ (.slice A6 s6.xs.length c6)) w.heap.size 1 (J U (s6.er : Int))) (by omega))
 have B6b := V (B6a.out.setCell (p := ⟨w.heap.size, 1, none⟩) (by show w.heap.size ≤ w.heap.size; omega) (J U (s6.er : Int)))
 clear P6a Z6a Y6a C6a B6a
 have P6c := V (P6b.out.bel (Bel.store (((w6).setCell ⟨w.heap.size, 0, none⟩ (.slice A6 s6.xs.length c6)).setCell ⟨w.heap.size, 1, none⟩ (J U (s6.er : Int))) (w.heap.size + 3) 5 (encN a6)) (by omega))
 have Z6c := V (Z6b.out.bel (Bel.store (((w6).setCell ⟨w.heap.size, 0, none⟩ (.slice A6 s6.xs.length c6)).setCell ⟨w.heap.size, 1, none⟩ (J U (s6.er : Int))) (w.heap.size + 3) 5 (encN a6)) (by omega))
 have Y6c := V (Y6b.out.bel (Bel.store (((w6).setCell ⟨w.heap.size, 0, none⟩ (.slice A6 s6.xs.length c6)).setCell ⟨w.heap.size, 1, none⟩ (J U (s6.er : Int))) (w.heap.size + 3) 5 (encN a6)) (by omega))
 have C6c := V (show Hold ((((w6).setCell ⟨w.heap.size, 0, none⟩ (.slice A6 s6.xs.length c6)).setCell ⟨w.heap.size, 1, none⟩ (J U (s6.er : Int))).setCell ⟨(w.heap.size + 3), 5, none⟩ (encN a6)) (w.heap.size + 3) 63 [encN a1, encN a2, encN a3, encN a4, encN a5, encN a6,.slice none 0 0,.slice none 0 0,.bool false] from C6b.out.put 5 (encN a6))
 have B6c := V (B6b.out.setCell (p := ⟨(w.heap.size + 3), 5, none⟩) (by show w.heap.size ≤ (w.heap.size + 3); omega) (encN a6))
 clear P6b Z6b Y6b C6b B6b
 go_wp2_with (fail)
 refine (few_doc (HW.out.trans (B6c.out.mono HW.out.size)) D6.out).mono ?_
 rintro e w7 ⟨s7, n, x7, rfl, ⟨hn, -⟩, hx, hb, hp⟩
 obtain ⟨A7, c7, rfl, hq⟩ := hx
 have D7 := V (show Prt w0 _ s7 from ⟨A7, c7, rfl, hq⟩)
 clear hq
 have P7 := V (P6c.out.on hb)
 have Z7 := V (Z6c.out.on hb)
 have Y7 := V (Y6c.out.on hb)
 have C7 := V (C6c.out.on hb)
 have B7 := V (below_on B6c.out hb)
 have H7 := V hp
 have N1 := V hn
 clear hb hp hn
 clear P6c Z6c Y6c C6c B6c
 clear za0 zb0 za1 zb1 za2 zb2
 have za0 := P7.out.cell 0 rfl
 have zb0 := P7.out.soft 0
 have za1 := P7.out.cell 1 rfl
 have zb1 := P7.out.soft 1
 have P7a := V (show Hold ((w7).setCell ⟨w.heap.size, 0, none⟩ (.slice A7 s7.xs.length c7)) w.heap.size 119 [.slice A7 s7.xs.length c7,J U (s6.er : Int)] from P7.out.put 0 (.slice A7 s7.xs.length c7))
 have Z7a := V (Z7.out.bel (Bel.store (w7) w.heap.size 0 (.slice A7 s7.xs.length c7)) (by omega))
 have Y7a := V (Y7.out.bel (Bel.store (w7) w.heap.size 0 (.slice A7 s7.xs.length c7)) (by omega))
 have C7a := V (C7.out.bel (Bel.store (w7) w.heap.size 0 (.slice A7 s7.xs.length c7)) (by omega))
 have B7a := V (B7.out.setCell (p := ⟨w.heap.size, 0, none⟩) (by show w.heap.size ≤ w.heap.size; omega) (.slice A7 s7.xs.length c7))
 clear P7 Z7 Y7 C7 B7
 have P7b := V (show Hold (((w7).setCell ⟨w.heap.size, 0, none⟩ (.slice A7 s7.xs.length c7)).setCell ⟨w.heap.size, 1, none⟩ (J U (s7.er : Int))) w.heap.size 119 [.slice A7 s7.xs.length c7,J U (s7.er : Int)] from P7a.out.put 1 (J U (s7.er : Int)))
 have Z7b := V (Z7a.out.bel (Bel.store ((w7).setCell ⟨w.heap.size, 0, none⟩ (.slice A7 s7.xs.length c7)) w.heap.size 1 (J U (s7.er : Int))) (by omega))
 have Y7b := V (Y7a.out.bel (Bel.store ((w7).setCell ⟨w.heap.size, 0, none⟩ (.slice A7 s7.xs.length c7)) w.heap.size 1 (J U (s7.er : Int))) (by omega))
 have C7b := V (C7a.out.bel (Bel.store ((w7).setCell ⟨w.heap.size, 0, none⟩ (.slice A7 s7.xs.length c7)) w.heap.size 1 (J U (s7.er : Int))) (by omega))
 have B7b := V (B7a.out.setCell (p := ⟨w.heap.size, 1, none⟩) (by show w.heap.size ≤ w.heap.size; omega) (J U (s7.er : Int)))
 clear P7a Z7a Y7a C7a B7a
 obtain ⟨wl, el⟩ : ∃ wl, wl = ((w7).setCell ⟨w.heap.size, 0, none⟩ (.slice A7 s7.xs.length c7)).setCell ⟨w.heap.size, 1, none⟩ (J U (s7.er : Int)) := ⟨_, rfl⟩
 have PL := V (el ▸ P7b.out)
 have ZL := V (el ▸ Z7b.out)
 have YL := V (el ▸ Y7b.out)
 have CL := V (el ▸ C7b.out)
 have BL := V (el ▸ B7b.out)
 clear P7b Z7b Y7b C7b B7b
 go_upto_block 0 with (fail)
 rw [← el]
 clear el za0 zb0 za1 zb1
 go_cut [] from 56 to 92 (fun wc => ∃ (rs : List (List UInt8 × Int × Int)) (va : Value) (s9 : P.Sr) (A9 : Option Addr) (c9 : Nat), Hold wc w.heap.size 119 [.slice A9 s9.xs.length c9,J U (s9.er : Int)] ∧ Hold wc (w.heap.size + 1) 119 [.slice none 0 0,J U 0] ∧ Hold wc (w.heap.size + 2) 63 [J U 0,J U 0,J U 0,J U 0,J U 0,J U 0,.slice none 0 0,.slice none 0 0,.bool false] ∧ Hold wc (w.heap.size + 3) 63 [encN a1, encN a2, encN a3, encN a4, encN a5, encN a6, va,.slice none 0 0,.bool false] ∧ wc.ownsRow (w.heap.size + 4) 113 3 va rs.length (rdsC rs) ∧ Below w.heap.size w wc ∧ Prt w0 (.agg #[.slice A9 s9.xs.length c9,J U (s9.er : Int)]) s9 ∧ P.Ran (P.rep P.rd n) s7 s9 rs ∧ rs.length ≤ 8 ∧ (∀ r ∈ rs, r.1.length ≤ 8))
 case first =>
  go_wp2
  go_loopw [6] (fun i wr => ∃ (k : Nat) (rs : List (List UInt8 × Int × Int)) (va : Value) (s9 : P.Sr) (A9 : Option Addr) (c9 : Nat), k ≤ n ∧ i = J U k ∧ rs.length = k ∧ Hold wr w.heap.size 119 [.slice A9 s9.xs.length c9,J U (s9.er : Int)] ∧ Hold wr (w.heap.size + 1) 119 [.slice none 0 0,J U 0] ∧ Hold wr (w.heap.size + 2) 63 [J U 0,J U 0,J U 0,J U 0,J U 0,J U 0,.slice none 0 0,.slice none 0 0,.bool false] ∧ Hold wr (w.heap.size + 3) 63 [encN a1, encN a2, encN a3, encN a4, encN a5, encN a6, va,.slice none 0 0,.bool false] ∧ wr.ownsRow (w.heap.size + 4) 113 3 va rs.length (rdsC rs) ∧ Below w.heap.size w wr ∧ Prt w0 (.agg #[.slice A9 s9.xs.length c9,J U (s9.er : Int)]) s9 ∧ P.Ran (P.rep P.rd k) s7 s9 rs ∧ (∀ r ∈ rs, r.1.length ≤ 8)) (fun i _ => n - (intOf i).toNat)
  case atStart => exact ⟨0, [],.slice none 0 0, s7, A7, c7, Nat.zero_le _, rfl, rfl, PL.out, ZL.out, YL.out, CL.out, World.ownsRow_nil _ _ _ _, BL.out, D7.out, P.Ran.ret _ _, fun r h => by cases h⟩
  case round =>
   obtain ⟨k, rs, va, s9, A9, c9, hk, rfl, hlen, hp, hz, hy, hc, hr1, hb, hd, hq, htn⟩ := hrel
   have P9 := V hp
   have Z9 := V hz
   have Y9 := V hy
   have C9 := V hc
   have B9 := V hb
   have D9 := V hd
   have HQ := V hq
   have HL := V hlen
   have HTN := V htn
   have I9 := V hr1
   have hwr : w.heap.size + 4 ≤ wr.heap.size := by have := C9.out.lt; omega
   have KI := V (fun q (e : va.ownBlock = some q) => World.ownsRow.lt I9.out q e)
   clear hp hz hy hc hb hd hq hlen htn hr1 PL ZL YL CL BL
   have p1 := P9.out.cell 1 rfl
   have p0 := P9.out.cell 0 rfl
   by_cases hgo : k < n ∧ s9.er = 0
   ·obtain ⟨hlt, he⟩ := hgo
    have q1 : ((s9.er : Int) == 0) = true := by rw [beq_iff_eq]; omega
    have hk9 : k < 9 := by have := N1.out; omega
    have hki : (k : Int) < (n : Int) := by omega
    have PX := V (P9.out.alloc (.cells #[.string ⟨#[]⟩,J U 0,J U 0] 113))
    have ZX := V (Z9.out.alloc (.cells #[.string ⟨#[]⟩,J U 0,J U 0] 113))
    have YX := V (Y9.out.alloc (.cells #[.string ⟨#[]⟩,J U 0,J U 0] 113))
    have CX := V (C9.out.alloc (.cells #[.string ⟨#[]⟩,J U 0,J U 0] 113))
    have IX := V (World.ownsRow.alloc I9.out (.cells #[.string ⟨#[]⟩,J U 0,J U 0] 113))
    have XX := V (Hold.new wr [.string ⟨#[]⟩,J U 0,J U 0] 113)
    have BX := V (below_new (o := .cells #[.string ⟨#[]⟩,J U 0,J U 0] 113) B9.out)
    have P9q := V P9.out
    clear P9 Z9 Y9 C9 I9 B9
    clear he p0 p1
    have p1 := P9q.out.cell 1 rfl
    have p0 := PX.out.cell 0 rfl
    have p2 := PX.out.cell 1 rfl
    go_wp2_with (with_reducible refine wpList_store_fresh rfl 113 _ _ rfl _ rfl 113 _ [.string ⟨#[]⟩,J U 0,J U 0] rfl rfl rfl (by kernel_rfl) rfl ?_)
    refine (text_doc (HW.out.trans (BX.out.mono HW.out.size)) D9.out).mono ?_
    rintro e w21 ⟨s21, kt, x21, rfl, hkt, hx, hb, hp⟩
    obtain ⟨A21, c21, rfl, hq⟩ := hx
    have D21 := V (show Prt w0 _ s21 from ⟨A21, c21, rfl, hq⟩)
    clear hq
    have P21 := V (PX.out.on hb)
    have Z21 := V (ZX.out.on hb)
    have Y21 := V (YX.out.on hb)
    have C21 := V (CX.out.on hb)
    have X21 := V (XX.out.on hb)
    have I21 := V (ownsRow_bel (g := 0) IX.out (Bel.of hb) (by omega))
    have B21 := V (below_on BX.out hb)
    have G1 := V hp
    have GK := V hkt
    clear hb hp hkt
    clear PX ZX YX CX XX IX BX
    clear p0 p1 p2 q1 P9q
    have za0 := P21.out.cell 0 rfl
    have zb0 := P21.out.soft 0
    have za1 := P21.out.cell 1 rfl
    have zb1 := P21.out.soft 1
    have za2 := X21.out.cell 0 rfl
    have zb2 := X21.out.soft 0
    have P21a := V (show Hold ((w21).setCell ⟨w.heap.size, 0, none⟩ (.slice A21 s21.xs.length c21)) w.heap.size 119 [.slice A21 s21.xs.length c21,J U (s9.er : Int)] from P21.out.put 0 (.slice A21 s21.xs.length c21))
    have Z21a := V (Z21.out.bel (Bel.store (w21) w.heap.size 0 (.slice A21 s21.xs.length c21)) (by omega))
    have Y21a := V (Y21.out.bel (Bel.store (w21) w.heap.size 0 (.slice A21 s21.xs.length c21)) (by omega))
    have C21a := V (C21.out.bel (Bel.store (w21) w.heap.size 0 (.slice A21 s21.xs.length c21)) (by omega))
    have X21a := V (X21.out.bel (Bel.store (w21) w.heap.size 0 (.slice A21 s21.xs.length c21)) (by omega))
    have I21a := V (ownsRow_put I21.out w.heap.size 0 (.slice A21 s21.xs.length c21) (fun q e => by have := KI.out q e; omega))
    have B21a := V (B21.out.setCell (p := ⟨w.heap.size, 0, none⟩) (by show w.heap.size ≤ w.heap.size; omega) (.slice A21 s21.xs.length c21))
    clear P21 Z21 Y21 C21 X21 I21 B21
    have P21b := V (show Hold (((w21).setCell ⟨w.heap.size, 0, none⟩ (.slice A21 s21.xs.length c21)).setCell ⟨w.heap.size, 1, none⟩ (J U (s21.er : Int))) w.heap.size 119 [.slice A21 s21.xs.length c21,J U (s21.er : Int)] from P21a.out.put 1 (J U (s21.er : Int)))
    have Z21b := V (Z21a.out.bel (Bel.store ((w21).setCell ⟨w.heap.size, 0, none⟩ (.slice A21 s21.xs.length c21)) w.heap.size 1 (J U (s21.er : Int))) (by omega))
    have Y21b := V (Y21a.out.bel (Bel.store ((w21).setCell ⟨w.heap.size, 0, none⟩ (.slice A21 s21.xs.length c21)) w.heap.size 1 (J U (s21.er : Int))) (by omega))
    have C21b := V (C21a.out.bel (Bel.store ((w21).setCell ⟨w.heap.size, 0, none⟩ (.slice A21 s21.xs.length c21)) w.heap.size 1 (J U (s21.er : Int))) (by omega))
    have X21b := V (X21a.out.bel (Bel.store ((w21).setCell ⟨w.heap.size, 0, none⟩ (.slice A21 s21.xs.length c21)) w.heap.size 1 (J U (s21.er : Int))) (by omega))
    have I21b := V (ownsRow_put I21a.out w.heap.size 1 (J U (s21.er : Int)) (fun q e => by have := KI.out q e; omega))
    have B21b := V (B21a.out.setCell (p := ⟨w.heap.size, 1, none⟩) (by show w.heap.size ≤ w.heap.size; omega) (J U (s21.er : Int)))
    clear P21a Z21a Y21a C21a X21a I21a B21a
    have P21c := V (P21b.out.bel (Bel.store (((w21).setCell ⟨w.heap.size, 0, none⟩ (.slice A21 s21.xs.length c21)).setCell ⟨w.heap.size, 1, none⟩ (J U (s21.er : Int))) wr.heap.size 0 (encT kt)) (by omega))
    have Z21c := V (Z21b.out.bel (Bel.store (((w21).setCell ⟨w.heap.size, 0, none⟩ (.slice A21 s21.xs.length c21)).setCell ⟨w.heap.size, 1, none⟩ (J U (s21.er : Int))) wr.heap.size 0 (encT kt)) (by omega))
    have Y21c := V (Y21b.out.bel (Bel.store (((w21).setCell ⟨w.heap.size, 0, none⟩ (.slice A21 s21.xs.length c21)).setCell ⟨w.heap.size, 1, none⟩ (J U (s21.er : Int))) wr.heap.size 0 (encT kt)) (by omega))
    have C21c := V (C21b.out.bel (Bel.store (((w21).setCell ⟨w.heap.size, 0, none⟩ (.slice A21 s21.xs.length c21)).setCell ⟨w.heap.size, 1, none⟩ (J U (s21.er : Int))) wr.heap.size 0 (encT kt)) (by omega))
    have X21c := V (show Hold ((((w21).setCell ⟨w.heap.size, 0, none⟩ (.slice A21 s21.xs.length c21)).setCell ⟨w.heap.size, 1, none⟩ (J U (s21.er : Int))).setCell ⟨wr.heap.size, 0, none⟩ (encT kt)) wr.heap.size 113 [encT kt,J U 0,J U 0] from X21b.out.put 0 (encT kt))
    have I21c := V (ownsRow_put I21b.out wr.heap.size 0 (encT kt) (fun q e => by have := KI.out q e; omega))
    have B21c := V (B21b.out.setCell (p := ⟨wr.heap.size, 0, none⟩) (by show w.heap.size ≤ wr.heap.size; omega) (encT kt))
    clear P21b Z21b Y21b C21b X21b I21b B21b
    go_wp2_with (fail)
    refine (number_doc (HW.out.trans (B21c.out.mono HW.out.size)) D21.out).mono ?_
    rintro e w22 ⟨s22, gt, x22, rfl, -, hx, hb, hp⟩
    obtain ⟨A22, c22, rfl, hq⟩ := hx
    have D22 := V (show Prt w0 _ s22 from ⟨A22, c22, rfl, hq⟩)
    clear hq
    have P22 := V (P21c.out.on hb)
    have Z22 := V (Z21c.out.on hb)
    have Y22 := V (Y21c.out.on hb)
    have C22 := V (C21c.out.on hb)
    have X22 := V (X21c.out.on hb)
    have I22 := V (ownsRow_bel (g := 0) I21c.out (Bel.of hb) (by omega))
    have B22 := V (below_on B21c.out hb)
    have Hgt := V hp
    clear hb hp
    clear P21c Z21c Y21c C21c X21c I21c B21c
    clear za0 zb0 za1 zb1 za2 zb2
    have za0 := P22.out.cell 0 rfl
    have zb0 := P22.out.soft 0
    have za1 := P22.out.cell 1 rfl
    have zb1 := P22.out.soft 1
    have za2 := X22.out.cell 1 rfl
    have zb2 := X22.out.soft 1
    have P22a := V (show Hold ((w22).setCell ⟨w.heap.size, 0, none⟩ (.slice A22 s22.xs.length c22)) w.heap.size 119 [.slice A22 s22.xs.length c22,J U (s21.er : Int)] from P22.out.put 0 (.slice A22 s22.xs.length c22))
    have Z22a := V (Z22.out.bel (Bel.store (w22) w.heap.size 0 (.slice A22 s22.xs.length c22)) (by omega))
    have Y22a := V (Y22.out.bel (Bel.store (w22) w.heap.size 0 (.slice A22 s22.xs.length c22)) (by omega))
    have C22a := V (C22.out.bel (Bel.store (w22) w.heap.size 0 (.slice A22 s22.xs.length c22)) (by omega))
    have X22a := V (X22.out.bel (Bel.store (w22) w.heap.size 0 (.slice A22 s22.xs.length c22)) (by omega))
    have I22a := V (ownsRow_put I22.out w.heap.size 0 (.slice A22 s22.xs.length c22) (fun q e => by have := KI.out q e; omega))
    have B22a := V (B22.out.setCell (p := ⟨w.heap.size, 0, none⟩) (by show w.heap.size ≤ w.heap.size; omega) (.slice A22 s22.xs.length c22))
    clear P22 Z22 Y22 C22 X22 I22 B22
    have P22b := V (show Hold (((w22).setCell ⟨w.heap.size, 0, none⟩ (.slice A22 s22.xs.length c22)).setCell ⟨w.heap.size, 1, none⟩ (J U (s22.er : Int))) w.heap.size 119 [.slice A22 s22.xs.length c22,J U (s22.er : Int)] from P22a.out.put 1 (J U (s22.er : Int)))
    have Z22b := V (Z22a.out.bel (Bel.store ((w22).setCell ⟨w.heap.size, 0, none⟩ (.slice A22 s22.xs.length c22)) w.heap.size 1 (J U (s22.er : Int))) (by omega))
    have Y22b := V (Y22a.out.bel (Bel.store ((w22).setCell ⟨w.heap.size, 0, none⟩ (.slice A22 s22.xs.length c22)) w.heap.size 1 (J U (s22.er : Int))) (by omega))
    have C22b := V (C22a.out.bel (Bel.store ((w22).setCell ⟨w.heap.size, 0, none⟩ (.slice A22 s22.xs.length c22)) w.heap.size 1 (J U (s22.er : Int))) (by omega))
    have X22b := V (X22a.out.bel (Bel.store ((w22).setCell ⟨w.heap.size, 0, none⟩ (.slice A22 s22.xs.length c22)) w.heap.size 1 (J U (s22.er : Int))) (by omega))
    have I22b := V (ownsRow_put I22a.out w.heap.size 1 (J U (s22.er : Int)) (fun q e => by have := KI.out q e; omega))
    have B22b := V (B22a.out.setCell (p := ⟨w.heap.size, 1, none⟩) (by show w.heap.size ≤ w.heap.size; omega) (J U (s22.er : Int)))
    clear P22a Z22a Y22a C22a X22a I22a B22a
    have P22c := V (P22b.out.bel (Bel.store (((w22).setCell ⟨w.heap.size, 0, none⟩ (.slice A22 s22.xs.length c22)).setCell ⟨w.heap.size, 1, none⟩ (J U (s22.er : Int))) wr.heap.size 1 (encN gt)) (by omega))
    have Z22c := V (Z22b.out.bel (Bel.store (((w22).setCell ⟨w.heap.size, 0, none⟩ (.slice A22 s22.xs.length c22)).setCell ⟨w.heap.size, 1, none⟩ (J U (s22.er : Int))) wr.heap.size 1 (encN gt)) (by omega))
    have Y22c := V (Y22b.out.bel (Bel.store (((w22).setCell ⟨w.heap.size, 0, none⟩ (.slice A22 s22.xs.length c22)).setCell ⟨w.heap.size, 1, none⟩ (J U (s22.er : Int))) wr.heap.size 1 (encN gt)) (by omega))
    have C22c := V (C22b.out.bel (Bel.store (((w22).setCell ⟨w.heap.size, 0, none⟩ (.slice A22 s22.xs.length c22)).setCell ⟨w.heap.size, 1, none⟩ (J U (s22.er : Int))) wr.heap.size 1 (encN gt)) (by omega))
    have X22c := V (show Hold ((((w22).setCell ⟨w.heap.size, 0, none⟩ (.slice A22 s22.xs.length c22)).setCell ⟨w.heap.size, 1, none⟩ (J U (s22.er : Int))).setCell ⟨wr.heap.size, 1, none⟩ (encN gt)) wr.heap.size 113 [encT kt, encN gt,J U 0] from X22b.out.put 1 (encN gt))
    have I22c := V (ownsRow_put I22b.out wr.heap.size 1 (encN gt) (fun q e => by have := KI.out q e; omega))
    have B22c := V (B22b.out.setCell (p := ⟨wr.heap.size, 1, none⟩) (by show w.heap.size ≤ wr.heap.size; omega) (encN gt))
    clear P22b Z22b Y22b C22b X22b I22b B22b
    go_wp2_with (fail)
    refine (number_doc (HW.out.trans (B22c.out.mono HW.out.size)) D22.out).mono ?_
    rintro e w23 ⟨s23, gk, x23, rfl, -, hx, hb, hp⟩
    obtain ⟨A23, c23, rfl, hq⟩ := hx
    have D23 := V (show Prt w0 _ s23 from ⟨A23, c23, rfl, hq⟩)
    clear hq
    have P23 := V (P22c.out.on hb)
    have Z23 := V (Z22c.out.on hb)
    have Y23 := V (Y22c.out.on hb)
    have C23 := V (C22c.out.on hb)
    have X23 := V (X22c.out.on hb)
    have I23 := V (ownsRow_bel (g := 0) I22c.out (Bel.of hb) (by omega))
    have B23 := V (below_on B22c.out hb)
    have Hgk := V hp
    clear hb hp
    clear P22c Z22c Y22c C22c X22c I22c B22c
    clear za0 zb0 za1 zb1 za2 zb2
    have za0 := P23.out.cell 0 rfl
    have zb0 := P23.out.soft 0
    have za1 := P23.out.cell 1 rfl
    have zb1 := P23.out.soft 1
    have za2 := X23.out.cell 2 rfl
    have zb2 := X23.out.soft 2
    have P23a := V (show Hold ((w23).setCell ⟨w.heap.size, 0, none⟩ (.slice A23 s23.xs.length c23)) w.heap.size 119 [.slice A23 s23.xs.length c23,J U (s22.er : Int)] from P23.out.put 0 (.slice A23 s23.xs.length c23))
    have Z23a := V (Z23.out.bel (Bel.store (w23) w.heap.size 0 (.slice A23 s23.xs.length c23)) (by omega))
    have Y23a := V (Y23.out.bel (Bel.store (w23) w.heap.size 0 (.slice A23 s23.xs.length c23)) (by omega))
    have C23a := V (C23.out.bel (Bel.store (w23) w.heap.size 0 (.slice A23 s23.xs.length c23)) (by omega))
    have X23a := V (X23.out.bel (Bel.store (w23) w.heap.size 0 (.slice A23 s23.xs.length c23)) (by omega))
    have I23a := V (ownsRow_put I23.out w.heap.size 0 (.slice A23 s23.xs.length c23) (fun q e => by have := KI.out q e; omega))
    have B23a := V (B23.out.setCell (p := ⟨w.heap.size, 0, none⟩) (by show w.heap.size ≤ w.heap.size; omega) (.slice A23 s23.xs.length c23))
    clear P23 Z23 Y23 C23 X23 I23 B23
    have P23b := V (show Hold (((w23).setCell ⟨w.heap.size, 0, none⟩ (.slice A23 s23.xs.length c23)).setCell ⟨w.heap.size, 1, none⟩ (J U (s23.er : Int))) w.heap.size 119 [.slice A23 s23.xs.length c23,J U (s23.er : Int)] from P23a.out.put 1 (J U (s23.er : Int)))
    have Z23b := V (Z23a.out.bel (Bel.store ((w23).setCell ⟨w.heap.size, 0, none⟩ (.slice A23 s23.xs.length c23)) w.heap.size 1 (J U (s23.er : Int))) (by omega))
    have Y23b := V (Y23a.out.bel (Bel.store ((w23).setCell ⟨w.heap.size, 0, none⟩ (.slice A23 s23.xs.length c23)) w.heap.size 1 (J U (s23.er : Int))) (by omega))
    have C23b := V (C23a.out.bel (Bel.store ((w23).setCell ⟨w.heap.size, 0, none⟩ (.slice A23 s23.xs.length c23)) w.heap.size 1 (J U (s23.er : Int))) (by omega))
    have X23b := V (X23a.out.bel (Bel.store ((w23).setCell ⟨w.heap.size, 0, none⟩ (.slice A23 s23.xs.length c23)) w.heap.size 1 (J U (s23.er : Int))) (by omega))
    have I23b := V (ownsRow_put I23a.out w.heap.size 1 (J U (s23.er : Int)) (fun q e => by have := KI.out q e; omega))
    have B23b := V (B23a.out.setCell (p := ⟨w.heap.size, 1, none⟩) (by show w.heap.size ≤ w.heap.size; omega) (J U (s23.er : Int)))
    clear P23a Z23a Y23a C23a X23a I23a B23a
    have P23c := V (P23b.out.bel (Bel.store (((w23).setCell ⟨w.heap.size, 0, none⟩ (.slice A23 s23.xs.length c23)).setCell ⟨w.heap.size, 1, none⟩ (J U (s23.er : Int))) wr.heap.size 2 (encN gk)) (by omega))
    have Z23c := V (Z23b.out.bel (Bel.store (((w23).setCell ⟨w.heap.size, 0, none⟩ (.slice A23 s23.xs.length c23)).setCell ⟨w.heap.size, 1, none⟩ (J U (s23.er : Int))) wr.heap.size 2 (encN gk)) (by omega))
    have Y23c := V (Y23b.out.bel (Bel.store (((w23).setCell ⟨w.heap.size, 0, none⟩ (.slice A23 s23.xs.length c23)).setCell ⟨w.heap.size, 1, none⟩ (J U (s23.er : Int))) wr.heap.size 2 (encN gk)) (by omega))
    have C23c := V (C23b.out.bel (Bel.store (((w23).setCell ⟨w.heap.size, 0, none⟩ (.slice A23 s23.xs.length c23)).setCell ⟨w.heap.size, 1, none⟩ (J U (s23.er : Int))) wr.heap.size 2 (encN gk)) (by omega))
    have X23c := V (show Hold ((((w23).setCell ⟨w.heap.size, 0, none⟩ (.slice A23 s23.xs.length c23)).setCell ⟨w.heap.size, 1, none⟩ (J U (s23.er : Int))).setCell ⟨wr.heap.size, 2, none⟩ (encN gk)) wr.heap.size 113 [encT kt, encN gt, encN gk] from X23b.out.put 2 (encN gk))
    have I23c := V (ownsRow_put I23b.out wr.heap.size 2 (encN gk) (fun q e => by have := KI.out q e; omega))
    have B23c := V (B23b.out.setCell (p := ⟨wr.heap.size, 2, none⟩) (by show w.heap.size ≤ wr.heap.size; omega) (encN gk))
    clear P23b Z23b Y23b C23b X23b I23b B23b
    have cq6 := C23c.out.cell 6 rfl
    have xx0 := X23c.out.cell 0 rfl
    have xx1 := X23c.out.cell 1 rfl
    have xx2 := X23c.out.cell 2 rfl
    have hsz : ((((w23).setCell ⟨w.heap.size, 0, none⟩ (.slice A23 s23.xs.length c23)).setCell ⟨w.heap.size, 1, none⟩ (J U (s23.er : Int))).setCell ⟨wr.heap.size, 2, none⟩ (encN gk)).heap.size = w23.heap.size := by simp
    obtain ⟨v', w', hrun, hown, hgrow⟩ := app_rd I23c.out (kt, (gt : Int), (gk : Int)) (by have := HL.out; have := N1.out; omega) (by have := C23c.out.lt; omega)
    rw [hsz] at hrun
    have hge : ∀ q, va.ownBlock = some q → w.heap.size + 4 ≤ q := fun q e => (KI.out q e).1
    have PG := V (Hold.grow (P23c.out.alloc (.cells (rdC (kt, (gt : Int), (gk : Int))).toArray 113)) hgrow (fun q e => by have := hge q e; omega))
    have ZG := V (Hold.grow (Z23c.out.alloc (.cells (rdC (kt, (gt : Int), (gk : Int))).toArray 113)) hgrow (fun q e => by have := hge q e; omega))
    have YG := V (Hold.grow (Y23c.out.alloc (.cells (rdC (kt, (gt : Int), (gk : Int))).toArray 113)) hgrow (fun q e => by have := hge q e; omega))
    have CG := V (Hold.grow (C23c.out.alloc (.cells (rdC (kt, (gt : Int), (gk : Int))).toArray 113)) hgrow (fun q e => by have := hge q e; omega))
    have BG := V ((below_new (o := .cells (rdC (kt, (gt : Int), (gk : Int))).toArray 113) B23c.out).grown hgrow (by have := B23c.out.size; simp at this ⊢; omega) (fun q e => by have := hge q e; omega))
    obtain ⟨A3, k3, hv3⟩ := ownsRow_slice hown
    rw [List.length_append, List.length_singleton] at hv3
    subst hv3
    have OG := V hown
    clear hown hgrow
    have cg := CG.out.cell 6 rfl
    have fg := CG.out.soft 6
    have PE := V (PG.out.bel (Bel.store w' (w.heap.size + 3) 6 (.slice A3 (rs.length + 1) k3)) (by omega))
    have ZE := V (ZG.out.bel (Bel.store w' (w.heap.size + 3) 6 (.slice A3 (rs.length + 1) k3)) (by omega))
    have YE := V (YG.out.bel (Bel.store w' (w.heap.size + 3) 6 (.slice A3 (rs.length + 1) k3)) (by omega))
    have CE := V (show Hold (w'.setCell ⟨w.heap.size + 3, 6, none⟩ (.slice A3 (rs.length + 1) k3)) (w.heap.size + 3) 63 [encN a1, encN a2, encN a3, encN a4, encN a5, encN a6,.slice A3 (rs.length + 1) k3,.slice none 0 0,.bool false] from CG.out.put 6 (.slice A3 (rs.length + 1) k3))
    have OE := V (ownsRow_bel OG.out (Bel.store w' (w.heap.size + 3) 6 (.slice A3 (rs.length + 1) k3)) (by omega))
    have BE := V (BG.out.setCell (p := ⟨w.heap.size + 3, 6, none⟩) (by show w.heap.size ≤ w.heap.size + 3; omega) (.slice A3 (rs.length + 1) k3))
    have DE := V D23.out
    clear P23c Z23c Y23c C23c X23c I23c B23c
    go_wp2_with (at_builtin; refine Lib.wpList_append_run _ rfl _ _ _ _ rfl _ _ rfl rfl _ _ hrun ?_)
    go_roundw
    case rel => exact ⟨k + 1, rs ++ [(kt, (gt : Int), (gk : Int))],.slice A3 (rs.length + 1) k3, s23, A23, c23, by omega, by go_num, by rw [List.length_append, HL.out]; rfl, PE.out, ZE.out, YE.out, CE.out, OE.out, BE.out, DE.out, P.Ran.snoc P.errs_rd HQ.out (P.Ran.bind P.errs_text G1.out (P.Ran.bind P.errs_num Hgt.out (P.Ran.bind P.errs_num Hgk.out (P.Ran.ret _ _)))), fun r hr => by
     rcases List.mem_append.1 hr with h | h
     ·exact HTN.out r h
     ·rw [List.mem_singleton.1 h]; exact GK.out⟩
    case measure => simp [intOf]; omega
   ·by_cases hlt : k < n
    ·have he : s9.er ≠ 0 := fun he => hgo ⟨hlt, he⟩
     have HE := V he
     have hki : (k : Int) < (n : Int) := by omega
     have q1 : ((s9.er : Int) == 0) = false := by rw [beq_eq_false_iff_ne]; omega
     have HKN := V (Nat.le_of_lt hlt)
     clear hgo he
     go_wp2
     go_meet
     case rel => exact ⟨rs, va, s9, A9, c9, P9.out, Z9.out, Y9.out, C9.out, I9.out, B9.out, D9.out, P.Ran.rep_early HKN.out HQ.out HE.out rs, by have := HL.out; have := N1.out; omega, HTN.out⟩
    ·obtain rfl : k = n := by omega
     clear hgo
     go_wp2
     go_meet
     case rel => exact ⟨rs, va, s9, A9, c9, P9.out, Z9.out, Y9.out, C9.out, I9.out, B9.out, D9.out, HQ.out, by have := HL.out; have := N1.out; omega, HTN.out⟩
 case rest =>
  obtain ⟨rs, va, s8q, A8q, c8q, hp, hz, hy, hc, hr1, hb, hd, hq, hl, htn⟩ := hcut
  have PQ := V hp
  have ZQ := V hz
  have YQ := V hy
  have CQ := V hc
  have BQ := V hb
  have DQ := V hd
  have HRQ := V hq
  have HMQ := V hl
  have HTQ := V htn
  have IQ := V hr1
  clear hp hz hy hc hb hd hq hl htn hr1
  clear PL ZL YL CL BL
  have KQ := V (fun q (e : va.ownBlock = some q) => World.ownsRow.lt IQ.out q e)
  have p0 := PQ.out.cell 0 rfl
  have p1 := PQ.out.cell 1 rfl
  go_wp2_with (fail)
  refine (few_doc (HW.out.trans (BQ.out.mono HW.out.size)) DQ.out).mono ?_
  rintro e w8 ⟨s8, m, x8, rfl, ⟨hn, -⟩, hx, hb, hp⟩
  obtain ⟨A8, c8, rfl, hq⟩ := hx
  have D8 := V (show Prt w0 _ s8 from ⟨A8, c8, rfl, hq⟩)
  clear hq
  have P8 := V (PQ.out.on hb)
  have Z8 := V (ZQ.out.on hb)
  have Y8 := V (YQ.out.on hb)
  have C8 := V (CQ.out.on hb)
  have I8 := V (ownsRow_bel (g := 0) IQ.out (Bel.of hb) (by omega))
  have B8 := V (below_on BQ.out hb)
  have H8 := V hp
  have N2 := V hn
  clear hb hp hn
  clear PQ ZQ YQ CQ IQ BQ
  clear p0 p1
  have za0 := P8.out.cell 0 rfl
  have zb0 := P8.out.soft 0
  have za1 := P8.out.cell 1 rfl
  have zb1 := P8.out.soft 1
  have P8a := V (show Hold ((w8).setCell ⟨w.heap.size, 0, none⟩ (.slice A8 s8.xs.length c8)) w.heap.size 119 [.slice A8 s8.xs.length c8,J U (s8q.er : Int)] from P8.out.put 0 (.slice A8 s8.xs.length c8))
  have Z8a := V (Z8.out.bel (Bel.store (w8) w.heap.size 0 (.slice A8 s8.xs.length c8)) (by omega))
  have Y8a := V (Y8.out.bel (Bel.store (w8) w.heap.size 0 (.slice A8 s8.xs.length c8)) (by omega))
  have C8a := V (C8.out.bel (Bel.store (w8) w.heap.size 0 (.slice A8 s8.xs.length c8)) (by omega))
  have I8a := V (ownsRow_put I8.out w.heap.size 0 (.slice A8 s8.xs.length c8) (fun q e => by have := KQ.out q e; omega))
  have B8a := V (B8.out.setCell (p := ⟨w.heap.size, 0, none⟩) (by show w.heap.size ≤ w.heap.size; omega) (.slice A8 s8.xs.length c8))
  clear P8 Z8 Y8 C8 I8 B8
  have P8b := V (show Hold (((w8).setCell ⟨w.heap.size, 0, none⟩ (.slice A8 s8.xs.length c8)).setCell ⟨w.heap.size, 1, none⟩ (J U (s8.er : Int))) w.heap.size 119 [.slice A8 s8.xs.length c8,J U (s8.er : Int)] from P8a.out.put 1 (J U (s8.er : Int)))
  have Z8b := V (Z8a.out.bel (Bel.store ((w8).setCell ⟨w.heap.size, 0, none⟩ (.slice A8 s8.xs.length c8)) w.heap.size 1 (J U (s8.er : Int))) (by omega))
  have Y8b := V (Y8a.out.bel (Bel.store ((w8).setCell ⟨w.heap.size, 0, none⟩ (.slice A8 s8.xs.length c8)) w.heap.size 1 (J U (s8.er : Int))) (by omega))
  have C8b := V (C8a.out.bel (Bel.store ((w8).setCell ⟨w.heap.size, 0, none⟩ (.slice A8 s8.xs.length c8)) w.heap.size 1 (J U (s8.er : Int))) (by omega))
  have I8b := V (ownsRow_put I8a.out w.heap.size 1 (J U (s8.er : Int)) (fun q e => by have := KQ.out q e; omega))
  have B8b := V (B8a.out.setCell (p := ⟨w.heap.size, 1, none⟩) (by show w.heap.size ≤ w.heap.size; omega) (J U (s8.er : Int)))
  clear P8a Z8a Y8a C8a I8a B8a
  obtain ⟨wl, el⟩ : ∃ wl, wl = ((w8).setCell ⟨w.heap.size, 0, none⟩ (.slice A8 s8.xs.length c8)).setCell ⟨w.heap.size, 1, none⟩ (J U (s8.er : Int)) := ⟨_, rfl⟩
  have PL := V (el ▸ P8b.out)
  have ZL := V (el ▸ Z8b.out)
  have YL := V (el ▸ Y8b.out)
  have CL := V (el ▸ C8b.out)
  have IL := V (el ▸ I8b.out)
  have BL := V (el ▸ B8b.out)
  clear P8b Z8b Y8b C8b I8b B8b
  go_upto_block 2 with (fail)
  rw [← el]
  clear el za0 zb0 za1 zb1
  go_cut [] from 98 to 126 (fun wc => ∃ (ws : List (List UInt8 × List UInt8)) (vb : Value) (s9 : P.Sr) (A9 : Option Addr) (c9 : Nat), Hold wc w.heap.size 119 [.slice A9 s9.xs.length c9,J U (s9.er : Int)] ∧ Hold wc (w.heap.size + 1) 119 [.slice none 0 0,J U 0] ∧ Hold wc (w.heap.size + 2) 63 [J U 0,J U 0,J U 0,J U 0,J U 0,J U 0,.slice none 0 0,.slice none 0 0,.bool false] ∧ Hold wc (w.heap.size + 3) 63 [encN a1, encN a2, encN a3, encN a4, encN a5, encN a6, va, vb,.bool false] ∧ wc.ownsRow (w.heap.size + 4) 113 3 va rs.length (rdsC rs) ∧ wc.ownsRow (w.heap.size + 4) 115 2 vb ws.length (wrsC ws) ∧ Below w.heap.size w wc ∧ Prt w0 (.agg #[.slice A9 s9.xs.length c9,J U (s9.er : Int)]) s9 ∧ P.Ran (P.rep P.wr m) s8 s9 ws ∧ ws.length ≤ 8 ∧ (∀ r ∈ ws, r.1.length ≤ 8 ∧ r.2.length ≤ 8))
  case first =>
   go_wp2
   go_loopw [8] (fun i wr => ∃ (k : Nat) (ws : List (List UInt8 × List UInt8)) (vb : Value) (s9 : P.Sr) (A9 : Option Addr) (c9 : Nat), k ≤ m ∧ i = J U k ∧ ws.length = k ∧ Hold wr w.heap.size 119 [.slice A9 s9.xs.length c9,J U (s9.er : Int)] ∧ Hold wr (w.heap.size + 1) 119 [.slice none 0 0,J U 0] ∧ Hold wr (w.heap.size + 2) 63 [J U 0,J U 0,J U 0,J U 0,J U 0,J U 0,.slice none 0 0,.slice none 0 0,.bool false] ∧ Hold wr (w.heap.size + 3) 63 [encN a1, encN a2, encN a3, encN a4, encN a5, encN a6, va, vb,.bool false] ∧ wr.ownsRow (w.heap.size + 4) 113 3 va rs.length (rdsC rs) ∧ wr.ownsRow (w.heap.size + 4) 115 2 vb ws.length (wrsC ws) ∧ Below w.heap.size w wr ∧ Prt w0 (.agg #[.slice A9 s9.xs.length c9,J U (s9.er : Int)]) s9 ∧ P.Ran (P.rep P.wr k) s8 s9 ws ∧ (∀ r ∈ ws, r.1.length ≤ 8 ∧ r.2.length ≤ 8)) (fun i _ => m - (intOf i).toNat)
   case atStart => exact ⟨0, [],.slice none 0 0, s8, A8, c8, Nat.zero_le _, rfl, rfl, PL.out, ZL.out, YL.out, CL.out, IL.out, World.ownsRow_nil _ _ _ _, BL.out, D8.out, P.Ran.ret _ _, fun r h => by cases h⟩
   case round =>
    obtain ⟨k, ws, vb, s9, A9, c9, hk, rfl, hlen, hp, hz, hy, hc, hr1, hr2, hb, hd, hq, htn⟩ := hrel
    have P9 := V hp
    have Z9 := V hz
    have Y9 := V hy
    have C9 := V hc
    have B9 := V hb
    have D9 := V hd
    have HQ := V hq
    have HL := V hlen
    have HTN := V htn
    have I9 := V hr1
    have J9 := V hr2
    have hwr : w.heap.size + 4 ≤ wr.heap.size := by have := C9.out.lt; omega
    have KI := V (fun q (e : va.ownBlock = some q) => World.ownsRow.lt I9.out q e)
    have KJ := V (fun q (e : vb.ownBlock = some q) => World.ownsRow.lt J9.out q e)
    clear hp hz hy hc hb hd hq hlen htn hr1 hr2 IL PL ZL YL CL BL
    have p1 := P9.out.cell 1 rfl
    have p0 := P9.out.cell 0 rfl
    by_cases hgo : k < m ∧ s9.er = 0
    ·obtain ⟨hlt, he⟩ := hgo
     have q1 : ((s9.er : Int) == 0) = true := by rw [beq_iff_eq]; omega
     have hk9 : k < 9 := by have := N2.out; omega
     have hki : (k : Int) < (m : Int) := by omega
     have PX := V (P9.out.alloc (.cells #[.string ⟨#[]⟩,.string ⟨#[]⟩] 115))
     have ZX := V (Z9.out.alloc (.cells #[.string ⟨#[]⟩,.string ⟨#[]⟩] 115))
     have YX := V (Y9.out.alloc (.cells #[.string ⟨#[]⟩,.string ⟨#[]⟩] 115))
     have CX := V (C9.out.alloc (.cells #[.string ⟨#[]⟩,.string ⟨#[]⟩] 115))
     have IX := V (World.ownsRow.alloc I9.out (.cells #[.string ⟨#[]⟩,.string ⟨#[]⟩] 115))
     have JX := V (World.ownsRow.alloc J9.out (.cells #[.string ⟨#[]⟩,.string ⟨#[]⟩] 115))
     have XX := V (Hold.new wr [.string ⟨#[]⟩,.string ⟨#[]⟩] 115)
     have BX := V (below_new (o := .cells #[.string ⟨#[]⟩,.string ⟨#[]⟩] 115) B9.out)
     have P9q := V P9.out
     clear P9 Z9 Y9 C9 I9 J9 B9
     clear he p0 p1
     have p1 := P9q.out.cell 1 rfl
     have p0 := PX.out.cell 0 rfl
     have p2 := PX.out.cell 1 rfl
     go_wp2_with (with_reducible refine wpList_store_fresh rfl 115 _ _ rfl _ rfl 115 _ [.string ⟨#[]⟩,.string ⟨#[]⟩] rfl rfl rfl (by kernel_rfl) rfl ?_)
     refine (text_doc (HW.out.trans (BX.out.mono HW.out.size)) D9.out).mono ?_
     rintro e w21 ⟨s21, kt, x21, rfl, hkt, hx, hb, hp⟩
     obtain ⟨A21, c21, rfl, hq⟩ := hx
     have D21 := V (show Prt w0 _ s21 from ⟨A21, c21, rfl, hq⟩)
     clear hq
     have P21 := V (PX.out.on hb)
     have Z21 := V (ZX.out.on hb)
     have Y21 := V (YX.out.on hb)
     have C21 := V (CX.out.on hb)
     have X21 := V (XX.out.on hb)
     have I21 := V (ownsRow_bel (g := 0) IX.out (Bel.of hb) (by omega))
     have J21 := V (ownsRow_bel (g := 0) JX.out (Bel.of hb) (by omega))
     have B21 := V (below_on BX.out hb)
     have G1 := V hp
     have GK := V hkt
     clear hb hp hkt
     clear PX ZX YX CX XX IX JX BX
     clear p0 p1 p2 q1 P9q
     have za0 := P21.out.cell 0 rfl
     have zb0 := P21.out.soft 0
     have za1 := P21.out.cell 1 rfl
     have zb1 := P21.out.soft 1
     have za2 := X21.out.cell 0 rfl
     have zb2 := X21.out.soft 0
     have P21a := V (show Hold ((w21).setCell ⟨w.heap.size, 0, none⟩ (.slice A21 s21.xs.length c21)) w.heap.size 119 [.slice A21 s21.xs.length c21,J U (s9.er : Int)] from P21.out.put 0 (.slice A21 s21.xs.length c21))
     have Z21a := V (Z21.out.bel (Bel.store (w21) w.heap.size 0 (.slice A21 s21.xs.length c21)) (by omega))
     have Y21a := V (Y21.out.bel (Bel.store (w21) w.heap.size 0 (.slice A21 s21.xs.length c21)) (by omega))
     have C21a := V (C21.out.bel (Bel.store (w21) w.heap.size 0 (.slice A21 s21.xs.length c21)) (by omega))
     have X21a := V (X21.out.bel (Bel.store (w21) w.heap.size 0 (.slice A21 s21.xs.length c21)) (by omega))
     have I21a := V (ownsRow_put I21.out w.heap.size 0 (.slice A21 s21.xs.length c21) (fun q e => by have := KI.out q e; omega))
     have J21a := V (ownsRow_put J21.out w.heap.size 0 (.slice A21 s21.xs.length c21) (fun q e => by have := KJ.out q e; omega))
     have B21a := V (B21.out.setCell (p := ⟨w.heap.size, 0, none⟩) (by show w.heap.size ≤ w.heap.size; omega) (.slice A21 s21.xs.length c21))
     clear P21 Z21 Y21 C21 X21 I21 J21 B21
     have P21b := V (show Hold (((w21).setCell ⟨w.heap.size, 0, none⟩ (.slice A21 s21.xs.length c21)).setCell ⟨w.heap.size, 1, none⟩ (J U (s21.er : Int))) w.heap.size 119 [.slice A21 s21.xs.length c21,J U (s21.er : Int)] from P21a.out.put 1 (J U (s21.er : Int)))
     have Z21b := V (Z21a.out.bel (Bel.store ((w21).setCell ⟨w.heap.size, 0, none⟩ (.slice A21 s21.xs.length c21)) w.heap.size 1 (J U (s21.er : Int))) (by omega))
     have Y21b := V (Y21a.out.bel (Bel.store ((w21).setCell ⟨w.heap.size, 0, none⟩ (.slice A21 s21.xs.length c21)) w.heap.size 1 (J U (s21.er : Int))) (by omega))
     have C21b := V (C21a.out.bel (Bel.store ((w21).setCell ⟨w.heap.size, 0, none⟩ (.slice A21 s21.xs.length c21)) w.heap.size 1 (J U (s21.er : Int))) (by omega))
     have X21b := V (X21a.out.bel (Bel.store ((w21).setCell ⟨w.heap.size, 0, none⟩ (.slice A21 s21.xs.length c21)) w.heap.size 1 (J U (s21.er : Int))) (by omega))
     have I21b := V (ownsRow_put I21a.out w.heap.size 1 (J U (s21.er : Int)) (fun q e => by have := KI.out q e; omega))
     have J21b := V (ownsRow_put J21a.out w.heap.size 1 (J U (s21.er : Int)) (fun q e => by have := KJ.out q e; omega))
     have B21b := V (B21a.out.setCell (p := ⟨w.heap.size, 1, none⟩) (by show w.heap.size ≤ w.heap.size; omega) (J U (s21.er : Int)))
     clear P21a Z21a Y21a C21a X21a I21a J21a B21a
     have P21c := V (P21b.out.bel (Bel.store (((w21).setCell ⟨w.heap.size, 0, none⟩ (.slice A21 s21.xs.length c21)).setCell ⟨w.heap.size, 1, none⟩ (J U (s21.er : Int))) wr.heap.size 0 (encT kt)) (by omega))
     have Z21c := V (Z21b.out.bel (Bel.store (((w21).setCell ⟨w.heap.size, 0, none⟩ (.slice A21 s21.xs.length c21)).setCell ⟨w.heap.size, 1, none⟩ (J U (s21.er : Int))) wr.heap.size 0 (encT kt)) (by omega))
     have Y21c := V (Y21b.out.bel (Bel.store (((w21).setCell ⟨w.heap.size, 0, none⟩ (.slice A21 s21.xs.length c21)).setCell ⟨w.heap.size, 1, none⟩ (J U (s21.er : Int))) wr.heap.size 0 (encT kt)) (by omega))
     have C21c := V (C21b.out.bel (Bel.store (((w21).setCell ⟨w.heap.size, 0, none⟩ (.slice A21 s21.xs.length c21)).setCell ⟨w.heap.size, 1, none⟩ (J U (s21.er : Int))) wr.heap.size 0 (encT kt)) (by omega))
     have X21c := V (show Hold ((((w21).setCell ⟨w.heap.size, 0, none⟩ (.slice A21 s21.xs.length c21)).setCell ⟨w.heap.size, 1, none⟩ (J U (s21.er : Int))).setCell ⟨wr.heap.size, 0, none⟩ (encT kt)) wr.heap.size 115 [encT kt,.string ⟨#[]⟩] from X21b.out.put 0 (encT kt))
     have I21c := V (ownsRow_put I21b.out wr.heap.size 0 (encT kt) (fun q e => by have := KI.out q e; omega))
     have J21c := V (ownsRow_put J21b.out wr.heap.size 0 (encT kt) (fun q e => by have := KJ.out q e; omega))
     have B21c := V (B21b.out.setCell (p := ⟨wr.heap.size, 0, none⟩) (by show w.heap.size ≤ wr.heap.size; omega) (encT kt))
     clear P21b Z21b Y21b C21b X21b I21b J21b B21b
     go_wp2_with (fail)
     refine (text_doc (HW.out.trans (B21c.out.mono HW.out.size)) D21.out).mono ?_
     rintro e w22 ⟨s22, vt, x22, rfl, hvt, hx, hb, hp⟩
     obtain ⟨A22, c22, rfl, hq⟩ := hx
     have D22 := V (show Prt w0 _ s22 from ⟨A22, c22, rfl, hq⟩)
     clear hq
     have P22 := V (P21c.out.on hb)
     have Z22 := V (Z21c.out.on hb)
     have Y22 := V (Y21c.out.on hb)
     have C22 := V (C21c.out.on hb)
     have X22 := V (X21c.out.on hb)
     have I22 := V (ownsRow_bel (g := 0) I21c.out (Bel.of hb) (by omega))
     have J22 := V (ownsRow_bel (g := 0) J21c.out (Bel.of hb) (by omega))
     have B22 := V (below_on B21c.out hb)
     have G2 := V hp
     have GV := V hvt
     clear hb hp hvt
     clear P21c Z21c Y21c C21c X21c I21c J21c B21c
     clear za0 zb0 za1 zb1 za2 zb2
     have za0 := P22.out.cell 0 rfl
     have zb0 := P22.out.soft 0
     have za1 := P22.out.cell 1 rfl
     have zb1 := P22.out.soft 1
     have za2 := X22.out.cell 1 rfl
     have zb2 := X22.out.soft 1
     have P22a := V (show Hold ((w22).setCell ⟨w.heap.size, 0, none⟩ (.slice A22 s22.xs.length c22)) w.heap.size 119 [.slice A22 s22.xs.length c22,J U (s21.er : Int)] from P22.out.put 0 (.slice A22 s22.xs.length c22))
     have Z22a := V (Z22.out.bel (Bel.store (w22) w.heap.size 0 (.slice A22 s22.xs.length c22)) (by omega))
     have Y22a := V (Y22.out.bel (Bel.store (w22) w.heap.size 0 (.slice A22 s22.xs.length c22)) (by omega))
     have C22a := V (C22.out.bel (Bel.store (w22) w.heap.size 0 (.slice A22 s22.xs.length c22)) (by omega))
     have X22a := V (X22.out.bel (Bel.store (w22) w.heap.size 0 (.slice A22 s22.xs.length c22)) (by omega))
     have I22a := V (ownsRow_put I22.out w.heap.size 0 (.slice A22 s22.xs.length c22) (fun q e => by have := KI.out q e; omega))
     have J22a := V (ownsRow_put J22.out w.heap.size 0 (.slice A22 s22.xs.length c22) (fun q e => by have := KJ.out q e; omega))
     have B22a := V (B22.out.setCell (p := ⟨w.heap.size, 0, none⟩) (by show w.heap.size ≤ w.heap.size; omega) (.slice A22 s22.xs.length c22))
     clear P22 Z22 Y22 C22 X22 I22 J22 B22
     have P22b := V (show Hold (((w22).setCell ⟨w.heap.size, 0, none⟩ (.slice A22 s22.xs.length c22)).setCell ⟨w.heap.size, 1, none⟩ (J U (s22.er : Int))) w.heap.size 119 [.slice A22 s22.xs.length c22,J U (s22.er : Int)] from P22a.out.put 1 (J U (s22.er : Int)))
     have Z22b := V (Z22a.out.bel (Bel.store ((w22).setCell ⟨w.heap.size, 0, none⟩ (.slice A22 s22.xs.length c22)) w.heap.size 1 (J U (s22.er : Int))) (by omega))
     have Y22b := V (Y22a.out.bel (Bel.store ((w22).setCell ⟨w.heap.size, 0, none⟩ (.slice A22 s22.xs.length c22)) w.heap.size 1 (J U (s22.er : Int))) (by omega))
     have C22b := V (C22a.out.bel (Bel.store ((w22).setCell ⟨w.heap.size, 0, none⟩ (.slice A22 s22.xs.length c22)) w.heap.size 1 (J U (s22.er : Int))) (by omega))
     have X22b := V (X22a.out.bel (Bel.store ((w22).setCell ⟨w.heap.size, 0, none⟩ (.slice A22 s22.xs.length c22)) w.heap.size 1 (J U (s22.er : Int))) (by omega))
     have I22b := V (ownsRow_put I22a.out w.heap.size 1 (J U (s22.er : Int)) (fun q e => by have := KI.out q e; omega))
     have J22b := V (ownsRow_put J22a.out w.heap.size 1 (J U (s22.er : Int)) (fun q e => by have := KJ.out q e; omega))
     have B22b := V (B22a.out.setCell (p := ⟨w.heap.size, 1, none⟩) (by show w.heap.size ≤ w.heap.size; omega) (J U (s22.er : Int)))
     clear P22a Z22a Y22a C22a X22a I22a J22a B22a
     have P22c := V (P22b.out.bel (Bel.store (((w22).setCell ⟨w.heap.size, 0, none⟩ (.slice A22 s22.xs.length c22)).setCell ⟨w.heap.size, 1, none⟩ (J U (s22.er : Int))) wr.heap.size 1 (encT vt)) (by omega))
     have Z22c := V (Z22b.out.bel (Bel.store (((w22).setCell ⟨w.heap.size, 0, none⟩ (.slice A22 s22.xs.length c22)).setCell ⟨w.heap.size, 1, none⟩ (J U (s22.er : Int))) wr.heap.size 1 (encT vt)) (by omega))
     have Y22c := V (Y22b.out.bel (Bel.store (((w22).setCell ⟨w.heap.size, 0, none⟩ (.slice A22 s22.xs.length c22)).setCell ⟨w.heap.size, 1, none⟩ (J U (s22.er : Int))) wr.heap.size 1 (encT vt)) (by omega))
     have C22c := V (C22b.out.bel (Bel.store (((w22).setCell ⟨w.heap.size, 0, none⟩ (.slice A22 s22.xs.length c22)).setCell ⟨w.heap.size, 1, none⟩ (J U (s22.er : Int))) wr.heap.size 1 (encT vt)) (by omega))
     have X22c := V (show Hold ((((w22).setCell ⟨w.heap.size, 0, none⟩ (.slice A22 s22.xs.length c22)).setCell ⟨w.heap.size, 1, none⟩ (J U (s22.er : Int))).setCell ⟨wr.heap.size, 1, none⟩ (encT vt)) wr.heap.size 115 [encT kt, encT vt] from X22b.out.put 1 (encT vt))
     have I22c := V (ownsRow_put I22b.out wr.heap.size 1 (encT vt) (fun q e => by have := KI.out q e; omega))
     have J22c := V (ownsRow_put J22b.out wr.heap.size 1 (encT vt) (fun q e => by have := KJ.out q e; omega))
     have B22c := V (B22b.out.setCell (p := ⟨wr.heap.size, 1, none⟩) (by show w.heap.size ≤ wr.heap.size; omega) (encT vt))
     clear P22b Z22b Y22b C22b X22b I22b J22b B22b
     have cq6 := C22c.out.cell 7 rfl
     have xx0 := X22c.out.cell 0 rfl
     have xx1 := X22c.out.cell 1 rfl
     have hsz : ((((w22).setCell ⟨w.heap.size, 0, none⟩ (.slice A22 s22.xs.length c22)).setCell ⟨w.heap.size, 1, none⟩ (J U (s22.er : Int))).setCell ⟨wr.heap.size, 1, none⟩ (encT vt)).heap.size = w22.heap.size := by simp
     obtain ⟨v', w', hrun, hown, hgrow⟩ := app_wr J22c.out (kt, vt) (by have := HL.out; have := N2.out; omega) (by have := C22c.out.lt; omega)
     rw [hsz] at hrun
     have hge : ∀ q, vb.ownBlock = some q → w.heap.size + 4 ≤ q := fun q e => (KJ.out q e).1
     have PG := V (Hold.grow (P22c.out.alloc (.cells (wrC (kt, vt)).toArray 115)) hgrow (fun q e => by have := hge q e; omega))
     have ZG := V (Hold.grow (Z22c.out.alloc (.cells (wrC (kt, vt)).toArray 115)) hgrow (fun q e => by have := hge q e; omega))
     have YG := V (Hold.grow (Y22c.out.alloc (.cells (wrC (kt, vt)).toArray 115)) hgrow (fun q e => by have := hge q e; omega))
     have CG := V (Hold.grow (C22c.out.alloc (.cells (wrC (kt, vt)).toArray 115)) hgrow (fun q e => by have := hge q e; omega))
     have IG := V (ownsRow_grown (World.ownsRow.alloc I22c.out (.cells (wrC (kt, vt)).toArray 115)) hgrow (ownsRow_type (World.ownsRow.alloc J22c.out (.cells (wrC (kt, vt)).toArray 115)) (by decide)))
     have BG := V ((below_new (o := .cells (wrC (kt, vt)).toArray 115) B22c.out).grown hgrow (by have := B22c.out.size; simp at this ⊢; omega) (fun q e => by have := hge q e; omega))
     obtain ⟨A3, k3, hv3⟩ := ownsRow_slice hown
     rw [List.length_append, List.length_singleton] at hv3
     subst hv3
     have OG := V hown
     clear hown hgrow
     have cg := CG.out.cell 7 rfl
     have fg := CG.out.soft 7
     have PE := V (PG.out.bel (Bel.store w' (w.heap.size + 3) 7 (.slice A3 (ws.length + 1) k3)) (by omega))
     have ZE := V (ZG.out.bel (Bel.store w' (w.heap.size + 3) 7 (.slice A3 (ws.length + 1) k3)) (by omega))
     have YE := V (YG.out.bel (Bel.store w' (w.heap.size + 3) 7 (.slice A3 (ws.length + 1) k3)) (by omega))
     have CE := V (show Hold (w'.setCell ⟨w.heap.size + 3, 7, none⟩ (.slice A3 (ws.length + 1) k3)) (w.heap.size + 3) 63 [encN a1, encN a2, encN a3, encN a4, encN a5, encN a6, va,.slice A3 (ws.length + 1) k3,.bool false] from CG.out.put 7 (.slice A3 (ws.length + 1) k3))
     have OE := V (ownsRow_bel OG.out (Bel.store w' (w.heap.size + 3) 7 (.slice A3 (ws.length + 1) k3)) (by omega))
     have IE := V (ownsRow_bel IG.out (Bel.store w' (w.heap.size + 3) 7 (.slice A3 (ws.length + 1) k3)) (by omega))
     have BE := V (BG.out.setCell (p := ⟨w.heap.size + 3, 7, none⟩) (by show w.heap.size ≤ w.heap.size + 3; omega) (.slice A3 (ws.length + 1) k3))
     have DE := V D22.out
     clear P22c Z22c Y22c C22c X22c I22c J22c B22c
     go_wp2_with (at_builtin; refine Lib.wpList_append_run _ rfl _ _ _ _ rfl _ _ rfl rfl _ _ hrun ?_)
     go_roundw
     case rel => exact ⟨k + 1, ws ++ [(kt, vt)],.slice A3 (ws.length + 1) k3, s22, A22, c22, by omega, by go_num, by rw [List.length_append, HL.out]; rfl, PE.out, ZE.out, YE.out, CE.out, IE.out, OE.out, BE.out, DE.out, P.Ran.snoc P.errs_wr HQ.out (P.Ran.bind P.errs_text G1.out (P.Ran.bind P.errs_text G2.out (P.Ran.ret _ _))), fun r hr => by
      rcases List.mem_append.1 hr with h | h
      ·exact HTN.out r h
      ·rw [List.mem_singleton.1 h]; exact ⟨GK.out, GV.out⟩⟩
     case measure => simp [intOf]; omega
    ·by_cases hlt : k < m
     ·have he : s9.er ≠ 0 := fun he => hgo ⟨hlt, he⟩
      have HE := V he
      have hki : (k : Int) < (m : Int) := by omega
      have q1 : ((s9.er : Int) == 0) = false := by rw [beq_eq_false_iff_ne]; omega
      have HKN := V (Nat.le_of_lt hlt)
      clear hgo he
      go_wp2
      go_meet
      case rel => exact ⟨ws, vb, s9, A9, c9, P9.out, Z9.out, Y9.out, C9.out, I9.out, J9.out, B9.out, D9.out, P.Ran.rep_early HKN.out HQ.out HE.out ws, by have := HL.out; have := N2.out; omega, HTN.out⟩
     ·obtain rfl : k = m := by omega
      clear hgo
      go_wp2
      go_meet
      case rel => exact ⟨ws, vb, s9, A9, c9, P9.out, Z9.out, Y9.out, C9.out, I9.out, J9.out, B9.out, D9.out, HQ.out, by have := HL.out; have := N2.out; omega, HTN.out⟩
  case rest =>
   obtain ⟨ws, vb, s9q, A9q, c9q, hp, hz, hy, hc, hr1, hr2, hb, hd, hq, hl, htn⟩ := hcut
   have PV := V hp
   have ZV := V hz
   have YV := V hy
   have CV := V hc
   have BV := V hb
   have DV := V hd
   have HRV := V hq
   have HMV := V hl
   have HTV := V htn
   have IV := V hr1
   have JV := V hr2
   clear hp hz hy hc hb hd hq hl htn hr1 hr2
   clear PL ZL YL CL IL BL
   have KV := V (fun q (e : va.ownBlock = some q) => World.ownsRow.lt IV.out q e)
   have KW := V (fun q (e : vb.ownBlock = some q) => World.ownsRow.lt JV.out q e)
   have p0 := PV.out.cell 0 rfl
   have p1 := PV.out.cell 1 rfl
   go_wp2_with (fail)
   refine (one_doc (HW.out.trans (BV.out.mono HW.out.size)) DV.out).mono ?_
   rintro e w10 ⟨s10, b, x10, rfl, -, hx, hb, hp⟩
   obtain ⟨A10, c10, rfl, hq⟩ := hx
   have D10 := V (show Prt w0 _ s10 from ⟨A10, c10, rfl, hq⟩)
   clear hq
   have P10 := V (PV.out.on hb)
   have Z10 := V (ZV.out.on hb)
   have Y10 := V (YV.out.on hb)
   have C10 := V (CV.out.on hb)
   have I10 := V (ownsRow_bel (g := 0) IV.out (Bel.of hb) (by omega))
   have J10 := V (ownsRow_bel (g := 0) JV.out (Bel.of hb) (by omega))
   have B10 := V (below_on BV.out hb)
   have H10 := V hp
   clear hb hp
   clear PV ZV YV CV IV JV BV
   clear p0 p1
   have za0 := P10.out.cell 0 rfl
   have zb0 := P10.out.soft 0
   have za1 := P10.out.cell 1 rfl
   have zb1 := P10.out.soft 1
   have P10a := V (show Hold ((w10).setCell ⟨w.heap.size, 0, none⟩ (.slice A10 s10.xs.length c10)) w.heap.size 119 [.slice A10 s10.xs.length c10,J U (s9q.er : Int)] from P10.out.put 0 (.slice A10 s10.xs.length c10))
   have Z10a := V (Z10.out.bel (Bel.store (w10) w.heap.size 0 (.slice A10 s10.xs.length c10)) (by omega))
   have Y10a := V (Y10.out.bel (Bel.store (w10) w.heap.size 0 (.slice A10 s10.xs.length c10)) (by omega))
   have C10a := V (C10.out.bel (Bel.store (w10) w.heap.size 0 (.slice A10 s10.xs.length c10)) (by omega))
   have I10a := V (ownsRow_put I10.out w.heap.size 0 (.slice A10 s10.xs.length c10) (fun q e => by have := KV.out q e; omega))
   have J10a := V (ownsRow_put J10.out w.heap.size 0 (.slice A10 s10.xs.length c10) (fun q e => by have := KW.out q e; omega))
   have B10a := V (B10.out.setCell (p := ⟨w.heap.size, 0, none⟩) (by show w.heap.size ≤ w.heap.size; omega) (.slice A10 s10.xs.length c10))
   clear P10 Z10 Y10 C10 I10 J10 B10
   have P10b := V (show Hold (((w10).setCell ⟨w.heap.size, 0, none⟩ (.slice A10 s10.xs.length c10)).setCell ⟨w.heap.size, 1, none⟩ (J U (s10.er : Int))) w.heap.size 119 [.slice A10 s10.xs.length c10,J U (s10.er : Int)] from P10a.out.put 1 (J U (s10.er : Int)))
   have Z10b := V (Z10a.out.bel (Bel.store ((w10).setCell ⟨w.heap.size, 0, none⟩ (.slice A10 s10.xs.length c10)) w.heap.size 1 (J U (s10.er : Int))) (by omega))
   have Y10b := V (Y10a.out.bel (Bel.store ((w10).setCell ⟨w.heap.size, 0, none⟩ (.slice A10 s10.xs.length c10)) w.heap.size 1 (J U (s10.er : Int))) (by omega))
   have C10b := V (C10a.out.bel (Bel.store ((w10).setCell ⟨w.heap.size, 0, none⟩ (.slice A10 s10.xs.length c10)) w.heap.size 1 (J U (s10.er : Int))) (by omega))
   have I10b := V (ownsRow_put I10a.out w.heap.size 1 (J U (s10.er : Int)) (fun q e => by have := KV.out q e; omega))
   have J10b := V (ownsRow_put J10a.out w.heap.size 1 (J U (s10.er : Int)) (fun q e => by have := KW.out q e; omega))
   have B10b := V (B10a.out.setCell (p := ⟨w.heap.size, 1, none⟩) (by show w.heap.size ≤ w.heap.size; omega) (J U (s10.er : Int)))
   clear P10a Z10a Y10a C10a I10a J10a B10a
   by_cases hb1 : 1 < b
   ·have HB1 := V hb1
    have qb : ((b : Int) == 1) = false := by rw [beq_eq_false_iff_ne]; omega
    go_wp2_with (fail)
    refine (fail_doc 4 rfl D10.out).mono ?_
    rintro e w11 ⟨x11, rfl, hx, hb⟩
    obtain ⟨A11, c11, rfl, hq⟩ := hx
    have D11 := V (show Prt w0 _ (P.fail 4 s10) from ⟨A11, c11, rfl, hq⟩)
    clear hq
    have P11 := V (P10b.out.on hb)
    have Z11 := V (Z10b.out.on hb)
    have Y11 := V (Y10b.out.on hb)
    have C11 := V (C10b.out.on hb)
    have I11 := V (ownsRow_bel (g := 0) I10b.out (Bel.of hb) (by omega))
    have J11 := V (ownsRow_bel (g := 0) J10b.out (Bel.of hb) (by omega))
    have B11 := V (below_on B10b.out hb)
    clear hb
    clear P10b Z10b Y10b C10b I10b J10b B10b
    clear za0 zb0 za1 zb1
    obtain ⟨s11, hs⟩ : ∃ s11, s11 = P.fail 4 s10 := ⟨_, rfl⟩
    rw [← hs] at D11 ⊢
    have HS := V hs
    clear hs
    have za0 := P11.out.cell 0 rfl
    have zb0 := P11.out.soft 0
    have za1 := P11.out.cell 1 rfl
    have zb1 := P11.out.soft 1
    have P11a := V (show Hold ((w11).setCell ⟨w.heap.size, 0, none⟩ (.slice A11 s11.xs.length c11)) w.heap.size 119 [.slice A11 s11.xs.length c11,J U (s10.er : Int)] from P11.out.put 0 (.slice A11 s11.xs.length c11))
    have Z11a := V (Z11.out.bel (Bel.store (w11) w.heap.size 0 (.slice A11 s11.xs.length c11)) (by omega))
    have Y11a := V (Y11.out.bel (Bel.store (w11) w.heap.size 0 (.slice A11 s11.xs.length c11)) (by omega))
    have C11a := V (C11.out.bel (Bel.store (w11) w.heap.size 0 (.slice A11 s11.xs.length c11)) (by omega))
    have I11a := V (ownsRow_put I11.out w.heap.size 0 (.slice A11 s11.xs.length c11) (fun q e => by have := KV.out q e; omega))
    have J11a := V (ownsRow_put J11.out w.heap.size 0 (.slice A11 s11.xs.length c11) (fun q e => by have := KW.out q e; omega))
    have B11a := V (B11.out.setCell (p := ⟨w.heap.size, 0, none⟩) (by show w.heap.size ≤ w.heap.size; omega) (.slice A11 s11.xs.length c11))
    clear P11 Z11 Y11 C11 I11 J11 B11
    have P11b := V (show Hold (((w11).setCell ⟨w.heap.size, 0, none⟩ (.slice A11 s11.xs.length c11)).setCell ⟨w.heap.size, 1, none⟩ (J U (s11.er : Int))) w.heap.size 119 [.slice A11 s11.xs.length c11,J U (s11.er : Int)] from P11a.out.put 1 (J U (s11.er : Int)))
    have Z11b := V (Z11a.out.bel (Bel.store ((w11).setCell ⟨w.heap.size, 0, none⟩ (.slice A11 s11.xs.length c11)) w.heap.size 1 (J U (s11.er : Int))) (by omega))
    have Y11b := V (Y11a.out.bel (Bel.store ((w11).setCell ⟨w.heap.size, 0, none⟩ (.slice A11 s11.xs.length c11)) w.heap.size 1 (J U (s11.er : Int))) (by omega))
    have C11b := V (C11a.out.bel (Bel.store ((w11).setCell ⟨w.heap.size, 0, none⟩ (.slice A11 s11.xs.length c11)) w.heap.size 1 (J U (s11.er : Int))) (by omega))
    have I11b := V (ownsRow_put I11a.out w.heap.size 1 (J U (s11.er : Int)) (fun q e => by have := KV.out q e; omega))
    have J11b := V (ownsRow_put J11a.out w.heap.size 1 (J U (s11.er : Int)) (fun q e => by have := KW.out q e; omega))
    have B11b := V (B11a.out.setCell (p := ⟨w.heap.size, 1, none⟩) (by show w.heap.size ≤ w.heap.size; omega) (J U (s11.er : Int)))
    clear P11a Z11a Y11a C11a I11a J11a B11a
    have cc := C11b.out.cell 8 rfl
    have cf := C11b.out.soft 8
    have P11ba := V (P11b.out.bel (Bel.store (((w11).setCell ⟨w.heap.size, 0, none⟩ (.slice A11 s11.xs.length c11)).setCell ⟨w.heap.size, 1, none⟩ (J U (s11.er : Int))) (w.heap.size + 3) 8 (.bool false)) (by omega))
    have Z11ba := V (Z11b.out.bel (Bel.store (((w11).setCell ⟨w.heap.size, 0, none⟩ (.slice A11 s11.xs.length c11)).setCell ⟨w.heap.size, 1, none⟩ (J U (s11.er : Int))) (w.heap.size + 3) 8 (.bool false)) (by omega))
    have Y11ba := V (Y11b.out.bel (Bel.store (((w11).setCell ⟨w.heap.size, 0, none⟩ (.slice A11 s11.xs.length c11)).setCell ⟨w.heap.size, 1, none⟩ (J U (s11.er : Int))) (w.heap.size + 3) 8 (.bool false)) (by omega))
    have C11ba := V (show Hold ((((w11).setCell ⟨w.heap.size, 0, none⟩ (.slice A11 s11.xs.length c11)).setCell ⟨w.heap.size, 1, none⟩ (J U (s11.er : Int))).setCell ⟨(w.heap.size + 3), 8, none⟩ (.bool false)) (w.heap.size + 3) 63 [encN a1, encN a2, encN a3, encN a4, encN a5, encN a6, va, vb,.bool false] from C11b.out.put 8 (.bool false))
    have I11ba := V (ownsRow_put I11b.out (w.heap.size + 3) 8 (.bool false) (fun q e => by have := KV.out q e; omega))
    have J11ba := V (ownsRow_put J11b.out (w.heap.size + 3) 8 (.bool false) (fun q e => by have := KW.out q e; omega))
    have B11ba := V (B11b.out.setCell (p := ⟨(w.heap.size + 3), 8, none⟩) (by show w.heap.size ≤ (w.heap.size + 3); omega) (.bool false))
    clear P11b Z11b Y11b C11b I11b J11b B11b
    obtain ⟨wf, ef⟩ : ∃ wf, wf = (((w11).setCell ⟨w.heap.size, 0, none⟩ (.slice A11 s11.xs.length c11)).setCell ⟨w.heap.size, 1, none⟩ (J U (s11.er : Int))).setCell ⟨(w.heap.size + 3), 8, none⟩ (.bool false) := ⟨_, rfl⟩
    have PF := V (ef ▸ P11ba.out)
    have ZF := V (ef ▸ Z11ba.out)
    have YF := V (ef ▸ Y11ba.out)
    have CF := V (ef ▸ C11ba.out)
    have IF := V (ef ▸ I11ba.out)
    have JF := V (ef ▸ J11ba.out)
    have BF := V (ef ▸ B11ba.out)
    clear P11ba Z11ba Y11ba C11ba I11ba J11ba B11ba
    go_wp2
    rw [← ef]
    clear ef cc cf za0 zb0 za1 zb1
    obtain ⟨A1, k1, rfl⟩ := ownsRow_slice IF.out
    obtain ⟨A2, k2, rfl⟩ := ownsRow_slice JF.out
    have TZ := V (show wf.drew.there (w.heap.size + 1) 0 ([.slice A11 s11.xs.length c11,J U (s11.er : Int)] : List Value).length from ZF.out.there (Nat.le_refl 2))
    have SZ := bel_setCells wf.drew (w.heap.size + 1) [.slice A11 s11.xs.length c11,J U (s11.er : Int)] 0
    have CZ := V (show Hold (wf.drew.setCells (w.heap.size + 1) 0 [.slice A11 s11.xs.length c11,J U (s11.er : Int)]) (w.heap.size + 3) 63 [encN a1, encN a2, encN a3, encN a4, encN a5, encN a6,.slice A1 rs.length k1,.slice A2 ws.length k2,.bool false] from (show Hold wf.drew _ _ _ from CF.out).bel SZ (by omega))
    have YZ := V ((show Hold wf.drew (w.heap.size + 2) 63 [J U 0,J U 0,J U 0,J U 0,J U 0,J U 0,.slice none 0 0,.slice none 0 0,.bool false] from YF.out).bel SZ (by omega))
    have FZ := Hold.set [.slice A11 s11.xs.length c11,J U (s11.er : Int)] [] [.slice none 0 0,J U 0] [] rfl _ (show Hold wf.drew (w.heap.size + 1) 119 ([] ++ [.slice none 0 0,J U 0] ++ []) from ZF.out)
    have TY := V (show (wf.drew.setCells (w.heap.size + 1) 0 [.slice A11 s11.xs.length c11,J U (s11.er : Int)]).there (w.heap.size + 2) 0 ([encN a1, encN a2, encN a3, encN a4, encN a5, encN a6,.slice A1 rs.length k1,.slice A2 ws.length k2,.bool false] : List Value).length from YZ.out.there (Nat.le_refl 9))
    have SY := bel_setCells (wf.drew.setCells (w.heap.size + 1) 0 [.slice A11 s11.xs.length c11,J U (s11.er : Int)]) (w.heap.size + 2) [encN a1, encN a2, encN a3, encN a4, encN a5, encN a6,.slice A1 rs.length k1,.slice A2 ws.length k2,.bool false] 0
    have FY := Hold.set [encN a1, encN a2, encN a3, encN a4, encN a5, encN a6,.slice A1 rs.length k1,.slice A2 ws.length k2,.bool false] [] [J U 0,J U 0,J U 0,J U 0,J U 0,J U 0,.slice none 0 0,.slice none 0 0,.bool false] [] rfl _ (show Hold (wf.drew.setCells (w.heap.size + 1) 0 [.slice A11 s11.xs.length c11,J U (s11.er : Int)]) (w.heap.size + 2) 63 ([] ++ [J U 0,J U 0,J U 0,J U 0,J U 0,J U 0,.slice none 0 0,.slice none 0 0,.bool false] ++ []) from YZ.out)
    have ZE := V ((show Hold (wf.drew.setCells (w.heap.size + 1) 0 [.slice A11 s11.xs.length c11,J U (s11.er : Int)]) (w.heap.size + 1) 119 [.slice A11 s11.xs.length c11,J U (s11.er : Int)] from FZ).bel SY (by omega))
    have YE := V (show Hold ((wf.drew.setCells (w.heap.size + 1) 0 [.slice A11 s11.xs.length c11,J U (s11.er : Int)]).setCells (w.heap.size + 2) 0 [encN a1, encN a2, encN a3, encN a4, encN a5, encN a6,.slice A1 rs.length k1,.slice A2 ws.length k2,.bool false]) (w.heap.size + 2) 63 [encN a1, encN a2, encN a3, encN a4, encN a5, encN a6,.slice A1 rs.length k1,.slice A2 ws.length k2,.bool false] from FY)
    have IE := V (ownsRow_bel (ownsRow_bel (ownsRow_bel (g := 0) IF.out (Bel.of (Below.refl _ _).drew) (by omega)) SZ (by omega)) SY (by omega))
    have JE := V (ownsRow_bel (ownsRow_bel (ownsRow_bel (g := 0) JF.out (Bel.of (Below.refl _ _).drew) (by omega)) SZ (by omega)) SY (by omega))
    have BE := V (below_setCells (by omega : w.heap.size ≤ w.heap.size + 2) [encN a1, encN a2, encN a3, encN a4, encN a5, encN a6,.slice A1 rs.length k1,.slice A2 ws.length k2,.bool false] 0 _ _ (below_setCells (by omega : w.heap.size ≤ w.heap.size + 1) [.slice A11 s11.xs.length c11,J U (s11.er : Int)] 0 _ _ BF.out.drew))
    clear SZ SY FZ FY
    have MOD := V (show M.Mod ⟨a1, a2, a3, a4, a5, a6, rs, ws, false⟩ from ⟨by have := HMQ.out; show rs.length ≤ 20; omega, by have := HMV.out; show ws.length ≤ 20; omega, fun r hr => by have := HTQ.out r hr; omega, fun r hr => by have := (HTV.out r hr).1; omega, fun r hr => by have := (HTV.out r hr).2; omega⟩)
    have RAN := V (show P.Ran P.cmd s s11 ⟨a1, a2, a3, a4, a5, a6, rs, ws, false⟩ from P.Ran.bind P.errs_num Ha1.out (P.Ran.bind P.errs_num Ha2.out (P.Ran.bind P.errs_num Ha3.out (P.Ran.bind P.errs_num Ha4.out (P.Ran.bind P.errs_num Ha5.out (P.Ran.bind P.errs_num Ha6.out (P.Ran.bind P.errs_few H7.out (P.Ran.bind (P.errs_rep P.errs_rd _) HRQ.out (P.Ran.bind P.errs_few H8.out (P.Ran.bind (P.errs_rep P.errs_wr _) HRV.out (P.Ran.bind P.errs_boolean (P.Ran.bind P.errs_one H10.out (by rw [if_pos HB1.out, HS.out]; exact P.Ran.err _ _)) (P.Ran.ret _ _))))))))))))
    refine wp_region_any (by kernel_rfl) ?_
    try (change wpAny _ _ _ _ _ _ _ (World.drew _))
    refine wpAny_ready (rs := [0, 1]) (by kernel_rfl) (by simp) ?_
    refine AllReady.cons rfl (fun K hK => ?_) (AllReady.cons rfl (fun K hK => ?_) AllReady.nil)
    ·refine step_ld (by rfl) 119 _ rfl w.heap.size 0 rfl [.slice A11 s11.xs.length c11,J U (s11.er : Int)] _ ((show wf.drew.rangeAt w.heap.size 0 _ from PF.out.cel.whole)) Tryz.underlying119 rfl (by kernel_rfl) ?_
     try go_simp
     refine hK _ _ ?_
     clear hK K
     refine wpAny_ready (rs := [1, 2]) (by kernel_rfl) (by simp) ?_
     refine AllReady.cons rfl (fun K hK => ?_) (AllReady.cons rfl (fun K hK => ?_) AllReady.nil)
     ·refine step_ld (by rfl) 63 _ rfl (w.heap.size + 3) 0 rfl [encN a1, encN a2, encN a3, encN a4, encN a5, encN a6,.slice A1 rs.length k1,.slice A2 ws.length k2,.bool false] _ ((show wf.drew.rangeAt (w.heap.size + 3) 0 _ from CF.out.cel.whole)) Tryz.underlying63 rfl (by kernel_rfl) ?_
      try go_simp
      refine hK _ _ ?_
      clear hK K
      refine wpAny_ready (rs := [2]) (by kernel_rfl) (by simp) ?_
      refine AllReady.cons rfl (fun K hK => ?_) AllReady.nil
      refine step_st (by rfl) 119 _ _ rfl (w.heap.size + 1) 0 [.slice A11 s11.xs.length c11,J U (s11.er : Int)] rfl rfl TZ.out (by kernel_rfl) (by kernel_rfl) ?_
      try go_simp
      refine hK _ _ ?_
      clear hK K
      refine wpAny_ready (rs := [3]) (by kernel_rfl) (by simp) ?_
      refine AllReady.cons rfl (fun K hK => ?_) AllReady.nil
      refine step_st (by rfl) 63 _ _ rfl (w.heap.size + 2) 0 [encN a1, encN a2, encN a3, encN a4, encN a5, encN a6,.slice A1 rs.length k1,.slice A2 ws.length k2,.bool false] rfl rfl TY.out (by kernel_rfl) (by kernel_rfl) ?_
      try go_simp
      refine hK _ _ ?_
      clear hK K
      refine wpAny_done (by kernel_rfl) ?_ _
      go_wp2
      refine bodyPost_ret (results_cc rfl rfl rfl ZE.out.cel.whole YE.out.cel.whole _ _ Tryz.underlying119 Tryz.underlying63 rfl rfl (by kernel_rfl) (by kernel_rfl)) rfl ?_
      exact ⟨s11, ⟨a1, a2, a3, a4, a5, a6, rs, ws, false⟩, _, _, _, rfl, D11.out, ownsRow_baseN IE.out (by omega), ownsRow_baseN JE.out (by omega), BE.out, RAN.out, MOD.out⟩
     ·refine step_st (by rfl) 119 _ _ rfl (w.heap.size + 1) 0 [.slice A11 s11.xs.length c11,J U (s11.er : Int)] rfl rfl TZ.out (by kernel_rfl) (by kernel_rfl) ?_
      try go_simp
      refine hK _ _ ?_
      clear hK K
      refine wpAny_ready (rs := [1]) (by kernel_rfl) (by simp) ?_
      refine AllReady.cons rfl (fun K hK => ?_) AllReady.nil
      refine step_ld (by rfl) 63 _ rfl (w.heap.size + 3) 0 rfl [encN a1, encN a2, encN a3, encN a4, encN a5, encN a6,.slice A1 rs.length k1,.slice A2 ws.length k2,.bool false] _ (CZ.out.cel.whole) Tryz.underlying63 rfl (by kernel_rfl) ?_
      try go_simp
      refine hK _ _ ?_
      clear hK K
      refine wpAny_ready (rs := [3]) (by kernel_rfl) (by simp) ?_
      refine AllReady.cons rfl (fun K hK => ?_) AllReady.nil
      refine step_st (by rfl) 63 _ _ rfl (w.heap.size + 2) 0 [encN a1, encN a2, encN a3, encN a4, encN a5, encN a6,.slice A1 rs.length k1,.slice A2 ws.length k2,.bool false] rfl rfl TY.out (by kernel_rfl) (by kernel_rfl) ?_
      try go_simp
      refine hK _ _ ?_
      clear hK K
      refine wpAny_done (by kernel_rfl) ?_ _
      go_wp2
      refine bodyPost_ret (results_cc rfl rfl rfl ZE.out.cel.whole YE.out.cel.whole _ _ Tryz.underlying119 Tryz.underlying63 rfl rfl (by kernel_rfl) (by kernel_rfl)) rfl ?_
      exact ⟨s11, ⟨a1, a2, a3, a4, a5, a6, rs, ws, false⟩, _, _, _, rfl, D11.out, ownsRow_baseN IE.out (by omega), ownsRow_baseN JE.out (by omega), BE.out, RAN.out, MOD.out⟩
    ·refine step_ld (by rfl) 63 _ rfl (w.heap.size + 3) 0 rfl [encN a1, encN a2, encN a3, encN a4, encN a5, encN a6,.slice A1 rs.length k1,.slice A2 ws.length k2,.bool false] _ ((show wf.drew.rangeAt (w.heap.size + 3) 0 _ from CF.out.cel.whole)) Tryz.underlying63 rfl (by kernel_rfl) ?_
     try go_simp
     refine hK _ _ ?_
     clear hK K
     refine wpAny_ready (rs := [0]) (by kernel_rfl) (by simp) ?_
     refine AllReady.cons rfl (fun K hK => ?_) AllReady.nil
     refine step_ld (by rfl) 119 _ rfl w.heap.size 0 rfl [.slice A11 s11.xs.length c11,J U (s11.er : Int)] _ ((show wf.drew.rangeAt w.heap.size 0 _ from PF.out.cel.whole)) Tryz.underlying119 rfl (by kernel_rfl) ?_
     try go_simp
     refine hK _ _ ?_
     clear hK K
     refine wpAny_ready (rs := [2]) (by kernel_rfl) (by simp) ?_
     refine AllReady.cons rfl (fun K hK => ?_) AllReady.nil
     refine step_st (by rfl) 119 _ _ rfl (w.heap.size + 1) 0 [.slice A11 s11.xs.length c11,J U (s11.er : Int)] rfl rfl TZ.out (by kernel_rfl) (by kernel_rfl) ?_
     try go_simp
     refine hK _ _ ?_
     clear hK K
     refine wpAny_ready (rs := [3]) (by kernel_rfl) (by simp) ?_
     refine AllReady.cons rfl (fun K hK => ?_) AllReady.nil
     refine step_st (by rfl) 63 _ _ rfl (w.heap.size + 2) 0 [encN a1, encN a2, encN a3, encN a4, encN a5, encN a6,.slice A1 rs.length k1,.slice A2 ws.length k2,.bool false] rfl rfl TY.out (by kernel_rfl) (by kernel_rfl) ?_
     try go_simp
     refine hK _ _ ?_
     clear hK K
     refine wpAny_done (by kernel_rfl) ?_ _
     go_wp2
     refine bodyPost_ret (results_cc rfl rfl rfl ZE.out.cel.whole YE.out.cel.whole _ _ Tryz.underlying119 Tryz.underlying63 rfl rfl (by kernel_rfl) (by kernel_rfl)) rfl ?_
     exact ⟨s11, ⟨a1, a2, a3, a4, a5, a6, rs, ws, false⟩, _, _, _, rfl, D11.out, ownsRow_baseN IE.out (by omega), ownsRow_baseN JE.out (by omega), BE.out, RAN.out, MOD.out⟩
   ·have HB1 := V hb1
    obtain ⟨qv, hqv⟩ : ∃ qv, qv = decide (b = 1) := ⟨_, rfl⟩
    have qb : ((b : Int) == 1) = qv := by
     rw [hqv]
     by_cases h : b = 1
     ·subst h; rfl
     ·rw [decide_eq_false h, beq_eq_false_iff_ne]; omega
    have HQV := V hqv
    clear hqv
    have cc := C10b.out.cell 8 rfl
    have cf := C10b.out.soft 8
    have P10ba := V (P10b.out.bel (Bel.store (((w10).setCell ⟨w.heap.size, 0, none⟩ (.slice A10 s10.xs.length c10)).setCell ⟨w.heap.size, 1, none⟩ (J U (s10.er : Int))) (w.heap.size + 3) 8 (.bool qv)) (by omega))
    have Z10ba := V (Z10b.out.bel (Bel.store (((w10).setCell ⟨w.heap.size, 0, none⟩ (.slice A10 s10.xs.length c10)).setCell ⟨w.heap.size, 1, none⟩ (J U (s10.er : Int))) (w.heap.size + 3) 8 (.bool qv)) (by omega))
    have Y10ba := V (Y10b.out.bel (Bel.store (((w10).setCell ⟨w.heap.size, 0, none⟩ (.slice A10 s10.xs.length c10)).setCell ⟨w.heap.size, 1, none⟩ (J U (s10.er : Int))) (w.heap.size + 3) 8 (.bool qv)) (by omega))
    have C10ba := V (show Hold ((((w10).setCell ⟨w.heap.size, 0, none⟩ (.slice A10 s10.xs.length c10)).setCell ⟨w.heap.size, 1, none⟩ (J U (s10.er : Int))).setCell ⟨(w.heap.size + 3), 8, none⟩ (.bool qv)) (w.heap.size + 3) 63 [encN a1, encN a2, encN a3, encN a4, encN a5, encN a6, va, vb,.bool qv] from C10b.out.put 8 (.bool qv))
    have I10ba := V (ownsRow_put I10b.out (w.heap.size + 3) 8 (.bool qv) (fun q e => by have := KV.out q e; omega))
    have J10ba := V (ownsRow_put J10b.out (w.heap.size + 3) 8 (.bool qv) (fun q e => by have := KW.out q e; omega))
    have B10ba := V (B10b.out.setCell (p := ⟨(w.heap.size + 3), 8, none⟩) (by show w.heap.size ≤ (w.heap.size + 3); omega) (.bool qv))
    clear P10b Z10b Y10b C10b I10b J10b B10b
    obtain ⟨wf, ef⟩ : ∃ wf, wf = (((w10).setCell ⟨w.heap.size, 0, none⟩ (.slice A10 s10.xs.length c10)).setCell ⟨w.heap.size, 1, none⟩ (J U (s10.er : Int))).setCell ⟨(w.heap.size + 3), 8, none⟩ (.bool qv) := ⟨_, rfl⟩
    have PF := V (ef ▸ P10ba.out)
    have ZF := V (ef ▸ Z10ba.out)
    have YF := V (ef ▸ Y10ba.out)
    have CF := V (ef ▸ C10ba.out)
    have IF := V (ef ▸ I10ba.out)
    have JF := V (ef ▸ J10ba.out)
    have BF := V (ef ▸ B10ba.out)
    clear P10ba Z10ba Y10ba C10ba I10ba J10ba B10ba
    go_wp2
    rw [← ef]
    clear ef cc cf za0 zb0 za1 zb1
    obtain ⟨A1, k1, rfl⟩ := ownsRow_slice IF.out
    obtain ⟨A2, k2, rfl⟩ := ownsRow_slice JF.out
    have TZ := V (show wf.drew.there (w.heap.size + 1) 0 ([.slice A10 s10.xs.length c10,J U (s10.er : Int)] : List Value).length from ZF.out.there (Nat.le_refl 2))
    have SZ := bel_setCells wf.drew (w.heap.size + 1) [.slice A10 s10.xs.length c10,J U (s10.er : Int)] 0
    have CZ := V (show Hold (wf.drew.setCells (w.heap.size + 1) 0 [.slice A10 s10.xs.length c10,J U (s10.er : Int)]) (w.heap.size + 3) 63 [encN a1, encN a2, encN a3, encN a4, encN a5, encN a6,.slice A1 rs.length k1,.slice A2 ws.length k2,.bool qv] from (show Hold wf.drew _ _ _ from CF.out).bel SZ (by omega))
    have YZ := V ((show Hold wf.drew (w.heap.size + 2) 63 [J U 0,J U 0,J U 0,J U 0,J U 0,J U 0,.slice none 0 0,.slice none 0 0,.bool false] from YF.out).bel SZ (by omega))
    have FZ := Hold.set [.slice A10 s10.xs.length c10,J U (s10.er : Int)] [] [.slice none 0 0,J U 0] [] rfl _ (show Hold wf.drew (w.heap.size + 1) 119 ([] ++ [.slice none 0 0,J U 0] ++ []) from ZF.out)
    have TY := V (show (wf.drew.setCells (w.heap.size + 1) 0 [.slice A10 s10.xs.length c10,J U (s10.er : Int)]).there (w.heap.size + 2) 0 ([encN a1, encN a2, encN a3, encN a4, encN a5, encN a6,.slice A1 rs.length k1,.slice A2 ws.length k2,.bool qv] : List Value).length from YZ.out.there (Nat.le_refl 9))
    have SY := bel_setCells (wf.drew.setCells (w.heap.size + 1) 0 [.slice A10 s10.xs.length c10,J U (s10.er : Int)]) (w.heap.size + 2) [encN a1, encN a2, encN a3, encN a4, encN a5, encN a6,.slice A1 rs.length k1,.slice A2 ws.length k2,.bool qv] 0
    have FY := Hold.set [encN a1, encN a2, encN a3, encN a4, encN a5, encN a6,.slice A1 rs.length k1,.slice A2 ws.length k2,.bool qv] [] [J U 0,J U 0,J U 0,J U 0,J U 0,J U 0,.slice none 0 0,.slice none 0 0,.bool false] [] rfl _ (show Hold (wf.drew.setCells (w.heap.size + 1) 0 [.slice A10 s10.xs.length c10,J U (s10.er : Int)]) (w.heap.size + 2) 63 ([] ++ [J U 0,J U 0,J U 0,J U 0,J U 0,J U 0,.slice none 0 0,.slice none 0 0,.bool false] ++ []) from YZ.out)
    have ZE := V ((show Hold (wf.drew.setCells (w.heap.size + 1) 0 [.slice A10 s10.xs.length c10,J U (s10.er : Int)]) (w.heap.size + 1) 119 [.slice A10 s10.xs.length c10,J U (s10.er : Int)] from FZ).bel SY (by omega))
    have YE := V (show Hold ((wf.drew.setCells (w.heap.size + 1) 0 [.slice A10 s10.xs.length c10,J U (s10.er : Int)]).setCells (w.heap.size + 2) 0 [encN a1, encN a2, encN a3, encN a4, encN a5, encN a6,.slice A1 rs.length k1,.slice A2 ws.length k2,.bool qv]) (w.heap.size + 2) 63 [encN a1, encN a2, encN a3, encN a4, encN a5, encN a6,.slice A1 rs.length k1,.slice A2 ws.length k2,.bool qv] from FY)
    have IE := V (ownsRow_bel (ownsRow_bel (ownsRow_bel (g := 0) IF.out (Bel.of (Below.refl _ _).drew) (by omega)) SZ (by omega)) SY (by omega))
    have JE := V (ownsRow_bel (ownsRow_bel (ownsRow_bel (g := 0) JF.out (Bel.of (Below.refl _ _).drew) (by omega)) SZ (by omega)) SY (by omega))
    have BE := V (below_setCells (by omega : w.heap.size ≤ w.heap.size + 2) [encN a1, encN a2, encN a3, encN a4, encN a5, encN a6,.slice A1 rs.length k1,.slice A2 ws.length k2,.bool qv] 0 _ _ (below_setCells (by omega : w.heap.size ≤ w.heap.size + 1) [.slice A10 s10.xs.length c10,J U (s10.er : Int)] 0 _ _ BF.out.drew))
    clear SZ SY FZ FY
    have MOD := V (show M.Mod ⟨a1, a2, a3, a4, a5, a6, rs, ws, qv⟩ from ⟨by have := HMQ.out; show rs.length ≤ 20; omega, by have := HMV.out; show ws.length ≤ 20; omega, fun r hr => by have := HTQ.out r hr; omega, fun r hr => by have := (HTV.out r hr).1; omega, fun r hr => by have := (HTV.out r hr).2; omega⟩)
    have RAN := V (show P.Ran P.cmd s s10 ⟨a1, a2, a3, a4, a5, a6, rs, ws, qv⟩ from P.Ran.bind P.errs_num Ha1.out (P.Ran.bind P.errs_num Ha2.out (P.Ran.bind P.errs_num Ha3.out (P.Ran.bind P.errs_num Ha4.out (P.Ran.bind P.errs_num Ha5.out (P.Ran.bind P.errs_num Ha6.out (P.Ran.bind P.errs_few H7.out (P.Ran.bind (P.errs_rep P.errs_rd _) HRQ.out (P.Ran.bind P.errs_few H8.out (P.Ran.bind (P.errs_rep P.errs_wr _) HRV.out (P.Ran.bind P.errs_boolean (P.Ran.bind P.errs_one H10.out (by rw [if_neg HB1.out, HQV.out]; exact P.Ran.ret _ _)) (P.Ran.ret _ _))))))))))))
    refine wp_region_any (by kernel_rfl) ?_
    try (change wpAny _ _ _ _ _ _ _ (World.drew _))
    refine wpAny_ready (rs := [0, 1]) (by kernel_rfl) (by simp) ?_
    refine AllReady.cons rfl (fun K hK => ?_) (AllReady.cons rfl (fun K hK => ?_) AllReady.nil)
    ·refine step_ld (by rfl) 119 _ rfl w.heap.size 0 rfl [.slice A10 s10.xs.length c10,J U (s10.er : Int)] _ ((show wf.drew.rangeAt w.heap.size 0 _ from PF.out.cel.whole)) Tryz.underlying119 rfl (by kernel_rfl) ?_
     try go_simp
     refine hK _ _ ?_
     clear hK K
     refine wpAny_ready (rs := [1, 2]) (by kernel_rfl) (by simp) ?_
     refine AllReady.cons rfl (fun K hK => ?_) (AllReady.cons rfl (fun K hK => ?_) AllReady.nil)
     ·refine step_ld (by rfl) 63 _ rfl (w.heap.size + 3) 0 rfl [encN a1, encN a2, encN a3, encN a4, encN a5, encN a6,.slice A1 rs.length k1,.slice A2 ws.length k2,.bool qv] _ ((show wf.drew.rangeAt (w.heap.size + 3) 0 _ from CF.out.cel.whole)) Tryz.underlying63 rfl (by kernel_rfl) ?_
      try go_simp
      refine hK _ _ ?_
      clear hK K
      refine wpAny_ready (rs := [2]) (by kernel_rfl) (by simp) ?_
      refine AllReady.cons rfl (fun K hK => ?_) AllReady.nil
      refine step_st (by rfl) 119 _ _ rfl (w.heap.size + 1) 0 [.slice A10 s10.xs.length c10,J U (s10.er : Int)] rfl rfl TZ.out (by kernel_rfl) (by kernel_rfl) ?_
      try go_simp
      refine hK _ _ ?_
      clear hK K
      refine wpAny_ready (rs := [3]) (by kernel_rfl) (by simp) ?_
      refine AllReady.cons rfl (fun K hK => ?_) AllReady.nil
      refine step_st (by rfl) 63 _ _ rfl (w.heap.size + 2) 0 [encN a1, encN a2, encN a3, encN a4, encN a5, encN a6,.slice A1 rs.length k1,.slice A2 ws.length k2,.bool qv] rfl rfl TY.out (by kernel_rfl) (by kernel_rfl) ?_
      try go_simp
      refine hK _ _ ?_
      clear hK K
      refine wpAny_done (by kernel_rfl) ?_ _
      go_wp2
      refine bodyPost_ret (results_cc rfl rfl rfl ZE.out.cel.whole YE.out.cel.whole _ _ Tryz.underlying119 Tryz.underlying63 rfl rfl (by kernel_rfl) (by kernel_rfl)) rfl ?_
      exact ⟨s10, ⟨a1, a2, a3, a4, a5, a6, rs, ws, qv⟩, _, _, _, rfl, D10.out, ownsRow_baseN IE.out (by omega), ownsRow_baseN JE.out (by omega), BE.out, RAN.out, MOD.out⟩
     ·refine step_st (by rfl) 119 _ _ rfl (w.heap.size + 1) 0 [.slice A10 s10.xs.length c10,J U (s10.er : Int)] rfl rfl TZ.out (by kernel_rfl) (by kernel_rfl) ?_
      try go_simp
      refine hK _ _ ?_
      clear hK K
      refine wpAny_ready (rs := [1]) (by kernel_rfl) (by simp) ?_
      refine AllReady.cons rfl (fun K hK => ?_) AllReady.nil
      refine step_ld (by rfl) 63 _ rfl (w.heap.size + 3) 0 rfl [encN a1, encN a2, encN a3, encN a4, encN a5, encN a6,.slice A1 rs.length k1,.slice A2 ws.length k2,.bool qv] _ (CZ.out.cel.whole) Tryz.underlying63 rfl (by kernel_rfl) ?_
      try go_simp
      refine hK _ _ ?_
      clear hK K
      refine wpAny_ready (rs := [3]) (by kernel_rfl) (by simp) ?_
      refine AllReady.cons rfl (fun K hK => ?_) AllReady.nil
      refine step_st (by rfl) 63 _ _ rfl (w.heap.size + 2) 0 [encN a1, encN a2, encN a3, encN a4, encN a5, encN a6,.slice A1 rs.length k1,.slice A2 ws.length k2,.bool qv] rfl rfl TY.out (by kernel_rfl) (by kernel_rfl) ?_
      try go_simp
      refine hK _ _ ?_
      clear hK K
      refine wpAny_done (by kernel_rfl) ?_ _
      go_wp2
      refine bodyPost_ret (results_cc rfl rfl rfl ZE.out.cel.whole YE.out.cel.whole _ _ Tryz.underlying119 Tryz.underlying63 rfl rfl (by kernel_rfl) (by kernel_rfl)) rfl ?_
      exact ⟨s10, ⟨a1, a2, a3, a4, a5, a6, rs, ws, qv⟩, _, _, _, rfl, D10.out, ownsRow_baseN IE.out (by omega), ownsRow_baseN JE.out (by omega), BE.out, RAN.out, MOD.out⟩
    ·refine step_ld (by rfl) 63 _ rfl (w.heap.size + 3) 0 rfl [encN a1, encN a2, encN a3, encN a4, encN a5, encN a6,.slice A1 rs.length k1,.slice A2 ws.length k2,.bool qv] _ ((show wf.drew.rangeAt (w.heap.size + 3) 0 _ from CF.out.cel.whole)) Tryz.underlying63 rfl (by kernel_rfl) ?_
     try go_simp
     refine hK _ _ ?_
     clear hK K
     refine wpAny_ready (rs := [0]) (by kernel_rfl) (by simp) ?_
     refine AllReady.cons rfl (fun K hK => ?_) AllReady.nil
     refine step_ld (by rfl) 119 _ rfl w.heap.size 0 rfl [.slice A10 s10.xs.length c10,J U (s10.er : Int)] _ ((show wf.drew.rangeAt w.heap.size 0 _ from PF.out.cel.whole)) Tryz.underlying119 rfl (by kernel_rfl) ?_
     try go_simp
     refine hK _ _ ?_
     clear hK K
     refine wpAny_ready (rs := [2]) (by kernel_rfl) (by simp) ?_
     refine AllReady.cons rfl (fun K hK => ?_) AllReady.nil
     refine step_st (by rfl) 119 _ _ rfl (w.heap.size + 1) 0 [.slice A10 s10.xs.length c10,J U (s10.er : Int)] rfl rfl TZ.out (by kernel_rfl) (by kernel_rfl) ?_
     try go_simp
     refine hK _ _ ?_
     clear hK K
     refine wpAny_ready (rs := [3]) (by kernel_rfl) (by simp) ?_
     refine AllReady.cons rfl (fun K hK => ?_) AllReady.nil
     refine step_st (by rfl) 63 _ _ rfl (w.heap.size + 2) 0 [encN a1, encN a2, encN a3, encN a4, encN a5, encN a6,.slice A1 rs.length k1,.slice A2 ws.length k2,.bool qv] rfl rfl TY.out (by kernel_rfl) (by kernel_rfl) ?_
     try go_simp
     refine hK _ _ ?_
     clear hK K
     refine wpAny_done (by kernel_rfl) ?_ _
     go_wp2
     refine bodyPost_ret (results_cc rfl rfl rfl ZE.out.cel.whole YE.out.cel.whole _ _ Tryz.underlying119 Tryz.underlying63 rfl rfl (by kernel_rfl) (by kernel_rfl)) rfl ?_
     exact ⟨s10, ⟨a1, a2, a3, a4, a5, a6, rs, ws, qv⟩, _, _, _, rfl, D10.out, ownsRow_baseN IE.out (by omega), ownsRow_baseN JE.out (by omega), BE.out, RAN.out, MOD.out⟩
open Go.ChangeShapes Go.WideShapes Go.ChangeAt Go.RowKit
def DcR (w0 : World) (s : P.Sr) (w : World) (e : Ending) (w' : World) : Prop := ∃ (s1 : P.Sr) (r : M.Rec) (va vb x : Value), e = .returned (.tuple #[x,.agg #[J U r.ir,J U r.is,J U r.st,J U r.pn,J U r.pr,J U r.bn,J U r.br,J U r.c.k,J U r.c.tc,J U r.c.tn,J U r.c.tt,J U r.c.tk,J U r.c.sh, va, vb,.bool r.c.cm,J U r.sq,J U r.d0,J U r.d1,J U r.d2,J U r.d3,J U r.d4,J U r.d5,J U r.d6,.bool r.kp]]) ∧ Prt w0 x s1 ∧ w'.ownsRow w.heap.size 113 3 va r.c.rs.length (rdsC r.c.rs) ∧ w'.ownsRow w.heap.size 115 2 vb r.c.ws.length (wrsC r.c.ws) ∧ Below w.heap.size w w' ∧ P.Ran P.rcd s s1 r ∧ M.Mod r.c
theorem record_doc {w0 w : World} {x : Value} {s : P.Sr} (hw : Below w0.heap.size w0 w) (h : Prt w0 x s) : Calls Tryz.prog 58 #[x] w (DcR w0 s w) := by
 obtain ⟨A0, c0, rfl, hq⟩ := h
 have D0 := V (show Prt w0 _ s from ⟨A0, c0, rfl, hq⟩)
 have HW := V hw
 have P0 := V ((((Hold.new w [.slice A0 s.xs.length c0,J U (s.er : Int)] 119).alloc (.cells #[.slice none 0 0,J U 0] 119)).alloc (.cells #[J U 0,J U 0,J U 0,J U 0,J U 0,J U 0,J U 0,J U 0,J U 0,J U 0,J U 0,J U 0,J U 0,.slice none 0 0,.slice none 0 0,.bool false,J U 0,J U 0,J U 0,J U 0,J U 0,J U 0,J U 0,J U 0,.bool false] 67)).alloc (.cells #[J U 0,J U 0,J U 0,J U 0,J U 0,J U 0,J U 0,J U 0,J U 0,J U 0,J U 0,J U 0,J U 0,.slice none 0 0,.slice none 0 0,.bool false,J U 0,J U 0,J U 0,J U 0,J U 0,J U 0,J U 0,J U 0,.bool false] 67))
 have Z0 := V (((Hold.new1 w (.cells #[.slice A0 s.xs.length c0,J U (s.er : Int)] 119) [.slice none 0 0,J U 0] 119).alloc (.cells #[J U 0,J U 0,J U 0,J U 0,J U 0,J U 0,J U 0,J U 0,J U 0,J U 0,J U 0,J U 0,J U 0,.slice none 0 0,.slice none 0 0,.bool false,J U 0,J U 0,J U 0,J U 0,J U 0,J U 0,J U 0,J U 0,.bool false] 67)).alloc (.cells #[J U 0,J U 0,J U 0,J U 0,J U 0,J U 0,J U 0,J U 0,J U 0,J U 0,J U 0,J U 0,J U 0,.slice none 0 0,.slice none 0 0,.bool false,J U 0,J U 0,J U 0,J U 0,J U 0,J U 0,J U 0,J U 0,.bool false] 67))
 have Y0 := V ((show Hold (((w.alloc (.cells #[.slice A0 s.xs.length c0,J U (s.er : Int)] 119)).alloc (.cells #[.slice none 0 0,J U 0] 119)).alloc (.cells #[J U 0,J U 0,J U 0,J U 0,J U 0,J U 0,J U 0,J U 0,J U 0,J U 0,J U 0,J U 0,J U 0,.slice none 0 0,.slice none 0 0,.bool false,J U 0,J U 0,J U 0,J U 0,J U 0,J U 0,J U 0,J U 0,.bool false] 67)) (w.heap.size + 2) 67 [J U 0,J U 0,J U 0,J U 0,J U 0,J U 0,J U 0,J U 0,J U 0,J U 0,J U 0,J U 0,J U 0,.slice none 0 0,.slice none 0 0,.bool false,J U 0,J U 0,J U 0,J U 0,J U 0,J U 0,J U 0,J U 0,.bool false] by simpa using Hold.new ((w.alloc (.cells #[.slice A0 s.xs.length c0,J U (s.er : Int)] 119)).alloc (.cells #[.slice none 0 0,J U 0] 119)) [J U 0,J U 0,J U 0,J U 0,J U 0,J U 0,J U 0,J U 0,J U 0,J U 0,J U 0,J U 0,J U 0,.slice none 0 0,.slice none 0 0,.bool false,J U 0,J U 0,J U 0,J U 0,J U 0,J U 0,J U 0,J U 0,.bool false] 67).alloc (.cells #[J U 0,J U 0,J U 0,J U 0,J U 0,J U 0,J U 0,J U 0,J U 0,J U 0,J U 0,J U 0,J U 0,.slice none 0 0,.slice none 0 0,.bool false,J U 0,J U 0,J U 0,J U 0,J U 0,J U 0,J U 0,J U 0,.bool false] 67))
 have C0 := V (show Hold ((((w.alloc (.cells #[.slice A0 s.xs.length c0,J U (s.er : Int)] 119)).alloc (.cells #[.slice none 0 0,J U 0] 119)).alloc (.cells #[J U 0,J U 0,J U 0,J U 0,J U 0,J U 0,J U 0,J U 0,J U 0,J U 0,J U 0,J U 0,J U 0,.slice none 0 0,.slice none 0 0,.bool false,J U 0,J U 0,J U 0,J U 0,J U 0,J U 0,J U 0,J U 0,.bool false] 67)).alloc (.cells #[J U 0,J U 0,J U 0,J U 0,J U 0,J U 0,J U 0,J U 0,J U 0,J U 0,J U 0,J U 0,J U 0,.slice none 0 0,.slice none 0 0,.bool false,J U 0,J U 0,J U 0,J U 0,J U 0,J U 0,J U 0,J U 0,.bool false] 67)) (w.heap.size + 3) 67 [J U 0,J U 0,J U 0,J U 0,J U 0,J U 0,J U 0,J U 0,J U 0,J U 0,J U 0,J U 0,J U 0,.slice none 0 0,.slice none 0 0,.bool false,J U 0,J U 0,J U 0,J U 0,J U 0,J U 0,J U 0,J U 0,.bool false] by simpa using Hold.new (((w.alloc (.cells #[.slice A0 s.xs.length c0,J U (s.er : Int)] 119)).alloc (.cells #[.slice none 0 0,J U 0] 119)).alloc (.cells #[J U 0,J U 0,J U 0,J U 0,J U 0,J U 0,J U 0,J U 0,J U 0,J U 0,J U 0,J U 0,J U 0,.slice none 0 0,.slice none 0 0,.bool false,J U 0,J U 0,J U 0,J U 0,J U 0,J U 0,J U 0,J U 0,.bool false] 67)) [J U 0,J U 0,J U 0,J U 0,J U 0,J U 0,J U 0,J U 0,J U 0,J U 0,J U 0,J U 0,J U 0,.slice none 0 0,.slice none 0 0,.bool false,J U 0,J U 0,J U 0,J U 0,J U 0,J U 0,J U 0,J U 0,.bool false] 67)
 have B0 := V (below_new (o := .cells #[J U 0,J U 0,J U 0,J U 0,J U 0,J U 0,J U 0,J U 0,J U 0,J U 0,J U 0,J U 0,J U 0,.slice none 0 0,.slice none 0 0,.bool false,J U 0,J U 0,J U 0,J U 0,J U 0,J U 0,J U 0,J U 0,.bool false] 67) (below_new (o := .cells #[J U 0,J U 0,J U 0,J U 0,J U 0,J U 0,J U 0,J U 0,J U 0,J U 0,J U 0,J U 0,J U 0,.slice none 0 0,.slice none 0 0,.bool false,J U 0,J U 0,J U 0,J U 0,J U 0,J U 0,J U 0,J U 0,.bool false] 67) (below_new (o := .cells #[.slice none 0 0,J U 0] 119) (below_new (o := .cells #[.slice A0 s.xs.length c0,J U (s.er : Int)] 119) (Below.refl w.heap.size w)))))
 clear hq hw
 go_enter Tryz.func58, Tryz.ntmps58
 go_wp2_with (first | (with_reducible refine wpList_buildTo rfl 67 #[] rfl (some 7) rfl #[J U 0,J U 0,J U 0,J U 0,J U 0,J U 0,J U 0,J U 0,J U 0,J U 0,J U 0,J U 0,J U 0,.slice none 0 0,.slice none 0 0,.bool false,J U 0,J U 0,J U 0,J U 0,J U 0,J U 0,J U 0,J U 0,.bool false] (by kernel_rfl) ?_) | (with_reducible refine wpList_store_fresh rfl 67 _ _ rfl (w.heap.size + 1 + 1 + 1) (by simp) 67 _ [J U 0,J U 0,J U 0,J U 0,J U 0,J U 0,J U 0,J U 0,J U 0,J U 0,J U 0,J U 0,J U 0,.slice none 0 0,.slice none 0 0,.bool false,J U 0,J U 0,J U 0,J U 0,J U 0,J U 0,J U 0,J U 0,.bool false] rfl rfl rfl (by kernel_rfl) rfl ?_; obtain ⟨wk, ek⟩ : ∃ wk, wk = (((w.alloc (.cells #[.slice A0 s.xs.length c0,J U (s.er : Int)] 119)).alloc (.cells #[.slice none 0 0,J U 0] 119)).alloc (.cells #[J U 0,J U 0,J U 0,J U 0,J U 0,J U 0,J U 0,J U 0,J U 0,J U 0,J U 0,J U 0,J U 0,.slice none 0 0,.slice none 0 0,.bool false,J U 0,J U 0,J U 0,J U 0,J U 0,J U 0,J U 0,J U 0,.bool false] 67)).alloc (.cells #[J U 0,J U 0,J U 0,J U 0,J U 0,J U 0,J U 0,J U 0,J U 0,J U 0,J U 0,J U 0,J U 0,.slice none 0 0,.slice none 0 0,.bool false,J U 0,J U 0,J U 0,J U 0,J U 0,J U 0,J U 0,J U 0,.bool false] 67) := ⟨_, rfl⟩; rw [← ek] at P0 Z0 Y0 C0 B0 ⊢; clear ek; have p0 := P0.out.cell 0 rfl; have p1 := P0.out.cell 1 rfl))
 go_wp2_with (fail)
 refine (number_doc (HW.out.trans (B0.out.mono HW.out.size)) D0.out).mono ?_
 rintro e w1 ⟨s1, a1, x1, rfl, -, hx, hb, hp⟩
 obtain ⟨A1, c1, rfl, hq⟩ := hx
 have D1 := V (show Prt w0 _ s1 from ⟨A1, c1, rfl, hq⟩)
 clear hq
 have P1 := V (P0.out.on hb)
 have Z1 := V (Z0.out.on hb)
 have Y1 := V (Y0.out.on hb)
 have C1 := V (C0.out.on hb)
 have B1 := V (below_on B0.out hb)
 have Ha1 := V hp
 clear hb hp
 clear P0 Z0 Y0 C0 B0
 clear p0 p1
 have za0 := P1.out.cell 0 rfl
 have zb0 := P1.out.soft 0
 have za1 := P1.out.cell 1 rfl
 have zb1 := P1.out.soft 1
 have za2 := C1.out.cell 0 rfl
 have zb2 := C1.out.soft 0
 have P1a := V (show Hold ((w1).setCell ⟨w.heap.size, 0, none⟩ (.slice A1 s1.xs.length c1)) w.heap.size 119 [.slice A1 s1.xs.length c1,J U (s.er : Int)] from P1.out.put 0 (.slice A1 s1.xs.length c1))
 have Z1a := V (Z1.out.bel (Bel.store (w1) w.heap.size 0 (.slice A1 s1.xs.length c1)) (by omega))
 have Y1a := V (Y1.out.bel (Bel.store (w1) w.heap.size 0 (.slice A1 s1.xs.length c1)) (by omega))
 have C1a := V (C1.out.bel (Bel.store (w1) w.heap.size 0 (.slice A1 s1.xs.length c1)) (by omega))
 have B1a := V (B1.out.setCell (p := ⟨w.heap.size, 0, none⟩) (by show w.heap.size ≤ w.heap.size; omega) (.slice A1 s1.xs.length c1))
 clear P1 Z1 Y1 C1 B1
 have P1b := V (show Hold (((w1).setCell ⟨w.heap.size, 0, none⟩ (.slice A1 s1.xs.length c1)).setCell ⟨w.heap.size, 1, none⟩ (J U (s1.er : Int))) w.heap.size 119 [.slice A1 s1.xs.length c1,J U (s1.er : Int)] from P1a.out.put 1 (J U (s1.er : Int)))
 have Z1b := V (Z1a.out.bel (Bel.store ((w1).setCell ⟨w.heap.size, 0, none⟩ (.slice A1 s1.xs.length c1)) w.heap.size 1 (J U (s1.er : Int))) (by omega))
 have Y1b := V (Y1a.out.bel (Bel.store ((w1).setCell ⟨w.heap.size, 0, none⟩ (.slice A1 s1.xs.length c1)) w.heap.size 1 (J U (s1.er : Int))) (by omega))
 have C1b := V (C1a.out.bel (Bel.store ((w1).setCell ⟨w.heap.size, 0, none⟩ (.slice A1 s1.xs.length c1)) w.heap.size 1 (J U (s1.er : Int))) (by omega))
 have B1b := V (B1a.out.setCell (p := ⟨w.heap.size, 1, none⟩) (by show w.heap.size ≤ w.heap.size; omega) (J U (s1.er : Int)))
 clear P1a Z1a Y1a C1a B1a
 have P1c := V (P1b.out.bel (Bel.store (((w1).setCell ⟨w.heap.size, 0, none⟩ (.slice A1 s1.xs.length c1)).setCell ⟨w.heap.size, 1, none⟩ (J U (s1.er : Int))) (w.heap.size + 3) 0 (encN a1)) (by omega))
 have Z1c := V (Z1b.out.bel (Bel.store (((w1).setCell ⟨w.heap.size, 0, none⟩ (.slice A1 s1.xs.length c1)).setCell ⟨w.heap.size, 1, none⟩ (J U (s1.er : Int))) (w.heap.size + 3) 0 (encN a1)) (by omega))
 have Y1c := V (Y1b.out.bel (Bel.store (((w1).setCell ⟨w.heap.size, 0, none⟩ (.slice A1 s1.xs.length c1)).setCell ⟨w.heap.size, 1, none⟩ (J U (s1.er : Int))) (w.heap.size + 3) 0 (encN a1)) (by omega))
 have C1c := V (show Hold ((((w1).setCell ⟨w.heap.size, 0, none⟩ (.slice A1 s1.xs.length c1)).setCell ⟨w.heap.size, 1, none⟩ (J U (s1.er : Int))).setCell ⟨(w.heap.size + 3), 0, none⟩ (encN a1)) (w.heap.size + 3) 67 [encN a1,J U 0,J U 0,J U 0,J U 0,J U 0,J U 0,J U 0,J U 0,J U 0,J U 0,J U 0,J U 0,.slice none 0 0,.slice none 0 0,.bool false,J U 0,J U 0,J U 0,J U 0,J U 0,J U 0,J U 0,J U 0,.bool false] from C1b.out.put 0 (encN a1))
 have B1c := V (B1b.out.setCell (p := ⟨(w.heap.size + 3), 0, none⟩) (by show w.heap.size ≤ (w.heap.size + 3); omega) (encN a1))
 clear P1b Z1b Y1b C1b B1b
 go_wp2_with (fail)
 refine (number_doc (HW.out.trans (B1c.out.mono HW.out.size)) D1.out).mono ?_
 rintro e w2 ⟨s2, a2, x2, rfl, -, hx, hb, hp⟩
 obtain ⟨A2, c2, rfl, hq⟩ := hx
 have D2 := V (show Prt w0 _ s2 from ⟨A2, c2, rfl, hq⟩)
 clear hq
 have P2 := V (P1c.out.on hb)
 have Z2 := V (Z1c.out.on hb)
 have Y2 := V (Y1c.out.on hb)
 have C2 := V (C1c.out.on hb)
 have B2 := V (below_on B1c.out hb)
 have Ha2 := V hp
 clear hb hp
 clear P1c Z1c Y1c C1c B1c
 clear za0 zb0 za1 zb1 za2 zb2
 have za0 := P2.out.cell 0 rfl
 have zb0 := P2.out.soft 0
 have za1 := P2.out.cell 1 rfl
 have zb1 := P2.out.soft 1
 have za2 := C2.out.cell 1 rfl
 have zb2 := C2.out.soft 1
 have P2a := V (show Hold ((w2).setCell ⟨w.heap.size, 0, none⟩ (.slice A2 s2.xs.length c2)) w.heap.size 119 [.slice A2 s2.xs.length c2,J U (s1.er : Int)] from P2.out.put 0 (.slice A2 s2.xs.length c2))
 have Z2a := V (Z2.out.bel (Bel.store (w2) w.heap.size 0 (.slice A2 s2.xs.length c2)) (by omega))
 have Y2a := V (Y2.out.bel (Bel.store (w2) w.heap.size 0 (.slice A2 s2.xs.length c2)) (by omega))
 have C2a := V (C2.out.bel (Bel.store (w2) w.heap.size 0 (.slice A2 s2.xs.length c2)) (by omega))
 have B2a := V (B2.out.setCell (p := ⟨w.heap.size, 0, none⟩) (by show w.heap.size ≤ w.heap.size; omega) (.slice A2 s2.xs.length c2))
 clear P2 Z2 Y2 C2 B2
 have P2b := V (show Hold (((w2).setCell ⟨w.heap.size, 0, none⟩ (.slice A2 s2.xs.length c2)).setCell ⟨w.heap.size, 1, none⟩ (J U (s2.er : Int))) w.heap.size 119 [.slice A2 s2.xs.length c2,J U (s2.er : Int)] from P2a.out.put 1 (J U (s2.er : Int)))
 have Z2b := V (Z2a.out.bel (Bel.store ((w2).setCell ⟨w.heap.size, 0, none⟩ (.slice A2 s2.xs.length c2)) w.heap.size 1 (J U (s2.er : Int))) (by omega))
 have Y2b := V (Y2a.out.bel (Bel.store ((w2).setCell ⟨w.heap.size, 0, none⟩ (.slice A2 s2.xs.length c2)) w.heap.size 1 (J U (s2.er : Int))) (by omega))
 have C2b := V (C2a.out.bel (Bel.store ((w2).setCell ⟨w.heap.size, 0, none⟩ (.slice A2 s2.xs.length c2)) w.heap.size 1 (J U (s2.er : Int))) (by omega))
 have B2b := V (B2a.out.setCell (p := ⟨w.heap.size, 1, none⟩) (by show w.heap.size ≤ w.heap.size; omega) (J U (s2.er : Int)))
 clear P2a Z2a Y2a C2a B2a
 have P2c := V (P2b.out.bel (Bel.store (((w2).setCell ⟨w.heap.size, 0, none⟩ (.slice A2 s2.xs.length c2)).setCell ⟨w.heap.size, 1, none⟩ (J U (s2.er : Int))) (w.heap.size + 3) 1 (encN a2)) (by omega))
 have Z2c := V (Z2b.out.bel (Bel.store (((w2).setCell ⟨w.heap.size, 0, none⟩ (.slice A2 s2.xs.length c2)).setCell ⟨w.heap.size, 1, none⟩ (J U (s2.er : Int))) (w.heap.size + 3) 1 (encN a2)) (by omega))
 have Y2c := V (Y2b.out.bel (Bel.store (((w2).setCell ⟨w.heap.size, 0, none⟩ (.slice A2 s2.xs.length c2)).setCell ⟨w.heap.size, 1, none⟩ (J U (s2.er : Int))) (w.heap.size + 3) 1 (encN a2)) (by omega))
 have C2c := V (show Hold ((((w2).setCell ⟨w.heap.size, 0, none⟩ (.slice A2 s2.xs.length c2)).setCell ⟨w.heap.size, 1, none⟩ (J U (s2.er : Int))).setCell ⟨(w.heap.size + 3), 1, none⟩ (encN a2)) (w.heap.size + 3) 67 [encN a1, encN a2,J U 0,J U 0,J U 0,J U 0,J U 0,J U 0,J U 0,J U 0,J U 0,J U 0,J U 0,.slice none 0 0,.slice none 0 0,.bool false,J U 0,J U 0,J U 0,J U 0,J U 0,J U 0,J U 0,J U 0,.bool false] from C2b.out.put 1 (encN a2))
 have B2c := V (B2b.out.setCell (p := ⟨(w.heap.size + 3), 1, none⟩) (by show w.heap.size ≤ (w.heap.size + 3); omega) (encN a2))
 clear P2b Z2b Y2b C2b B2b
 go_wp2_with (fail)
 refine (number_doc (HW.out.trans (B2c.out.mono HW.out.size)) D2.out).mono ?_
 rintro e w3 ⟨s3, a3, x3, rfl, -, hx, hb, hp⟩
 obtain ⟨A3, c3, rfl, hq⟩ := hx
 have D3 := V (show Prt w0 _ s3 from ⟨A3, c3, rfl, hq⟩)
 clear hq
 have P3 := V (P2c.out.on hb)
 have Z3 := V (Z2c.out.on hb)
 have Y3 := V (Y2c.out.on hb)
 have C3 := V (C2c.out.on hb)
 have B3 := V (below_on B2c.out hb)
 have Ha3 := V hp
 clear hb hp
 clear P2c Z2c Y2c C2c B2c
 clear za0 zb0 za1 zb1 za2 zb2
 have za0 := P3.out.cell 0 rfl
 have zb0 := P3.out.soft 0
 have za1 := P3.out.cell 1 rfl
 have zb1 := P3.out.soft 1
 have za2 := C3.out.cell 2 rfl
 have zb2 := C3.out.soft 2
 have P3a := V (show Hold ((w3).setCell ⟨w.heap.size, 0, none⟩ (.slice A3 s3.xs.length c3)) w.heap.size 119 [.slice A3 s3.xs.length c3,J U (s2.er : Int)] from P3.out.put 0 (.slice A3 s3.xs.length c3))
 have Z3a := V (Z3.out.bel (Bel.store (w3) w.heap.size 0 (.slice A3 s3.xs.length c3)) (by omega))
 have Y3a := V (Y3.out.bel (Bel.store (w3) w.heap.size 0 (.slice A3 s3.xs.length c3)) (by omega))
 have C3a := V (C3.out.bel (Bel.store (w3) w.heap.size 0 (.slice A3 s3.xs.length c3)) (by omega))
 have B3a := V (B3.out.setCell (p := ⟨w.heap.size, 0, none⟩) (by show w.heap.size ≤ w.heap.size; omega) (.slice A3 s3.xs.length c3))
 clear P3 Z3 Y3 C3 B3
 have P3b := V (show Hold (((w3).setCell ⟨w.heap.size, 0, none⟩ (.slice A3 s3.xs.length c3)).setCell ⟨w.heap.size, 1, none⟩ (J U (s3.er : Int))) w.heap.size 119 [.slice A3 s3.xs.length c3,J U (s3.er : Int)] from P3a.out.put 1 (J U (s3.er : Int)))
 have Z3b := V (Z3a.out.bel (Bel.store ((w3).setCell ⟨w.heap.size, 0, none⟩ (.slice A3 s3.xs.length c3)) w.heap.size 1 (J U (s3.er : Int))) (by omega))
 have Y3b := V (Y3a.out.bel (Bel.store ((w3).setCell ⟨w.heap.size, 0, none⟩ (.slice A3 s3.xs.length c3)) w.heap.size 1 (J U (s3.er : Int))) (by omega))
 have C3b := V (C3a.out.bel (Bel.store ((w3).setCell ⟨w.heap.size, 0, none⟩ (.slice A3 s3.xs.length c3)) w.heap.size 1 (J U (s3.er : Int))) (by omega))
 have B3b := V (B3a.out.setCell (p := ⟨w.heap.size, 1, none⟩) (by show w.heap.size ≤ w.heap.size; omega) (J U (s3.er : Int)))
 clear P3a Z3a Y3a C3a B3a
 have P3c := V (P3b.out.bel (Bel.store (((w3).setCell ⟨w.heap.size, 0, none⟩ (.slice A3 s3.xs.length c3)).setCell ⟨w.heap.size, 1, none⟩ (J U (s3.er : Int))) (w.heap.size + 3) 2 (encN a3)) (by omega))
 have Z3c := V (Z3b.out.bel (Bel.store (((w3).setCell ⟨w.heap.size, 0, none⟩ (.slice A3 s3.xs.length c3)).setCell ⟨w.heap.size, 1, none⟩ (J U (s3.er : Int))) (w.heap.size + 3) 2 (encN a3)) (by omega))
 have Y3c := V (Y3b.out.bel (Bel.store (((w3).setCell ⟨w.heap.size, 0, none⟩ (.slice A3 s3.xs.length c3)).setCell ⟨w.heap.size, 1, none⟩ (J U (s3.er : Int))) (w.heap.size + 3) 2 (encN a3)) (by omega))
 have C3c := V (show Hold ((((w3).setCell ⟨w.heap.size, 0, none⟩ (.slice A3 s3.xs.length c3)).setCell ⟨w.heap.size, 1, none⟩ (J U (s3.er : Int))).setCell ⟨(w.heap.size + 3), 2, none⟩ (encN a3)) (w.heap.size + 3) 67 [encN a1, encN a2, encN a3,J U 0,J U 0,J U 0,J U 0,J U 0,J U 0,J U 0,J U 0,J U 0,J U 0,.slice none 0 0,.slice none 0 0,.bool false,J U 0,J U 0,J U 0,J U 0,J U 0,J U 0,J U 0,J U 0,.bool false] from C3b.out.put 2 (encN a3))
 have B3c := V (B3b.out.setCell (p := ⟨(w.heap.size + 3), 2, none⟩) (by show w.heap.size ≤ (w.heap.size + 3); omega) (encN a3))
 clear P3b Z3b Y3b C3b B3b
 go_wp2_with (fail)
 refine (number_doc (HW.out.trans (B3c.out.mono HW.out.size)) D3.out).mono ?_
 rintro e w4 ⟨s4, a4, x4, rfl, -, hx, hb, hp⟩
 obtain ⟨A4, c4, rfl, hq⟩ := hx
 have D4 := V (show Prt w0 _ s4 from ⟨A4, c4, rfl, hq⟩)
 clear hq
 have P4 := V (P3c.out.on hb)
 have Z4 := V (Z3c.out.on hb)
 have Y4 := V (Y3c.out.on hb)
 have C4 := V (C3c.out.on hb)
 have B4 := V (below_on B3c.out hb)
 have Ha4 := V hp
 clear hb hp
 clear P3c Z3c Y3c C3c B3c
 clear za0 zb0 za1 zb1 za2 zb2
 have za0 := P4.out.cell 0 rfl
 have zb0 := P4.out.soft 0
 have za1 := P4.out.cell 1 rfl
 have zb1 := P4.out.soft 1
 have za2 := C4.out.cell 3 rfl
 have zb2 := C4.out.soft 3
 have P4a := V (show Hold ((w4).setCell ⟨w.heap.size, 0, none⟩ (.slice A4 s4.xs.length c4)) w.heap.size 119 [.slice A4 s4.xs.length c4,J U (s3.er : Int)] from P4.out.put 0 (.slice A4 s4.xs.length c4))
 have Z4a := V (Z4.out.bel (Bel.store (w4) w.heap.size 0 (.slice A4 s4.xs.length c4)) (by omega))
 have Y4a := V (Y4.out.bel (Bel.store (w4) w.heap.size 0 (.slice A4 s4.xs.length c4)) (by omega))
 have C4a := V (C4.out.bel (Bel.store (w4) w.heap.size 0 (.slice A4 s4.xs.length c4)) (by omega))
 have B4a := V (B4.out.setCell (p := ⟨w.heap.size, 0, none⟩) (by show w.heap.size ≤ w.heap.size; omega) (.slice A4 s4.xs.length c4))
 clear P4 Z4 Y4 C4 B4
 have P4b := V (show Hold (((w4).setCell ⟨w.heap.size, 0, none⟩ (.slice A4 s4.xs.length c4)).setCell ⟨w.heap.size, 1, none⟩ (J U (s4.er : Int))) w.heap.size 119 [.slice A4 s4.xs.length c4,J U (s4.er : Int)] from P4a.out.put 1 (J U (s4.er : Int)))
 have Z4b := V (Z4a.out.bel (Bel.store ((w4).setCell ⟨w.heap.size, 0, none⟩ (.slice A4 s4.xs.length c4)) w.heap.size 1 (J U (s4.er : Int))) (by omega))
 have Y4b := V (Y4a.out.bel (Bel.store ((w4).setCell ⟨w.heap.size, 0, none⟩ (.slice A4 s4.xs.length c4)) w.heap.size 1 (J U (s4.er : Int))) (by omega))
 have C4b := V (C4a.out.bel (Bel.store ((w4).setCell ⟨w.heap.size, 0, none⟩ (.slice A4 s4.xs.length c4)) w.heap.size 1 (J U (s4.er : Int))) (by omega))
 have B4b := V (B4a.out.setCell (p := ⟨w.heap.size, 1, none⟩) (by show w.heap.size ≤ w.heap.size; omega) (J U (s4.er : Int)))
 clear P4a Z4a Y4a C4a B4a
 have P4c := V (P4b.out.bel (Bel.store (((w4).setCell ⟨w.heap.size, 0, none⟩ (.slice A4 s4.xs.length c4)).setCell ⟨w.heap.size, 1, none⟩ (J U (s4.er : Int))) (w.heap.size + 3) 3 (encN a4)) (by omega))
 have Z4c := V (Z4b.out.bel (Bel.store (((w4).setCell ⟨w.heap.size, 0, none⟩ (.slice A4 s4.xs.length c4)).setCell ⟨w.heap.size, 1, none⟩ (J U (s4.er : Int))) (w.heap.size + 3) 3 (encN a4)) (by omega))
 have Y4c := V (Y4b.out.bel (Bel.store (((w4).setCell ⟨w.heap.size, 0, none⟩ (.slice A4 s4.xs.length c4)).setCell ⟨w.heap.size, 1, none⟩ (J U (s4.er : Int))) (w.heap.size + 3) 3 (encN a4)) (by omega))
 have C4c := V (show Hold ((((w4).setCell ⟨w.heap.size, 0, none⟩ (.slice A4 s4.xs.length c4)).setCell ⟨w.heap.size, 1, none⟩ (J U (s4.er : Int))).setCell ⟨(w.heap.size + 3), 3, none⟩ (encN a4)) (w.heap.size + 3) 67 [encN a1, encN a2, encN a3, encN a4,J U 0,J U 0,J U 0,J U 0,J U 0,J U 0,J U 0,J U 0,J U 0,.slice none 0 0,.slice none 0 0,.bool false,J U 0,J U 0,J U 0,J U 0,J U 0,J U 0,J U 0,J U 0,.bool false] from C4b.out.put 3 (encN a4))
 have B4c := V (B4b.out.setCell (p := ⟨(w.heap.size + 3), 3, none⟩) (by show w.heap.size ≤ (w.heap.size + 3); omega) (encN a4))
 clear P4b Z4b Y4b C4b B4b
 go_wp2_with (fail)
 refine (number_doc (HW.out.trans (B4c.out.mono HW.out.size)) D4.out).mono ?_
 rintro e w5 ⟨s5, a5, x5, rfl, -, hx, hb, hp⟩
 obtain ⟨A5, c5, rfl, hq⟩ := hx
 have D5 := V (show Prt w0 _ s5 from ⟨A5, c5, rfl, hq⟩)
 clear hq
 have P5 := V (P4c.out.on hb)
 have Z5 := V (Z4c.out.on hb)
 have Y5 := V (Y4c.out.on hb)
 have C5 := V (C4c.out.on hb)
 have B5 := V (below_on B4c.out hb)
 have Ha5 := V hp
 clear hb hp
 clear P4c Z4c Y4c C4c B4c
 clear za0 zb0 za1 zb1 za2 zb2
 have za0 := P5.out.cell 0 rfl
 have zb0 := P5.out.soft 0
 have za1 := P5.out.cell 1 rfl
 have zb1 := P5.out.soft 1
 have za2 := C5.out.cell 4 rfl
 have zb2 := C5.out.soft 4
 have P5a := V (show Hold ((w5).setCell ⟨w.heap.size, 0, none⟩ (.slice A5 s5.xs.length c5)) w.heap.size 119 [.slice A5 s5.xs.length c5,J U (s4.er : Int)] from P5.out.put 0 (.slice A5 s5.xs.length c5))
 have Z5a := V (Z5.out.bel (Bel.store (w5) w.heap.size 0 (.slice A5 s5.xs.length c5)) (by omega))
 have Y5a := V (Y5.out.bel (Bel.store (w5) w.heap.size 0 (.slice A5 s5.xs.length c5)) (by omega))
 have C5a := V (C5.out.bel (Bel.store (w5) w.heap.size 0 (.slice A5 s5.xs.length c5)) (by omega))
 have B5a := V (B5.out.setCell (p := ⟨w.heap.size, 0, none⟩) (by show w.heap.size ≤ w.heap.size; omega) (.slice A5 s5.xs.length c5))
 clear P5 Z5 Y5 C5 B5
 have P5b := V (show Hold (((w5).setCell ⟨w.heap.size, 0, none⟩ (.slice A5 s5.xs.length c5)).setCell ⟨w.heap.size, 1, none⟩ (J U (s5.er : Int))) w.heap.size 119 [.slice A5 s5.xs.length c5,J U (s5.er : Int)] from P5a.out.put 1 (J U (s5.er : Int)))
 have Z5b := V (Z5a.out.bel (Bel.store ((w5).setCell ⟨w.heap.size, 0, none⟩ (.slice A5 s5.xs.length c5)) w.heap.size 1 (J U (s5.er : Int))) (by omega))
 have Y5b := V (Y5a.out.bel (Bel.store ((w5).setCell ⟨w.heap.size, 0, none⟩ (.slice A5 s5.xs.length c5)) w.heap.size 1 (J U (s5.er : Int))) (by omega))
 have C5b := V (C5a.out.bel (Bel.store ((w5).setCell ⟨w.heap.size, 0, none⟩ (.slice A5 s5.xs.length c5)) w.heap.size 1 (J U (s5.er : Int))) (by omega))
 have B5b := V (B5a.out.setCell (p := ⟨w.heap.size, 1, none⟩) (by show w.heap.size ≤ w.heap.size; omega) (J U (s5.er : Int)))
 clear P5a Z5a Y5a C5a B5a
 have P5c := V (P5b.out.bel (Bel.store (((w5).setCell ⟨w.heap.size, 0, none⟩ (.slice A5 s5.xs.length c5)).setCell ⟨w.heap.size, 1, none⟩ (J U (s5.er : Int))) (w.heap.size + 3) 4 (encN a5)) (by omega))
 have Z5c := V (Z5b.out.bel (Bel.store (((w5).setCell ⟨w.heap.size, 0, none⟩ (.slice A5 s5.xs.length c5)).setCell ⟨w.heap.size, 1, none⟩ (J U (s5.er : Int))) (w.heap.size + 3) 4 (encN a5)) (by omega))
 have Y5c := V (Y5b.out.bel (Bel.store (((w5).setCell ⟨w.heap.size, 0, none⟩ (.slice A5 s5.xs.length c5)).setCell ⟨w.heap.size, 1, none⟩ (J U (s5.er : Int))) (w.heap.size + 3) 4 (encN a5)) (by omega))
 have C5c := V (show Hold ((((w5).setCell ⟨w.heap.size, 0, none⟩ (.slice A5 s5.xs.length c5)).setCell ⟨w.heap.size, 1, none⟩ (J U (s5.er : Int))).setCell ⟨(w.heap.size + 3), 4, none⟩ (encN a5)) (w.heap.size + 3) 67 [encN a1, encN a2, encN a3, encN a4, encN a5,J U 0,J U 0,J U 0,J U 0,J U 0,J U 0,J U 0,J U 0,.slice none 0 0,.slice none 0 0,.bool false,J U 0,J U 0,J U 0,J U 0,J U 0,J U 0,J U 0,J U 0,.bool false] from C5b.out.put 4 (encN a5))
 have B5c := V (B5b.out.setCell (p := ⟨(w.heap.size + 3), 4, none⟩) (by show w.heap.size ≤ (w.heap.size + 3); omega) (encN a5))
 clear P5b Z5b Y5b C5b B5b
 go_wp2_with (fail)
 refine (number_doc (HW.out.trans (B5c.out.mono HW.out.size)) D5.out).mono ?_
 rintro e w6 ⟨s6, a6, x6, rfl, -, hx, hb, hp⟩
 obtain ⟨A6, c6, rfl, hq⟩ := hx
 have D6 := V (show Prt w0 _ s6 from ⟨A6, c6, rfl, hq⟩)
 clear hq
 have P6 := V (P5c.out.on hb)
 have Z6 := V (Z5c.out.on hb)
 have Y6 := V (Y5c.out.on hb)
 have C6 := V (C5c.out.on hb)
 have B6 := V (below_on B5c.out hb)
 have Ha6 := V hp
 clear hb hp
 clear P5c Z5c Y5c C5c B5c
 clear za0 zb0 za1 zb1 za2 zb2
 have za0 := P6.out.cell 0 rfl
 have zb0 := P6.out.soft 0
 have za1 := P6.out.cell 1 rfl
 have zb1 := P6.out.soft 1
 have za2 := C6.out.cell 5 rfl
 have zb2 := C6.out.soft 5
 have P6a := V (show Hold ((w6).setCell ⟨w.heap.size, 0, none⟩ (.slice A6 s6.xs.length c6)) w.heap.size 119 [.slice A6 s6.xs.length c6,J U (s5.er : Int)] from P6.out.put 0 (.slice A6 s6.xs.length c6))
 have Z6a := V (Z6.out.bel (Bel.store (w6) w.heap.size 0 (.slice A6 s6.xs.length c6)) (by omega))
 have Y6a := V (Y6.out.bel (Bel.store (w6) w.heap.size 0 (.slice A6 s6.xs.length c6)) (by omega))
 have C6a := V (C6.out.bel (Bel.store (w6) w.heap.size 0 (.slice A6 s6.xs.length c6)) (by omega))
 have B6a := V (B6.out.setCell (p := ⟨w.heap.size, 0, none⟩) (by show w.heap.size ≤ w.heap.size; omega) (.slice A6 s6.xs.length c6))
 clear P6 Z6 Y6 C6 B6
 have P6b := V (show Hold (((w6).setCell ⟨w.heap.size, 0, none⟩ (.slice A6 s6.xs.length c6)).setCell ⟨w.heap.size, 1, none⟩ (J U (s6.er : Int))) w.heap.size 119 [.slice A6 s6.xs.length c6,J U (s6.er : Int)] from P6a.out.put 1 (J U (s6.er : Int)))
 have Z6b := V (Z6a.out.bel (Bel.store ((w6).setCell ⟨w.heap.size, 0, none⟩ (.slice A6 s6.xs.length c6)) w.heap.size 1 (J U (s6.er : Int))) (by omega))
 have Y6b := V (Y6a.out.bel (Bel.store ((w6).setCell ⟨w.heap.size, 0, none⟩ (.slice A6 s6.xs.length c6)) w.heap.size 1 (J U (s6.er : Int))) (by omega))
 have C6b := V (C6a.out.bel (Bel.store ((w6).setCell ⟨w.heap.size, 0, none⟩ (.slice A6 s6.xs.length c6)) w.heap.size 1 (J U (s6.er : Int))) (by omega))
 have B6b := V (B6a.out.setCell (p := ⟨w.heap.size, 1, none⟩) (by show w.heap.size ≤ w.heap.size; omega) (J U (s6.er : Int)))
 clear P6a Z6a Y6a C6a B6a
 have P6c := V (P6b.out.bel (Bel.store (((w6).setCell ⟨w.heap.size, 0, none⟩ (.slice A6 s6.xs.length c6)).setCell ⟨w.heap.size, 1, none⟩ (J U (s6.er : Int))) (w.heap.size + 3) 5 (encN a6)) (by omega))
 have Z6c := V (Z6b.out.bel (Bel.store (((w6).setCell ⟨w.heap.size, 0, none⟩ (.slice A6 s6.xs.length c6)).setCell ⟨w.heap.size, 1, none⟩ (J U (s6.er : Int))) (w.heap.size + 3) 5 (encN a6)) (by omega))
 have Y6c := V (Y6b.out.bel (Bel.store (((w6).setCell ⟨w.heap.size, 0, none⟩ (.slice A6 s6.xs.length c6)).setCell ⟨w.heap.size, 1, none⟩ (J U (s6.er : Int))) (w.heap.size + 3) 5 (encN a6)) (by omega))
 have C6c := V (show Hold ((((w6).setCell ⟨w.heap.size, 0, none⟩ (.slice A6 s6.xs.length c6)).setCell ⟨w.heap.size, 1, none⟩ (J U (s6.er : Int))).setCell ⟨(w.heap.size + 3), 5, none⟩ (encN a6)) (w.heap.size + 3) 67 [encN a1, encN a2, encN a3, encN a4, encN a5, encN a6,J U 0,J U 0,J U 0,J U 0,J U 0,J U 0,J U 0,.slice none 0 0,.slice none 0 0,.bool false,J U 0,J U 0,J U 0,J U 0,J U 0,J U 0,J U 0,J U 0,.bool false] from C6b.out.put 5 (encN a6))
 have B6c := V (B6b.out.setCell (p := ⟨(w.heap.size + 3), 5, none⟩) (by show w.heap.size ≤ (w.heap.size + 3); omega) (encN a6))
 clear P6b Z6b Y6b C6b B6b
 go_wp2_with (fail)
 refine (number_doc (HW.out.trans (B6c.out.mono HW.out.size)) D6.out).mono ?_
 rintro e w7 ⟨s7, a7, x7, rfl, -, hx, hb, hp⟩
 obtain ⟨A7, c7, rfl, hq⟩ := hx
 have D7 := V (show Prt w0 _ s7 from ⟨A7, c7, rfl, hq⟩)
 clear hq
 have P7 := V (P6c.out.on hb)
 have Z7 := V (Z6c.out.on hb)
 have Y7 := V (Y6c.out.on hb)
 have C7 := V (C6c.out.on hb)
 have B7 := V (below_on B6c.out hb)
 have Ha7 := V hp
 clear hb hp
 clear P6c Z6c Y6c C6c B6c
 clear za0 zb0 za1 zb1 za2 zb2
 have za0 := P7.out.cell 0 rfl
 have zb0 := P7.out.soft 0
 have za1 := P7.out.cell 1 rfl
 have zb1 := P7.out.soft 1
 have za2 := C7.out.cell 6 rfl
 have zb2 := C7.out.soft 6
 have P7a := V (show Hold ((w7).setCell ⟨w.heap.size, 0, none⟩ (.slice A7 s7.xs.length c7)) w.heap.size 119 [.slice A7 s7.xs.length c7,J U (s6.er : Int)] from P7.out.put 0 (.slice A7 s7.xs.length c7))
 have Z7a := V (Z7.out.bel (Bel.store (w7) w.heap.size 0 (.slice A7 s7.xs.length c7)) (by omega))
 have Y7a := V (Y7.out.bel (Bel.store (w7) w.heap.size 0 (.slice A7 s7.xs.length c7)) (by omega))
 have C7a := V (C7.out.bel (Bel.store (w7) w.heap.size 0 (.slice A7 s7.xs.length c7)) (by omega))
 have B7a := V (B7.out.setCell (p := ⟨w.heap.size, 0, none⟩) (by show w.heap.size ≤ w.heap.size; omega) (.slice A7 s7.xs.length c7))
 clear P7 Z7 Y7 C7 B7
 have P7b := V (show Hold (((w7).setCell ⟨w.heap.size, 0, none⟩ (.slice A7 s7.xs.length c7)).setCell ⟨w.heap.size, 1, none⟩ (J U (s7.er : Int))) w.heap.size 119 [.slice A7 s7.xs.length c7,J U (s7.er : Int)] from P7a.out.put 1 (J U (s7.er : Int)))
 have Z7b := V (Z7a.out.bel (Bel.store ((w7).setCell ⟨w.heap.size, 0, none⟩ (.slice A7 s7.xs.length c7)) w.heap.size 1 (J U (s7.er : Int))) (by omega))
 have Y7b := V (Y7a.out.bel (Bel.store ((w7).setCell ⟨w.heap.size, 0, none⟩ (.slice A7 s7.xs.length c7)) w.heap.size 1 (J U (s7.er : Int))) (by omega))
 have C7b := V (C7a.out.bel (Bel.store ((w7).setCell ⟨w.heap.size, 0, none⟩ (.slice A7 s7.xs.length c7)) w.heap.size 1 (J U (s7.er : Int))) (by omega))
 have B7b := V (B7a.out.setCell (p := ⟨w.heap.size, 1, none⟩) (by show w.heap.size ≤ w.heap.size; omega) (J U (s7.er : Int)))
 clear P7a Z7a Y7a C7a B7a
 have P7c := V (P7b.out.bel (Bel.store (((w7).setCell ⟨w.heap.size, 0, none⟩ (.slice A7 s7.xs.length c7)).setCell ⟨w.heap.size, 1, none⟩ (J U (s7.er : Int))) (w.heap.size + 3) 6 (encN a7)) (by omega))
 have Z7c := V (Z7b.out.bel (Bel.store (((w7).setCell ⟨w.heap.size, 0, none⟩ (.slice A7 s7.xs.length c7)).setCell ⟨w.heap.size, 1, none⟩ (J U (s7.er : Int))) (w.heap.size + 3) 6 (encN a7)) (by omega))
 have Y7c := V (Y7b.out.bel (Bel.store (((w7).setCell ⟨w.heap.size, 0, none⟩ (.slice A7 s7.xs.length c7)).setCell ⟨w.heap.size, 1, none⟩ (J U (s7.er : Int))) (w.heap.size + 3) 6 (encN a7)) (by omega))
 have C7c := V (show Hold ((((w7).setCell ⟨w.heap.size, 0, none⟩ (.slice A7 s7.xs.length c7)).setCell ⟨w.heap.size, 1, none⟩ (J U (s7.er : Int))).setCell ⟨(w.heap.size + 3), 6, none⟩ (encN a7)) (w.heap.size + 3) 67 [encN a1, encN a2, encN a3, encN a4, encN a5, encN a6, encN a7,J U 0,J U 0,J U 0,J U 0,J U 0,J U 0,.slice none 0 0,.slice none 0 0,.bool false,J U 0,J U 0,J U 0,J U 0,J U 0,J U 0,J U 0,J U 0,.bool false] from C7b.out.put 6 (encN a7))
 have B7c := V (B7b.out.setCell (p := ⟨(w.heap.size + 3), 6, none⟩) (by show w.heap.size ≤ (w.heap.size + 3); omega) (encN a7))
 clear P7b Z7b Y7b C7b B7b
 go_wp2_with (fail)
 refine (number_doc (HW.out.trans (B7c.out.mono HW.out.size)) D7.out).mono ?_
 rintro e w8 ⟨s8, a8, x8, rfl, -, hx, hb, hp⟩
 obtain ⟨A8, c8, rfl, hq⟩ := hx
 have D8 := V (show Prt w0 _ s8 from ⟨A8, c8, rfl, hq⟩)
 clear hq
 have P8 := V (P7c.out.on hb)
 have Z8 := V (Z7c.out.on hb)
 have Y8 := V (Y7c.out.on hb)
 have C8 := V (C7c.out.on hb)
 have B8 := V (below_on B7c.out hb)
 have Ha8 := V hp
 clear hb hp
 clear P7c Z7c Y7c C7c B7c
 clear za0 zb0 za1 zb1 za2 zb2
 have za0 := P8.out.cell 0 rfl
 have zb0 := P8.out.soft 0
 have za1 := P8.out.cell 1 rfl
 have zb1 := P8.out.soft 1
 have za2 := C8.out.cell 16 rfl
 have zb2 := C8.out.soft 16
 have P8a := V (show Hold ((w8).setCell ⟨w.heap.size, 0, none⟩ (.slice A8 s8.xs.length c8)) w.heap.size 119 [.slice A8 s8.xs.length c8,J U (s7.er : Int)] from P8.out.put 0 (.slice A8 s8.xs.length c8))
 have Z8a := V (Z8.out.bel (Bel.store (w8) w.heap.size 0 (.slice A8 s8.xs.length c8)) (by omega))
 have Y8a := V (Y8.out.bel (Bel.store (w8) w.heap.size 0 (.slice A8 s8.xs.length c8)) (by omega))
 have C8a := V (C8.out.bel (Bel.store (w8) w.heap.size 0 (.slice A8 s8.xs.length c8)) (by omega))
 have B8a := V (B8.out.setCell (p := ⟨w.heap.size, 0, none⟩) (by show w.heap.size ≤ w.heap.size; omega) (.slice A8 s8.xs.length c8))
 clear P8 Z8 Y8 C8 B8
 have P8b := V (show Hold (((w8).setCell ⟨w.heap.size, 0, none⟩ (.slice A8 s8.xs.length c8)).setCell ⟨w.heap.size, 1, none⟩ (J U (s8.er : Int))) w.heap.size 119 [.slice A8 s8.xs.length c8,J U (s8.er : Int)] from P8a.out.put 1 (J U (s8.er : Int)))
 have Z8b := V (Z8a.out.bel (Bel.store ((w8).setCell ⟨w.heap.size, 0, none⟩ (.slice A8 s8.xs.length c8)) w.heap.size 1 (J U (s8.er : Int))) (by omega))
 have Y8b := V (Y8a.out.bel (Bel.store ((w8).setCell ⟨w.heap.size, 0, none⟩ (.slice A8 s8.xs.length c8)) w.heap.size 1 (J U (s8.er : Int))) (by omega))
 have C8b := V (C8a.out.bel (Bel.store ((w8).setCell ⟨w.heap.size, 0, none⟩ (.slice A8 s8.xs.length c8)) w.heap.size 1 (J U (s8.er : Int))) (by omega))
 have B8b := V (B8a.out.setCell (p := ⟨w.heap.size, 1, none⟩) (by show w.heap.size ≤ w.heap.size; omega) (J U (s8.er : Int)))
 clear P8a Z8a Y8a C8a B8a
 have P8c := V (P8b.out.bel (Bel.store (((w8).setCell ⟨w.heap.size, 0, none⟩ (.slice A8 s8.xs.length c8)).setCell ⟨w.heap.size, 1, none⟩ (J U (s8.er : Int))) (w.heap.size + 3) 16 (encN a8)) (by omega))
 have Z8c := V (Z8b.out.bel (Bel.store (((w8).setCell ⟨w.heap.size, 0, none⟩ (.slice A8 s8.xs.length c8)).setCell ⟨w.heap.size, 1, none⟩ (J U (s8.er : Int))) (w.heap.size + 3) 16 (encN a8)) (by omega))
 have Y8c := V (Y8b.out.bel (Bel.store (((w8).setCell ⟨w.heap.size, 0, none⟩ (.slice A8 s8.xs.length c8)).setCell ⟨w.heap.size, 1, none⟩ (J U (s8.er : Int))) (w.heap.size + 3) 16 (encN a8)) (by omega))
 have C8c := V (show Hold ((((w8).setCell ⟨w.heap.size, 0, none⟩ (.slice A8 s8.xs.length c8)).setCell ⟨w.heap.size, 1, none⟩ (J U (s8.er : Int))).setCell ⟨(w.heap.size + 3), 16, none⟩ (encN a8)) (w.heap.size + 3) 67 [encN a1, encN a2, encN a3, encN a4, encN a5, encN a6, encN a7,J U 0,J U 0,J U 0,J U 0,J U 0,J U 0,.slice none 0 0,.slice none 0 0,.bool false, encN a8,J U 0,J U 0,J U 0,J U 0,J U 0,J U 0,J U 0,.bool false] from C8b.out.put 16 (encN a8))
 have B8c := V (B8b.out.setCell (p := ⟨(w.heap.size + 3), 16, none⟩) (by show w.heap.size ≤ (w.heap.size + 3); omega) (encN a8))
 clear P8b Z8b Y8b C8b B8b
 obtain ⟨wl, el⟩ : ∃ wl, wl = (((w8).setCell ⟨w.heap.size, 0, none⟩ (.slice A8 s8.xs.length c8)).setCell ⟨w.heap.size, 1, none⟩ (J U (s8.er : Int))).setCell ⟨(w.heap.size + 3), 16, none⟩ (encN a8) := ⟨_, rfl⟩
 have CL := V (show Hold wl (w.heap.size + 3) 67 ([encN a1, encN a2, encN a3, encN a4, encN a5, encN a6, encN a7,J U 0,J U 0,J U 0,J U 0,J U 0,J U 0,.slice none 0 0,.slice none 0 0,.bool false, encN a8] ++ ds7 0 (fun _ => 0) ++ [.bool false]) from el ▸ C8c.out)
 have PL := V (el ▸ P8c.out)
 have ZL := V (el ▸ Z8c.out)
 have YL := V (el ▸ Y8c.out)
 have BL := V (el ▸ B8c.out)
 clear P8c Z8c Y8c C8c B8c
 go_wp2
 rw [← el]
 clear el za0 zb0 za1 zb1 za2 zb2
 go_loopw [5] (fun i wr => ∃ (k : Nat) (f : Nat → Nat) (st : Nat → P.Sr) (A9 : Option Addr) (c9 : Nat), k ≤ 7 ∧ i = J U k ∧ Hold wr w.heap.size 119 [.slice A9 (st k).xs.length c9,J U ((st k).er : Int)] ∧ Hold wr (w.heap.size + 1) 119 [.slice none 0 0,J U 0] ∧ Hold wr (w.heap.size + 2) 67 [J U 0,J U 0,J U 0,J U 0,J U 0,J U 0,J U 0,J U 0,J U 0,J U 0,J U 0,J U 0,J U 0,.slice none 0 0,.slice none 0 0,.bool false,J U 0,J U 0,J U 0,J U 0,J U 0,J U 0,J U 0,J U 0,.bool false] ∧ Hold wr (w.heap.size + 3) 67 ([encN a1, encN a2, encN a3, encN a4, encN a5, encN a6, encN a7,J U 0,J U 0,J U 0,J U 0,J U 0,J U 0,.slice none 0 0,.slice none 0 0,.bool false, encN a8] ++ ds7 k f ++ [.bool false]) ∧ Below w.heap.size w wr ∧ Prt w0 (.agg #[.slice A9 (st k).xs.length c9,J U ((st k).er : Int)]) (st k) ∧ st 0 = s8 ∧ ∀ j, j < k → P.Ran P.num (st j) (st (j + 1)) (f j)) (fun i _ => 7 - (intOf i).toNat)
 case atStart => exact ⟨0, fun _ => 0, fun _ => s8, A8, c8, Nat.zero_le _, rfl, PL.out, ZL.out, YL.out, CL.out, BL.out, D8.out, rfl, fun j hj => absurd hj (by omega)⟩
 case round =>
  obtain ⟨k, f, st, A9, c9, hk, rfl, hp, hz, hy, hc, hb, hd, h0, hq⟩ := hrel
  obtain ⟨s9, hs9⟩ : ∃ s9, s9 = st k := ⟨_, rfl⟩
  rw [← hs9] at hp hd
  have P9 := V hp
  have Z9 := V hz
  have Y9 := V hy
  have C9 := V hc
  have B9 := V hb
  have D9 := V hd
  have HZ0 := V h0
  have HQ := V hq
  have HS9 := V hs9
  clear hp hz hy hc hb hd h0 hq hs9 PL ZL YL CL BL
  have p0 := P9.out.cell 0 rfl
  have p1 := P9.out.cell 1 rfl
  by_cases hlt : k < 7
  ·have HK := V hlt
   go_wp2_with (fail)
   refine (number_doc (HW.out.trans (B9.out.mono HW.out.size)) D9.out).mono ?_
   rintro e w21 ⟨s21, v, x21, rfl, -, hx, hb, hp⟩
   obtain ⟨A21, c21, rfl, hq⟩ := hx
   have D21 := V (show Prt w0 _ s21 from ⟨A21, c21, rfl, hq⟩)
   clear hq
   have P21 := V (P9.out.on hb)
   have Z21 := V (Z9.out.on hb)
   have Y21 := V (Y9.out.on hb)
   have C21 := V (C9.out.on hb)
   have B21 := V (below_on B9.out hb)
   have G1 := V hp
   clear hb hp
   clear P9 Z9 Y9 C9 B9
   clear p0 p1
   have p0 := P21.out.cell 0 rfl
   have p1 := P21.out.cell 1 rfl
   have r0 := P21.out.soft 0
   have r1 := P21.out.soft 1
   have cc := C21.out.cell (17 + k) (ds7_at hlt f (encN a1) (encN a2) (encN a3) (encN a4) (encN a5) (encN a6) (encN a7) (J U 0) (J U 0) (J U 0) (J U 0) (J U 0) (J U 0) (.slice none 0 0) (.slice none 0 0) (.bool false) (encN a8) (.bool false))
   have cf := C21.out.soft (17 + k)
   have SC := Bel.store ((w21.setCell ⟨w.heap.size, 0, none⟩ (.slice A21 s21.xs.length c21)).setCell ⟨w.heap.size, 1, none⟩ (J U (s21.er : Int))) (w.heap.size + 3) (17 + k) (encN v)
   have PX := V ((show Hold ((w21.setCell ⟨w.heap.size, 0, none⟩ (.slice A21 s21.xs.length c21)).setCell ⟨w.heap.size, 1, none⟩ (J U (s21.er : Int))) w.heap.size 119 [.slice A21 s21.xs.length c21,J U (s21.er : Int)] from (P21.out.put 0 (.slice A21 s21.xs.length c21)).put 1 (J U (s21.er : Int))).bel SC (by omega))
   have ZX := V (((Z21.out.bel (Bel.store w21 w.heap.size 0 (.slice A21 s21.xs.length c21)) (by omega)).bel (Bel.store (w21.setCell ⟨w.heap.size, 0, none⟩ (.slice A21 s21.xs.length c21)) w.heap.size 1 (J U (s21.er : Int))) (by omega)).bel SC (by omega))
   have YX := V (((Y21.out.bel (Bel.store w21 w.heap.size 0 (.slice A21 s21.xs.length c21)) (by omega)).bel (Bel.store (w21.setCell ⟨w.heap.size, 0, none⟩ (.slice A21 s21.xs.length c21)) w.heap.size 1 (J U (s21.er : Int))) (by omega)).bel SC (by omega))
   have CX := V (((C21.out.bel (Bel.store w21 w.heap.size 0 (.slice A21 s21.xs.length c21)) (by omega)).bel (Bel.store (w21.setCell ⟨w.heap.size, 0, none⟩ (.slice A21 s21.xs.length c21)) w.heap.size 1 (J U (s21.er : Int))) (by omega)).put (17 + k) (encN v))
   have BX := V (((B21.out.setCell (p := ⟨w.heap.size, 0, none⟩) (by show w.heap.size ≤ w.heap.size; omega) (.slice A21 s21.xs.length c21)).setCell (p := ⟨w.heap.size, 1, none⟩) (by show w.heap.size ≤ w.heap.size; omega) (J U (s21.er : Int))).setCell (p := ⟨w.heap.size + 3, 17 + k, none⟩) (by show w.heap.size ≤ w.heap.size + 3; omega) (encN v))
   have ES := V (ds7_set hlt f v (encN a1) (encN a2) (encN a3) (encN a4) (encN a5) (encN a6) (encN a7) (J U 0) (J U 0) (J U 0) (J U 0) (J U 0) (J U 0) (.slice none 0 0) (.slice none 0 0) (.bool false) (encN a8) (.bool false))
   have hi1 : (k : Int) < 7 := by omega
   clear SC P21 Z21 Y21 C21 B21
   go_wp2
   go_roundw
   case rel =>
    refine ⟨k + 1, fun j => if j = k then v else f j, fun j => if j = k + 1 then s21 else st j, A21, c21, by omega, by go_num, ?_, ZX.out, YX.out, ?_, BX.out, ?_, ?_, ?_⟩
    ·simp only [if_pos]; exact PX.out
    ·rw [← ES.out]; exact CX.out
    ·simp only [if_pos]; exact D21.out
    ·simp only [if_neg (show ¬ 0 = k + 1 by omega)]; exact HZ0.out
    ·intro j hj
     by_cases e : j = k
     ·subst e; simp only [if_pos, if_neg (show ¬ j = j + 1 by omega)]; rw [← HS9.out]; exact G1.out
     ·simp only [if_neg e, if_neg (show ¬ j = k + 1 by omega), if_neg (show ¬ j + 1 = k + 1 by omega)]; exact HQ.out j (by omega)
   case measure => simp [intOf]; omega
  ·obtain rfl : k = 7 := by omega
   have CV := V (show Hold wr (w.heap.size + 3) 67 [encN a1, encN a2, encN a3, encN a4, encN a5, encN a6, encN a7,J U 0,J U 0,J U 0,J U 0,J U 0,J U 0,.slice none 0 0,.slice none 0 0,.bool false, encN a8, encN (f 0), encN (f 1), encN (f 2), encN (f 3), encN (f 4), encN (f 5), encN (f 6),.bool false] from C9.out)
   have PV := V P9.out
   have ZV := V Z9.out
   have YV := V Y9.out
   have BV := V B9.out
   clear P9 Z9 Y9 C9 B9
   go_wp2_with (fail)
   refine (one_doc (HW.out.trans (BV.out.mono HW.out.size)) D9.out).mono ?_
   rintro e w10 ⟨s10, b, x10, rfl, -, hx, hb, hp⟩
   obtain ⟨A10, c10, rfl, hq⟩ := hx
   have D10 := V (show Prt w0 _ s10 from ⟨A10, c10, rfl, hq⟩)
   clear hq
   have P10 := V (PV.out.on hb)
   have Z10 := V (ZV.out.on hb)
   have Y10 := V (YV.out.on hb)
   have C10 := V (CV.out.on hb)
   have B10 := V (below_on BV.out hb)
   have H10 := V hp
   clear hb hp
   clear PV ZV YV CV BV
   clear p0 p1
   have za0 := P10.out.cell 0 rfl
   have zb0 := P10.out.soft 0
   have za1 := P10.out.cell 1 rfl
   have zb1 := P10.out.soft 1
   have P10a := V (show Hold ((w10).setCell ⟨w.heap.size, 0, none⟩ (.slice A10 s10.xs.length c10)) w.heap.size 119 [.slice A10 s10.xs.length c10,J U (s9.er : Int)] from P10.out.put 0 (.slice A10 s10.xs.length c10))
   have Z10a := V (Z10.out.bel (Bel.store (w10) w.heap.size 0 (.slice A10 s10.xs.length c10)) (by omega))
   have Y10a := V (Y10.out.bel (Bel.store (w10) w.heap.size 0 (.slice A10 s10.xs.length c10)) (by omega))
   have C10a := V (C10.out.bel (Bel.store (w10) w.heap.size 0 (.slice A10 s10.xs.length c10)) (by omega))
   have B10a := V (B10.out.setCell (p := ⟨w.heap.size, 0, none⟩) (by show w.heap.size ≤ w.heap.size; omega) (.slice A10 s10.xs.length c10))
   clear P10 Z10 Y10 C10 B10
   have P10b := V (show Hold (((w10).setCell ⟨w.heap.size, 0, none⟩ (.slice A10 s10.xs.length c10)).setCell ⟨w.heap.size, 1, none⟩ (J U (s10.er : Int))) w.heap.size 119 [.slice A10 s10.xs.length c10,J U (s10.er : Int)] from P10a.out.put 1 (J U (s10.er : Int)))
   have Z10b := V (Z10a.out.bel (Bel.store ((w10).setCell ⟨w.heap.size, 0, none⟩ (.slice A10 s10.xs.length c10)) w.heap.size 1 (J U (s10.er : Int))) (by omega))
   have Y10b := V (Y10a.out.bel (Bel.store ((w10).setCell ⟨w.heap.size, 0, none⟩ (.slice A10 s10.xs.length c10)) w.heap.size 1 (J U (s10.er : Int))) (by omega))
   have C10b := V (C10a.out.bel (Bel.store ((w10).setCell ⟨w.heap.size, 0, none⟩ (.slice A10 s10.xs.length c10)) w.heap.size 1 (J U (s10.er : Int))) (by omega))
   have B10b := V (B10a.out.setCell (p := ⟨w.heap.size, 1, none⟩) (by show w.heap.size ≤ w.heap.size; omega) (J U (s10.er : Int)))
   clear P10a Z10a Y10a C10a B10a
   by_cases hb1 : 1 < b
   ·have HB1 := V hb1
    have qb : ((b : Int) == 1) = false := by rw [beq_eq_false_iff_ne]; omega
    go_wp2_with (fail)
    refine (fail_doc 4 rfl D10.out).mono ?_
    rintro e w11 ⟨x11, rfl, hx, hb⟩
    obtain ⟨A11, c11, rfl, hq⟩ := hx
    have D11 := V (show Prt w0 _ (P.fail 4 s10) from ⟨A11, c11, rfl, hq⟩)
    clear hq
    have P11 := V (P10b.out.on hb)
    have Z11 := V (Z10b.out.on hb)
    have Y11 := V (Y10b.out.on hb)
    have C11 := V (C10b.out.on hb)
    have B11 := V (below_on B10b.out hb)
    clear hb
    clear P10b Z10b Y10b C10b B10b
    clear za0 zb0 za1 zb1
    obtain ⟨s11, hs⟩ : ∃ s11, s11 = P.fail 4 s10 := ⟨_, rfl⟩
    rw [← hs] at D11 ⊢
    have HS := V hs
    clear hs
    have za0 := P11.out.cell 0 rfl
    have zb0 := P11.out.soft 0
    have za1 := P11.out.cell 1 rfl
    have zb1 := P11.out.soft 1
    have P11a := V (show Hold ((w11).setCell ⟨w.heap.size, 0, none⟩ (.slice A11 s11.xs.length c11)) w.heap.size 119 [.slice A11 s11.xs.length c11,J U (s10.er : Int)] from P11.out.put 0 (.slice A11 s11.xs.length c11))
    have Z11a := V (Z11.out.bel (Bel.store (w11) w.heap.size 0 (.slice A11 s11.xs.length c11)) (by omega))
    have Y11a := V (Y11.out.bel (Bel.store (w11) w.heap.size 0 (.slice A11 s11.xs.length c11)) (by omega))
    have C11a := V (C11.out.bel (Bel.store (w11) w.heap.size 0 (.slice A11 s11.xs.length c11)) (by omega))
    have B11a := V (B11.out.setCell (p := ⟨w.heap.size, 0, none⟩) (by show w.heap.size ≤ w.heap.size; omega) (.slice A11 s11.xs.length c11))
    clear P11 Z11 Y11 C11 B11
    have P11b := V (show Hold (((w11).setCell ⟨w.heap.size, 0, none⟩ (.slice A11 s11.xs.length c11)).setCell ⟨w.heap.size, 1, none⟩ (J U (s11.er : Int))) w.heap.size 119 [.slice A11 s11.xs.length c11,J U (s11.er : Int)] from P11a.out.put 1 (J U (s11.er : Int)))
    have Z11b := V (Z11a.out.bel (Bel.store ((w11).setCell ⟨w.heap.size, 0, none⟩ (.slice A11 s11.xs.length c11)) w.heap.size 1 (J U (s11.er : Int))) (by omega))
    have Y11b := V (Y11a.out.bel (Bel.store ((w11).setCell ⟨w.heap.size, 0, none⟩ (.slice A11 s11.xs.length c11)) w.heap.size 1 (J U (s11.er : Int))) (by omega))
    have C11b := V (C11a.out.bel (Bel.store ((w11).setCell ⟨w.heap.size, 0, none⟩ (.slice A11 s11.xs.length c11)) w.heap.size 1 (J U (s11.er : Int))) (by omega))
    have B11b := V (B11a.out.setCell (p := ⟨w.heap.size, 1, none⟩) (by show w.heap.size ≤ w.heap.size; omega) (J U (s11.er : Int)))
    clear P11a Z11a Y11a C11a B11a
    have cc := C11b.out.cell 24 rfl
    have cf := C11b.out.soft 24
    have P11ba := V (P11b.out.bel (Bel.store (((w11).setCell ⟨w.heap.size, 0, none⟩ (.slice A11 s11.xs.length c11)).setCell ⟨w.heap.size, 1, none⟩ (J U (s11.er : Int))) (w.heap.size + 3) 24 (.bool false)) (by omega))
    have Z11ba := V (Z11b.out.bel (Bel.store (((w11).setCell ⟨w.heap.size, 0, none⟩ (.slice A11 s11.xs.length c11)).setCell ⟨w.heap.size, 1, none⟩ (J U (s11.er : Int))) (w.heap.size + 3) 24 (.bool false)) (by omega))
    have Y11ba := V (Y11b.out.bel (Bel.store (((w11).setCell ⟨w.heap.size, 0, none⟩ (.slice A11 s11.xs.length c11)).setCell ⟨w.heap.size, 1, none⟩ (J U (s11.er : Int))) (w.heap.size + 3) 24 (.bool false)) (by omega))
    have C11ba := V (show Hold ((((w11).setCell ⟨w.heap.size, 0, none⟩ (.slice A11 s11.xs.length c11)).setCell ⟨w.heap.size, 1, none⟩ (J U (s11.er : Int))).setCell ⟨(w.heap.size + 3), 24, none⟩ (.bool false)) (w.heap.size + 3) 67 [encN a1, encN a2, encN a3, encN a4, encN a5, encN a6, encN a7,J U 0,J U 0,J U 0,J U 0,J U 0,J U 0,.slice none 0 0,.slice none 0 0,.bool false, encN a8, encN (f 0), encN (f 1), encN (f 2), encN (f 3), encN (f 4), encN (f 5), encN (f 6),.bool false] from C11b.out.put 24 (.bool false))
    have B11ba := V (B11b.out.setCell (p := ⟨(w.heap.size + 3), 24, none⟩) (by show w.heap.size ≤ (w.heap.size + 3); omega) (.bool false))
    clear P11b Z11b Y11b C11b B11b
    go_wp2_with (fail)
    refine (tag_doc 1 rfl (HW.out.trans (B11ba.out.mono HW.out.size)) D11.out).mono ?_
    rintro e w12 ⟨s12, x12, rfl, hx, hb, hp⟩
    obtain ⟨A12, c12, rfl, hq⟩ := hx
    have D12 := V (show Prt w0 _ s12 from ⟨A12, c12, rfl, hq⟩)
    clear hq
    have P12 := V (P11ba.out.on hb)
    have Z12 := V (Z11ba.out.on hb)
    have Y12 := V (Y11ba.out.on hb)
    have C12 := V (C11ba.out.on hb)
    have B12 := V (below_on B11ba.out hb)
    have H12 := V hp
    clear hb hp
    clear P11ba Z11ba Y11ba C11ba B11ba
    clear za0 zb0 za1 zb1 cc cf
    clear qb
    have za0 := P12.out.cell 0 rfl
    have zb0 := P12.out.soft 0
    have za1 := P12.out.cell 1 rfl
    have zb1 := P12.out.soft 1
    have P12a := V (show Hold ((w12).setCell ⟨w.heap.size, 0, none⟩ (.slice A12 s12.xs.length c12)) w.heap.size 119 [.slice A12 s12.xs.length c12,J U (s11.er : Int)] from P12.out.put 0 (.slice A12 s12.xs.length c12))
    have Z12a := V (Z12.out.bel (Bel.store (w12) w.heap.size 0 (.slice A12 s12.xs.length c12)) (by omega))
    have Y12a := V (Y12.out.bel (Bel.store (w12) w.heap.size 0 (.slice A12 s12.xs.length c12)) (by omega))
    have C12a := V (C12.out.bel (Bel.store (w12) w.heap.size 0 (.slice A12 s12.xs.length c12)) (by omega))
    have B12a := V (B12.out.setCell (p := ⟨w.heap.size, 0, none⟩) (by show w.heap.size ≤ w.heap.size; omega) (.slice A12 s12.xs.length c12))
    clear P12 Z12 Y12 C12 B12
    have P12b := V (show Hold (((w12).setCell ⟨w.heap.size, 0, none⟩ (.slice A12 s12.xs.length c12)).setCell ⟨w.heap.size, 1, none⟩ (J U (s12.er : Int))) w.heap.size 119 [.slice A12 s12.xs.length c12,J U (s12.er : Int)] from P12a.out.put 1 (J U (s12.er : Int)))
    have Z12b := V (Z12a.out.bel (Bel.store ((w12).setCell ⟨w.heap.size, 0, none⟩ (.slice A12 s12.xs.length c12)) w.heap.size 1 (J U (s12.er : Int))) (by omega))
    have Y12b := V (Y12a.out.bel (Bel.store ((w12).setCell ⟨w.heap.size, 0, none⟩ (.slice A12 s12.xs.length c12)) w.heap.size 1 (J U (s12.er : Int))) (by omega))
    have C12b := V (C12a.out.bel (Bel.store ((w12).setCell ⟨w.heap.size, 0, none⟩ (.slice A12 s12.xs.length c12)) w.heap.size 1 (J U (s12.er : Int))) (by omega))
    have B12b := V (B12a.out.setCell (p := ⟨w.heap.size, 1, none⟩) (by show w.heap.size ≤ w.heap.size; omega) (J U (s12.er : Int)))
    clear P12a Z12a Y12a C12a B12a
    go_wp2_with (fail)
    have hcs : w.heap.size + 4 ≤ (((w12).setCell ⟨w.heap.size, 0, none⟩ (.slice A12 s12.xs.length c12)).setCell ⟨w.heap.size, 1, none⟩ (J U (s12.er : Int))).heap.size := by have := C12b.out.lt; omega
    refine (command_doc (HW.out.trans (B12b.out.mono HW.out.size)) D12.out).mono ?_
    rintro e w13 ⟨s13, c, va, vb, x13, rfl, hx, hra, hrb, hb, hp, hl1⟩
    obtain ⟨A13, c13, rfl, hq⟩ := hx
    have D13 := V (show Prt w0 _ s13 from ⟨A13, c13, rfl, hq⟩)
    clear hq
    have P13 := V (P12b.out.on hb)
    have Z13 := V (Z12b.out.on hb)
    have Y13 := V (Y12b.out.on hb)
    have C13 := V (C12b.out.on hb)
    have B13 := V (below_on B12b.out hb)
    have H13 := V hp
    have N1 := V hl1
    clear hb hp hl1
    clear P12b Z12b Y12b C12b B12b
    clear za0 zb0 za1 zb1
    have Ix := V (ownsRow_baseN hra hcs)
    have Jx := V (ownsRow_baseN hrb hcs)
    clear hra hrb hcs
    obtain ⟨A1, k1, rfl⟩ := ownsRow_slice Ix.out
    obtain ⟨A2, k2, rfl⟩ := ownsRow_slice Jx.out
    have I13 := V Ix.out
    have J13 := V Jx.out
    clear Ix Jx
    have KI := V (fun q (e : (.slice A1 c.rs.length k1 : Value).ownBlock = some q) => World.ownsRow.lt I13.out q e)
    have KJ := V (fun q (e : (.slice A2 c.ws.length k2 : Value).ownBlock = some q) => World.ownsRow.lt J13.out q e)
    have za0 := P13.out.cell 0 rfl
    have zb0 := P13.out.soft 0
    have za1 := P13.out.cell 1 rfl
    have zb1 := P13.out.soft 1
    have P13a := V (show Hold ((w13).setCell ⟨w.heap.size, 0, none⟩ (.slice A13 s13.xs.length c13)) w.heap.size 119 [.slice A13 s13.xs.length c13,J U (s12.er : Int)] from P13.out.put 0 (.slice A13 s13.xs.length c13))
    have Z13a := V (Z13.out.bel (Bel.store (w13) w.heap.size 0 (.slice A13 s13.xs.length c13)) (by omega))
    have Y13a := V (Y13.out.bel (Bel.store (w13) w.heap.size 0 (.slice A13 s13.xs.length c13)) (by omega))
    have C13a := V (C13.out.bel (Bel.store (w13) w.heap.size 0 (.slice A13 s13.xs.length c13)) (by omega))
    have I13a := V (ownsRow_put I13.out w.heap.size 0 (.slice A13 s13.xs.length c13) (fun q e => by have := KI.out q e; omega))
    have J13a := V (ownsRow_put J13.out w.heap.size 0 (.slice A13 s13.xs.length c13) (fun q e => by have := KJ.out q e; omega))
    have B13a := V (B13.out.setCell (p := ⟨w.heap.size, 0, none⟩) (by show w.heap.size ≤ w.heap.size; omega) (.slice A13 s13.xs.length c13))
    clear P13 Z13 Y13 C13 I13 J13 B13
    have P13b := V (show Hold (((w13).setCell ⟨w.heap.size, 0, none⟩ (.slice A13 s13.xs.length c13)).setCell ⟨w.heap.size, 1, none⟩ (J U (s13.er : Int))) w.heap.size 119 [.slice A13 s13.xs.length c13,J U (s13.er : Int)] from P13a.out.put 1 (J U (s13.er : Int)))
    have Z13b := V (Z13a.out.bel (Bel.store ((w13).setCell ⟨w.heap.size, 0, none⟩ (.slice A13 s13.xs.length c13)) w.heap.size 1 (J U (s13.er : Int))) (by omega))
    have Y13b := V (Y13a.out.bel (Bel.store ((w13).setCell ⟨w.heap.size, 0, none⟩ (.slice A13 s13.xs.length c13)) w.heap.size 1 (J U (s13.er : Int))) (by omega))
    have C13b := V (C13a.out.bel (Bel.store ((w13).setCell ⟨w.heap.size, 0, none⟩ (.slice A13 s13.xs.length c13)) w.heap.size 1 (J U (s13.er : Int))) (by omega))
    have I13b := V (ownsRow_put I13a.out w.heap.size 1 (J U (s13.er : Int)) (fun q e => by have := KI.out q e; omega))
    have J13b := V (ownsRow_put J13a.out w.heap.size 1 (J U (s13.er : Int)) (fun q e => by have := KJ.out q e; omega))
    have B13b := V (B13a.out.setCell (p := ⟨w.heap.size, 1, none⟩) (by show w.heap.size ≤ w.heap.size; omega) (J U (s13.er : Int)))
    clear P13a Z13a Y13a C13a I13a J13a B13a
    have T1 := V (show (((w13).setCell ⟨w.heap.size, 0, none⟩ (.slice A13 s13.xs.length c13)).setCell ⟨w.heap.size, 1, none⟩ (J U (s13.er : Int))).there (w.heap.size + 3) 7 ([J U c.k,J U c.tc,J U c.tn,J U c.tt,J U c.tk,J U c.sh,.slice A1 c.rs.length k1,.slice A2 c.ws.length k2,.bool c.cm] : List Value).length from C13b.out.there (by show 7 + 9 ≤ 25; omega))
    have se := bel_setCells (((w13).setCell ⟨w.heap.size, 0, none⟩ (.slice A13 s13.xs.length c13)).setCell ⟨w.heap.size, 1, none⟩ (J U (s13.er : Int))) (w.heap.size + 3) [J U c.k,J U c.tc,J U c.tn,J U c.tt,J U c.tk,J U c.sh,.slice A1 c.rs.length k1,.slice A2 c.ws.length k2,.bool c.cm] 7
    have FP := Hold.set [J U c.k,J U c.tc,J U c.tn,J U c.tt,J U c.tk,J U c.sh,.slice A1 c.rs.length k1,.slice A2 c.ws.length k2,.bool c.cm] [encN a1, encN a2, encN a3, encN a4, encN a5, encN a6, encN a7] [J U 0,J U 0,J U 0,J U 0,J U 0,J U 0,.slice none 0 0,.slice none 0 0,.bool false] [encN a8, encN (f 0), encN (f 1), encN (f 2), encN (f 3), encN (f 4), encN (f 5), encN (f 6),.bool false] rfl _ (show Hold (((w13).setCell ⟨w.heap.size, 0, none⟩ (.slice A13 s13.xs.length c13)).setCell ⟨w.heap.size, 1, none⟩ (J U (s13.er : Int))) (w.heap.size + 3) 67 ([encN a1, encN a2, encN a3, encN a4, encN a5, encN a6, encN a7] ++ [J U 0,J U 0,J U 0,J U 0,J U 0,J U 0,.slice none 0 0,.slice none 0 0,.bool false] ++ [encN a8, encN (f 0), encN (f 1), encN (f 2), encN (f 3), encN (f 4), encN (f 5), encN (f 6),.bool false]) from C13b.out)
    obtain ⟨wf, ef⟩ : ∃ wf, wf = (((w13).setCell ⟨w.heap.size, 0, none⟩ (.slice A13 s13.xs.length c13)).setCell ⟨w.heap.size, 1, none⟩ (J U (s13.er : Int))).setCells (w.heap.size + 3) 7 [J U c.k,J U c.tc,J U c.tn,J U c.tt,J U c.tk,J U c.sh,.slice A1 c.rs.length k1,.slice A2 c.ws.length k2,.bool c.cm] := ⟨_, rfl⟩
    have CF := V (show Hold wf (w.heap.size + 3) 67 [encN a1, encN a2, encN a3, encN a4, encN a5, encN a6, encN a7,J U c.k,J U c.tc,J U c.tn,J U c.tt,J U c.tk,J U c.sh,.slice A1 c.rs.length k1,.slice A2 c.ws.length k2,.bool c.cm, encN a8, encN (f 0), encN (f 1), encN (f 2), encN (f 3), encN (f 4), encN (f 5), encN (f 6),.bool false] from ef ▸ FP)
    have PF := V (show Hold wf _ _ _ from ef ▸ P13b.out.bel se (by omega))
    have ZF := V (show Hold wf _ _ _ from ef ▸ Z13b.out.bel se (by omega))
    have YF := V (show Hold wf _ _ _ from ef ▸ Y13b.out.bel se (by omega))
    have IF := V (show wf.ownsRow _ _ _ _ _ _ from ef ▸ ownsRow_bel I13b.out se (by omega))
    have JF := V (show wf.ownsRow _ _ _ _ _ _ from ef ▸ ownsRow_bel J13b.out se (by omega))
    have BF := V (show Below w.heap.size w wf from ef ▸ below_setCells (by omega : w.heap.size ≤ w.heap.size + 3) [J U c.k,J U c.tc,J U c.tn,J U c.tt,J U c.tk,J U c.sh,.slice A1 c.rs.length k1,.slice A2 c.ws.length k2,.bool c.cm] 7 _ _ B13b.out)
    clear se FP P13b Z13b Y13b C13b I13b J13b B13b
    go_wp2_with (with_reducible refine store_list rfl 63 _ _ rfl (w.heap.size + 3) 7 [J U c.k,J U c.tc,J U c.tn,J U c.tt,J U c.tk,J U c.sh,.slice A1 c.rs.length k1,.slice A2 c.ws.length k2,.bool c.cm] rfl rfl T1.out (by kernel_rfl) (by kernel_rfl) ?_)
    rw [← ef]
    clear ef T1 za0 zb0 za1 zb1
    have TZ := V (show wf.drew.there (w.heap.size + 1) 0 ([.slice A13 s13.xs.length c13,J U (s13.er : Int)] : List Value).length from ZF.out.there (Nat.le_refl 2))
    have SZ := bel_setCells wf.drew (w.heap.size + 1) [.slice A13 s13.xs.length c13,J U (s13.er : Int)] 0
    have CZ := V (show Hold (wf.drew.setCells (w.heap.size + 1) 0 [.slice A13 s13.xs.length c13,J U (s13.er : Int)]) (w.heap.size + 3) 67 [encN a1, encN a2, encN a3, encN a4, encN a5, encN a6, encN a7,J U c.k,J U c.tc,J U c.tn,J U c.tt,J U c.tk,J U c.sh,.slice A1 c.rs.length k1,.slice A2 c.ws.length k2,.bool c.cm, encN a8, encN (f 0), encN (f 1), encN (f 2), encN (f 3), encN (f 4), encN (f 5), encN (f 6),.bool false] from (show Hold wf.drew _ _ _ from CF.out).bel SZ (by omega))
    have YZ := V ((show Hold wf.drew (w.heap.size + 2) 67 [J U 0,J U 0,J U 0,J U 0,J U 0,J U 0,J U 0,J U 0,J U 0,J U 0,J U 0,J U 0,J U 0,.slice none 0 0,.slice none 0 0,.bool false,J U 0,J U 0,J U 0,J U 0,J U 0,J U 0,J U 0,J U 0,.bool false] from YF.out).bel SZ (by omega))
    have FZ := Hold.set [.slice A13 s13.xs.length c13,J U (s13.er : Int)] [] [.slice none 0 0,J U 0] [] rfl _ (show Hold wf.drew (w.heap.size + 1) 119 ([] ++ [.slice none 0 0,J U 0] ++ []) from ZF.out)
    have TY := V (show (wf.drew.setCells (w.heap.size + 1) 0 [.slice A13 s13.xs.length c13,J U (s13.er : Int)]).there (w.heap.size + 2) 0 ([encN a1, encN a2, encN a3, encN a4, encN a5, encN a6, encN a7,J U c.k,J U c.tc,J U c.tn,J U c.tt,J U c.tk,J U c.sh,.slice A1 c.rs.length k1,.slice A2 c.ws.length k2,.bool c.cm, encN a8, encN (f 0), encN (f 1), encN (f 2), encN (f 3), encN (f 4), encN (f 5), encN (f 6),.bool false] : List Value).length from YZ.out.there (Nat.le_refl 25))
    have SY := bel_setCells (wf.drew.setCells (w.heap.size + 1) 0 [.slice A13 s13.xs.length c13,J U (s13.er : Int)]) (w.heap.size + 2) [encN a1, encN a2, encN a3, encN a4, encN a5, encN a6, encN a7,J U c.k,J U c.tc,J U c.tn,J U c.tt,J U c.tk,J U c.sh,.slice A1 c.rs.length k1,.slice A2 c.ws.length k2,.bool c.cm, encN a8, encN (f 0), encN (f 1), encN (f 2), encN (f 3), encN (f 4), encN (f 5), encN (f 6),.bool false] 0
    have FY := Hold.set [encN a1, encN a2, encN a3, encN a4, encN a5, encN a6, encN a7,J U c.k,J U c.tc,J U c.tn,J U c.tt,J U c.tk,J U c.sh,.slice A1 c.rs.length k1,.slice A2 c.ws.length k2,.bool c.cm, encN a8, encN (f 0), encN (f 1), encN (f 2), encN (f 3), encN (f 4), encN (f 5), encN (f 6),.bool false] [] [J U 0,J U 0,J U 0,J U 0,J U 0,J U 0,J U 0,J U 0,J U 0,J U 0,J U 0,J U 0,J U 0,.slice none 0 0,.slice none 0 0,.bool false,J U 0,J U 0,J U 0,J U 0,J U 0,J U 0,J U 0,J U 0,.bool false] [] rfl _ (show Hold (wf.drew.setCells (w.heap.size + 1) 0 [.slice A13 s13.xs.length c13,J U (s13.er : Int)]) (w.heap.size + 2) 67 ([] ++ [J U 0,J U 0,J U 0,J U 0,J U 0,J U 0,J U 0,J U 0,J U 0,J U 0,J U 0,J U 0,J U 0,.slice none 0 0,.slice none 0 0,.bool false,J U 0,J U 0,J U 0,J U 0,J U 0,J U 0,J U 0,J U 0,.bool false] ++ []) from YZ.out)
    have ZE := V ((show Hold (wf.drew.setCells (w.heap.size + 1) 0 [.slice A13 s13.xs.length c13,J U (s13.er : Int)]) (w.heap.size + 1) 119 [.slice A13 s13.xs.length c13,J U (s13.er : Int)] from FZ).bel SY (by omega))
    have YE := V (show Hold ((wf.drew.setCells (w.heap.size + 1) 0 [.slice A13 s13.xs.length c13,J U (s13.er : Int)]).setCells (w.heap.size + 2) 0 [encN a1, encN a2, encN a3, encN a4, encN a5, encN a6, encN a7,J U c.k,J U c.tc,J U c.tn,J U c.tt,J U c.tk,J U c.sh,.slice A1 c.rs.length k1,.slice A2 c.ws.length k2,.bool c.cm, encN a8, encN (f 0), encN (f 1), encN (f 2), encN (f 3), encN (f 4), encN (f 5), encN (f 6),.bool false]) (w.heap.size + 2) 67 [encN a1, encN a2, encN a3, encN a4, encN a5, encN a6, encN a7,J U c.k,J U c.tc,J U c.tn,J U c.tt,J U c.tk,J U c.sh,.slice A1 c.rs.length k1,.slice A2 c.ws.length k2,.bool c.cm, encN a8, encN (f 0), encN (f 1), encN (f 2), encN (f 3), encN (f 4), encN (f 5), encN (f 6),.bool false] from FY)
    have IE := V (ownsRow_bel (ownsRow_bel (ownsRow_bel (g := 0) IF.out (Bel.of (Below.refl _ _).drew) (by omega)) SZ (by omega)) SY (by omega))
    have JE := V (ownsRow_bel (ownsRow_bel (ownsRow_bel (g := 0) JF.out (Bel.of (Below.refl _ _).drew) (by omega)) SZ (by omega)) SY (by omega))
    have BE := V (below_setCells (by omega : w.heap.size ≤ w.heap.size + 2) [encN a1, encN a2, encN a3, encN a4, encN a5, encN a6, encN a7,J U c.k,J U c.tc,J U c.tn,J U c.tt,J U c.tk,J U c.sh,.slice A1 c.rs.length k1,.slice A2 c.ws.length k2,.bool c.cm, encN a8, encN (f 0), encN (f 1), encN (f 2), encN (f 3), encN (f 4), encN (f 5), encN (f 6),.bool false] 0 _ _ (below_setCells (by omega : w.heap.size ≤ w.heap.size + 1) [.slice A13 s13.xs.length c13,J U (s13.er : Int)] 0 _ _ BF.out.drew))
    clear SZ SY FZ FY
    have PD := HQ.out
    have h8 := Ha8.out
    rw [← HZ0.out] at h8
    have hs7 := HS9.out
    subst hs7
    have RAN := V (show P.Ran P.rcd s s13 ⟨a1, a2, a3, a4, a5, a6, a7, c, a8, f 0, f 1, f 2, f 3, f 4, f 5, f 6, false⟩ from P.Ran.bind P.errs_num Ha1.out (P.Ran.bind P.errs_num Ha2.out (P.Ran.bind P.errs_num Ha3.out (P.Ran.bind P.errs_num Ha4.out (P.Ran.bind P.errs_num Ha5.out (P.Ran.bind P.errs_num Ha6.out (P.Ran.bind P.errs_num Ha7.out (P.Ran.bind P.errs_num h8 (P.Ran.bind P.errs_num (PD 0 (by omega)) (P.Ran.bind P.errs_num (PD 1 (by omega)) (P.Ran.bind P.errs_num (PD 2 (by omega)) (P.Ran.bind P.errs_num (PD 3 (by omega)) (P.Ran.bind P.errs_num (PD 4 (by omega)) (P.Ran.bind P.errs_num (PD 5 (by omega)) (P.Ran.bind P.errs_num (PD 6 (by omega)) (P.Ran.bind P.errs_boolean (P.Ran.bind P.errs_one H10.out (by rw [if_pos HB1.out, HS.out]; exact P.Ran.err _ _)) (P.Ran.bind (P.errs_mark 1) H12.out (P.Ran.bind P.errs_cmd H13.out (P.Ran.ret _ _)))))))))))))))))))
    clear PD h8
    refine wp_region_any (by kernel_rfl) ?_
    try (change wpAny _ _ _ _ _ _ _ (World.drew _))
    refine wpAny_ready (rs := [0, 1]) (by kernel_rfl) (by simp) ?_
    refine AllReady.cons rfl (fun K hK => ?_) (AllReady.cons rfl (fun K hK => ?_) AllReady.nil)
    ·refine step_ld (by rfl) 119 _ rfl w.heap.size 0 rfl [.slice A13 s13.xs.length c13,J U (s13.er : Int)] _ ((show wf.drew.rangeAt w.heap.size 0 _ from PF.out.cel.whole)) Tryz.underlying119 rfl (by kernel_rfl) ?_
     try go_simp
     refine hK _ _ ?_
     clear hK K
     refine wpAny_ready (rs := [1, 2]) (by kernel_rfl) (by simp) ?_
     refine AllReady.cons rfl (fun K hK => ?_) (AllReady.cons rfl (fun K hK => ?_) AllReady.nil)
     ·refine step_ld (by rfl) 67 _ rfl (w.heap.size + 3) 0 rfl [encN a1, encN a2, encN a3, encN a4, encN a5, encN a6, encN a7,J U c.k,J U c.tc,J U c.tn,J U c.tt,J U c.tk,J U c.sh,.slice A1 c.rs.length k1,.slice A2 c.ws.length k2,.bool c.cm, encN a8, encN (f 0), encN (f 1), encN (f 2), encN (f 3), encN (f 4), encN (f 5), encN (f 6),.bool false] _ ((show wf.drew.rangeAt (w.heap.size + 3) 0 _ from CF.out.cel.whole)) Tryz.underlying67 rfl (by kernel_rfl) ?_
      try go_simp
      refine hK _ _ ?_
      clear hK K
      refine wpAny_ready (rs := [2]) (by kernel_rfl) (by simp) ?_
      refine AllReady.cons rfl (fun K hK => ?_) AllReady.nil
      refine step_st (by rfl) 119 _ _ rfl (w.heap.size + 1) 0 [.slice A13 s13.xs.length c13,J U (s13.er : Int)] rfl rfl TZ.out (by kernel_rfl) (by kernel_rfl) ?_
      try go_simp
      refine hK _ _ ?_
      clear hK K
      refine wpAny_ready (rs := [3]) (by kernel_rfl) (by simp) ?_
      refine AllReady.cons rfl (fun K hK => ?_) AllReady.nil
      refine step_st (by rfl) 67 _ _ rfl (w.heap.size + 2) 0 [encN a1, encN a2, encN a3, encN a4, encN a5, encN a6, encN a7,J U c.k,J U c.tc,J U c.tn,J U c.tt,J U c.tk,J U c.sh,.slice A1 c.rs.length k1,.slice A2 c.ws.length k2,.bool c.cm, encN a8, encN (f 0), encN (f 1), encN (f 2), encN (f 3), encN (f 4), encN (f 5), encN (f 6),.bool false] rfl rfl TY.out (by kernel_rfl) (by kernel_rfl) ?_
      try go_simp
      refine hK _ _ ?_
      clear hK K
      refine wpAny_done (by kernel_rfl) ?_ _
      go_wp2
      refine bodyPost_ret (results_cc rfl rfl rfl ZE.out.cel.whole YE.out.cel.whole _ _ Tryz.underlying119 Tryz.underlying67 rfl rfl (by kernel_rfl) (by kernel_rfl)) rfl ?_
      exact ⟨s13, ⟨a1, a2, a3, a4, a5, a6, a7, c, a8, f 0, f 1, f 2, f 3, f 4, f 5, f 6, false⟩, _, _, _, rfl, D13.out, ownsRow_baseN IE.out (by omega), ownsRow_baseN JE.out (by omega), BE.out, RAN.out, N1.out⟩
     ·refine step_st (by rfl) 119 _ _ rfl (w.heap.size + 1) 0 [.slice A13 s13.xs.length c13,J U (s13.er : Int)] rfl rfl TZ.out (by kernel_rfl) (by kernel_rfl) ?_
      try go_simp
      refine hK _ _ ?_
      clear hK K
      refine wpAny_ready (rs := [1]) (by kernel_rfl) (by simp) ?_
      refine AllReady.cons rfl (fun K hK => ?_) AllReady.nil
      refine step_ld (by rfl) 67 _ rfl (w.heap.size + 3) 0 rfl [encN a1, encN a2, encN a3, encN a4, encN a5, encN a6, encN a7,J U c.k,J U c.tc,J U c.tn,J U c.tt,J U c.tk,J U c.sh,.slice A1 c.rs.length k1,.slice A2 c.ws.length k2,.bool c.cm, encN a8, encN (f 0), encN (f 1), encN (f 2), encN (f 3), encN (f 4), encN (f 5), encN (f 6),.bool false] _ (CZ.out.cel.whole) Tryz.underlying67 rfl (by kernel_rfl) ?_
      try go_simp
      refine hK _ _ ?_
      clear hK K
      refine wpAny_ready (rs := [3]) (by kernel_rfl) (by simp) ?_
      refine AllReady.cons rfl (fun K hK => ?_) AllReady.nil
      refine step_st (by rfl) 67 _ _ rfl (w.heap.size + 2) 0 [encN a1, encN a2, encN a3, encN a4, encN a5, encN a6, encN a7,J U c.k,J U c.tc,J U c.tn,J U c.tt,J U c.tk,J U c.sh,.slice A1 c.rs.length k1,.slice A2 c.ws.length k2,.bool c.cm, encN a8, encN (f 0), encN (f 1), encN (f 2), encN (f 3), encN (f 4), encN (f 5), encN (f 6),.bool false] rfl rfl TY.out (by kernel_rfl) (by kernel_rfl) ?_
      try go_simp
      refine hK _ _ ?_
      clear hK K
      refine wpAny_done (by kernel_rfl) ?_ _
      go_wp2
      refine bodyPost_ret (results_cc rfl rfl rfl ZE.out.cel.whole YE.out.cel.whole _ _ Tryz.underlying119 Tryz.underlying67 rfl rfl (by kernel_rfl) (by kernel_rfl)) rfl ?_
      exact ⟨s13, ⟨a1, a2, a3, a4, a5, a6, a7, c, a8, f 0, f 1, f 2, f 3, f 4, f 5, f 6, false⟩, _, _, _, rfl, D13.out, ownsRow_baseN IE.out (by omega), ownsRow_baseN JE.out (by omega), BE.out, RAN.out, N1.out⟩
    ·refine step_ld (by rfl) 67 _ rfl (w.heap.size + 3) 0 rfl [encN a1, encN a2, encN a3, encN a4, encN a5, encN a6, encN a7,J U c.k,J U c.tc,J U c.tn,J U c.tt,J U c.tk,J U c.sh,.slice A1 c.rs.length k1,.slice A2 c.ws.length k2,.bool c.cm, encN a8, encN (f 0), encN (f 1), encN (f 2), encN (f 3), encN (f 4), encN (f 5), encN (f 6),.bool false] _ ((show wf.drew.rangeAt (w.heap.size + 3) 0 _ from CF.out.cel.whole)) Tryz.underlying67 rfl (by kernel_rfl) ?_
     try go_simp
     refine hK _ _ ?_
     clear hK K
     refine wpAny_ready (rs := [0]) (by kernel_rfl) (by simp) ?_
     refine AllReady.cons rfl (fun K hK => ?_) AllReady.nil
     refine step_ld (by rfl) 119 _ rfl w.heap.size 0 rfl [.slice A13 s13.xs.length c13,J U (s13.er : Int)] _ ((show wf.drew.rangeAt w.heap.size 0 _ from PF.out.cel.whole)) Tryz.underlying119 rfl (by kernel_rfl) ?_
     try go_simp
     refine hK _ _ ?_
     clear hK K
     refine wpAny_ready (rs := [2]) (by kernel_rfl) (by simp) ?_
     refine AllReady.cons rfl (fun K hK => ?_) AllReady.nil
     refine step_st (by rfl) 119 _ _ rfl (w.heap.size + 1) 0 [.slice A13 s13.xs.length c13,J U (s13.er : Int)] rfl rfl TZ.out (by kernel_rfl) (by kernel_rfl) ?_
     try go_simp
     refine hK _ _ ?_
     clear hK K
     refine wpAny_ready (rs := [3]) (by kernel_rfl) (by simp) ?_
     refine AllReady.cons rfl (fun K hK => ?_) AllReady.nil
     refine step_st (by rfl) 67 _ _ rfl (w.heap.size + 2) 0 [encN a1, encN a2, encN a3, encN a4, encN a5, encN a6, encN a7,J U c.k,J U c.tc,J U c.tn,J U c.tt,J U c.tk,J U c.sh,.slice A1 c.rs.length k1,.slice A2 c.ws.length k2,.bool c.cm, encN a8, encN (f 0), encN (f 1), encN (f 2), encN (f 3), encN (f 4), encN (f 5), encN (f 6),.bool false] rfl rfl TY.out (by kernel_rfl) (by kernel_rfl) ?_
     try go_simp
     refine hK _ _ ?_
     clear hK K
     refine wpAny_done (by kernel_rfl) ?_ _
     go_wp2
     refine bodyPost_ret (results_cc rfl rfl rfl ZE.out.cel.whole YE.out.cel.whole _ _ Tryz.underlying119 Tryz.underlying67 rfl rfl (by kernel_rfl) (by kernel_rfl)) rfl ?_
     exact ⟨s13, ⟨a1, a2, a3, a4, a5, a6, a7, c, a8, f 0, f 1, f 2, f 3, f 4, f 5, f 6, false⟩, _, _, _, rfl, D13.out, ownsRow_baseN IE.out (by omega), ownsRow_baseN JE.out (by omega), BE.out, RAN.out, N1.out⟩
   ·have HB1 := V hb1
    obtain ⟨qv, hqv⟩ : ∃ qv, qv = decide (b = 1) := ⟨_, rfl⟩
    have qb : ((b : Int) == 1) = qv := by
     rw [hqv]
     by_cases h : b = 1
     ·subst h; rfl
     ·rw [decide_eq_false h, beq_eq_false_iff_ne]; omega
    have HQV := V hqv
    clear hqv
    have cc := C10b.out.cell 24 rfl
    have cf := C10b.out.soft 24
    have P10ba := V (P10b.out.bel (Bel.store (((w10).setCell ⟨w.heap.size, 0, none⟩ (.slice A10 s10.xs.length c10)).setCell ⟨w.heap.size, 1, none⟩ (J U (s10.er : Int))) (w.heap.size + 3) 24 (.bool qv)) (by omega))
    have Z10ba := V (Z10b.out.bel (Bel.store (((w10).setCell ⟨w.heap.size, 0, none⟩ (.slice A10 s10.xs.length c10)).setCell ⟨w.heap.size, 1, none⟩ (J U (s10.er : Int))) (w.heap.size + 3) 24 (.bool qv)) (by omega))
    have Y10ba := V (Y10b.out.bel (Bel.store (((w10).setCell ⟨w.heap.size, 0, none⟩ (.slice A10 s10.xs.length c10)).setCell ⟨w.heap.size, 1, none⟩ (J U (s10.er : Int))) (w.heap.size + 3) 24 (.bool qv)) (by omega))
    have C10ba := V (show Hold ((((w10).setCell ⟨w.heap.size, 0, none⟩ (.slice A10 s10.xs.length c10)).setCell ⟨w.heap.size, 1, none⟩ (J U (s10.er : Int))).setCell ⟨(w.heap.size + 3), 24, none⟩ (.bool qv)) (w.heap.size + 3) 67 [encN a1, encN a2, encN a3, encN a4, encN a5, encN a6, encN a7,J U 0,J U 0,J U 0,J U 0,J U 0,J U 0,.slice none 0 0,.slice none 0 0,.bool false, encN a8, encN (f 0), encN (f 1), encN (f 2), encN (f 3), encN (f 4), encN (f 5), encN (f 6),.bool qv] from C10b.out.put 24 (.bool qv))
    have B10ba := V (B10b.out.setCell (p := ⟨(w.heap.size + 3), 24, none⟩) (by show w.heap.size ≤ (w.heap.size + 3); omega) (.bool qv))
    clear P10b Z10b Y10b C10b B10b
    go_wp2_with (fail)
    refine (tag_doc 1 rfl (HW.out.trans (B10ba.out.mono HW.out.size)) D10.out).mono ?_
    rintro e w11 ⟨s12, x12, rfl, hx, hb, hp⟩
    obtain ⟨A11, c11, rfl, hq⟩ := hx
    have D11 := V (show Prt w0 _ s12 from ⟨A11, c11, rfl, hq⟩)
    clear hq
    have P11 := V (P10ba.out.on hb)
    have Z11 := V (Z10ba.out.on hb)
    have Y11 := V (Y10ba.out.on hb)
    have C11 := V (C10ba.out.on hb)
    have B11 := V (below_on B10ba.out hb)
    have H12 := V hp
    clear hb hp
    clear P10ba Z10ba Y10ba C10ba B10ba
    clear za0 zb0 za1 zb1 cc cf
    clear qb
    have za0 := P11.out.cell 0 rfl
    have zb0 := P11.out.soft 0
    have za1 := P11.out.cell 1 rfl
    have zb1 := P11.out.soft 1
    have P11a := V (show Hold ((w11).setCell ⟨w.heap.size, 0, none⟩ (.slice A11 s12.xs.length c11)) w.heap.size 119 [.slice A11 s12.xs.length c11,J U (s10.er : Int)] from P11.out.put 0 (.slice A11 s12.xs.length c11))
    have Z11a := V (Z11.out.bel (Bel.store (w11) w.heap.size 0 (.slice A11 s12.xs.length c11)) (by omega))
    have Y11a := V (Y11.out.bel (Bel.store (w11) w.heap.size 0 (.slice A11 s12.xs.length c11)) (by omega))
    have C11a := V (C11.out.bel (Bel.store (w11) w.heap.size 0 (.slice A11 s12.xs.length c11)) (by omega))
    have B11a := V (B11.out.setCell (p := ⟨w.heap.size, 0, none⟩) (by show w.heap.size ≤ w.heap.size; omega) (.slice A11 s12.xs.length c11))
    clear P11 Z11 Y11 C11 B11
    have P11b := V (show Hold (((w11).setCell ⟨w.heap.size, 0, none⟩ (.slice A11 s12.xs.length c11)).setCell ⟨w.heap.size, 1, none⟩ (J U (s12.er : Int))) w.heap.size 119 [.slice A11 s12.xs.length c11,J U (s12.er : Int)] from P11a.out.put 1 (J U (s12.er : Int)))
    have Z11b := V (Z11a.out.bel (Bel.store ((w11).setCell ⟨w.heap.size, 0, none⟩ (.slice A11 s12.xs.length c11)) w.heap.size 1 (J U (s12.er : Int))) (by omega))
    have Y11b := V (Y11a.out.bel (Bel.store ((w11).setCell ⟨w.heap.size, 0, none⟩ (.slice A11 s12.xs.length c11)) w.heap.size 1 (J U (s12.er : Int))) (by omega))
    have C11b := V (C11a.out.bel (Bel.store ((w11).setCell ⟨w.heap.size, 0, none⟩ (.slice A11 s12.xs.length c11)) w.heap.size 1 (J U (s12.er : Int))) (by omega))
    have B11b := V (B11a.out.setCell (p := ⟨w.heap.size, 1, none⟩) (by show w.heap.size ≤ w.heap.size; omega) (J U (s12.er : Int)))
    clear P11a Z11a Y11a C11a B11a
    go_wp2_with (fail)
    have hcs : w.heap.size + 4 ≤ (((w11).setCell ⟨w.heap.size, 0, none⟩ (.slice A11 s12.xs.length c11)).setCell ⟨w.heap.size, 1, none⟩ (J U (s12.er : Int))).heap.size := by have := C11b.out.lt; omega
    refine (command_doc (HW.out.trans (B11b.out.mono HW.out.size)) D11.out).mono ?_
    rintro e w12 ⟨s13, c, va, vb, x13, rfl, hx, hra, hrb, hb, hp, hl1⟩
    obtain ⟨A12, c12, rfl, hq⟩ := hx
    have D12 := V (show Prt w0 _ s13 from ⟨A12, c12, rfl, hq⟩)
    clear hq
    have P12 := V (P11b.out.on hb)
    have Z12 := V (Z11b.out.on hb)
    have Y12 := V (Y11b.out.on hb)
    have C12 := V (C11b.out.on hb)
    have B12 := V (below_on B11b.out hb)
    have H13 := V hp
    have N1 := V hl1
    clear hb hp hl1
    clear P11b Z11b Y11b C11b B11b
    clear za0 zb0 za1 zb1
    have Ix := V (ownsRow_baseN hra hcs)
    have Jx := V (ownsRow_baseN hrb hcs)
    clear hra hrb hcs
    obtain ⟨A1, k1, rfl⟩ := ownsRow_slice Ix.out
    obtain ⟨A2, k2, rfl⟩ := ownsRow_slice Jx.out
    have I12 := V Ix.out
    have J12 := V Jx.out
    clear Ix Jx
    have KI := V (fun q (e : (.slice A1 c.rs.length k1 : Value).ownBlock = some q) => World.ownsRow.lt I12.out q e)
    have KJ := V (fun q (e : (.slice A2 c.ws.length k2 : Value).ownBlock = some q) => World.ownsRow.lt J12.out q e)
    have za0 := P12.out.cell 0 rfl
    have zb0 := P12.out.soft 0
    have za1 := P12.out.cell 1 rfl
    have zb1 := P12.out.soft 1
    have P12a := V (show Hold ((w12).setCell ⟨w.heap.size, 0, none⟩ (.slice A12 s13.xs.length c12)) w.heap.size 119 [.slice A12 s13.xs.length c12,J U (s12.er : Int)] from P12.out.put 0 (.slice A12 s13.xs.length c12))
    have Z12a := V (Z12.out.bel (Bel.store (w12) w.heap.size 0 (.slice A12 s13.xs.length c12)) (by omega))
    have Y12a := V (Y12.out.bel (Bel.store (w12) w.heap.size 0 (.slice A12 s13.xs.length c12)) (by omega))
    have C12a := V (C12.out.bel (Bel.store (w12) w.heap.size 0 (.slice A12 s13.xs.length c12)) (by omega))
    have I12a := V (ownsRow_put I12.out w.heap.size 0 (.slice A12 s13.xs.length c12) (fun q e => by have := KI.out q e; omega))
    have J12a := V (ownsRow_put J12.out w.heap.size 0 (.slice A12 s13.xs.length c12) (fun q e => by have := KJ.out q e; omega))
    have B12a := V (B12.out.setCell (p := ⟨w.heap.size, 0, none⟩) (by show w.heap.size ≤ w.heap.size; omega) (.slice A12 s13.xs.length c12))
    clear P12 Z12 Y12 C12 I12 J12 B12
    have P12b := V (show Hold (((w12).setCell ⟨w.heap.size, 0, none⟩ (.slice A12 s13.xs.length c12)).setCell ⟨w.heap.size, 1, none⟩ (J U (s13.er : Int))) w.heap.size 119 [.slice A12 s13.xs.length c12,J U (s13.er : Int)] from P12a.out.put 1 (J U (s13.er : Int)))
    have Z12b := V (Z12a.out.bel (Bel.store ((w12).setCell ⟨w.heap.size, 0, none⟩ (.slice A12 s13.xs.length c12)) w.heap.size 1 (J U (s13.er : Int))) (by omega))
    have Y12b := V (Y12a.out.bel (Bel.store ((w12).setCell ⟨w.heap.size, 0, none⟩ (.slice A12 s13.xs.length c12)) w.heap.size 1 (J U (s13.er : Int))) (by omega))
    have C12b := V (C12a.out.bel (Bel.store ((w12).setCell ⟨w.heap.size, 0, none⟩ (.slice A12 s13.xs.length c12)) w.heap.size 1 (J U (s13.er : Int))) (by omega))
    have I12b := V (ownsRow_put I12a.out w.heap.size 1 (J U (s13.er : Int)) (fun q e => by have := KI.out q e; omega))
    have J12b := V (ownsRow_put J12a.out w.heap.size 1 (J U (s13.er : Int)) (fun q e => by have := KJ.out q e; omega))
    have B12b := V (B12a.out.setCell (p := ⟨w.heap.size, 1, none⟩) (by show w.heap.size ≤ w.heap.size; omega) (J U (s13.er : Int)))
    clear P12a Z12a Y12a C12a I12a J12a B12a
    have T1 := V (show (((w12).setCell ⟨w.heap.size, 0, none⟩ (.slice A12 s13.xs.length c12)).setCell ⟨w.heap.size, 1, none⟩ (J U (s13.er : Int))).there (w.heap.size + 3) 7 ([J U c.k,J U c.tc,J U c.tn,J U c.tt,J U c.tk,J U c.sh,.slice A1 c.rs.length k1,.slice A2 c.ws.length k2,.bool c.cm] : List Value).length from C12b.out.there (by show 7 + 9 ≤ 25; omega))
    have se := bel_setCells (((w12).setCell ⟨w.heap.size, 0, none⟩ (.slice A12 s13.xs.length c12)).setCell ⟨w.heap.size, 1, none⟩ (J U (s13.er : Int))) (w.heap.size + 3) [J U c.k,J U c.tc,J U c.tn,J U c.tt,J U c.tk,J U c.sh,.slice A1 c.rs.length k1,.slice A2 c.ws.length k2,.bool c.cm] 7
    have FP := Hold.set [J U c.k,J U c.tc,J U c.tn,J U c.tt,J U c.tk,J U c.sh,.slice A1 c.rs.length k1,.slice A2 c.ws.length k2,.bool c.cm] [encN a1, encN a2, encN a3, encN a4, encN a5, encN a6, encN a7] [J U 0,J U 0,J U 0,J U 0,J U 0,J U 0,.slice none 0 0,.slice none 0 0,.bool false] [encN a8, encN (f 0), encN (f 1), encN (f 2), encN (f 3), encN (f 4), encN (f 5), encN (f 6),.bool qv] rfl _ (show Hold (((w12).setCell ⟨w.heap.size, 0, none⟩ (.slice A12 s13.xs.length c12)).setCell ⟨w.heap.size, 1, none⟩ (J U (s13.er : Int))) (w.heap.size + 3) 67 ([encN a1, encN a2, encN a3, encN a4, encN a5, encN a6, encN a7] ++ [J U 0,J U 0,J U 0,J U 0,J U 0,J U 0,.slice none 0 0,.slice none 0 0,.bool false] ++ [encN a8, encN (f 0), encN (f 1), encN (f 2), encN (f 3), encN (f 4), encN (f 5), encN (f 6),.bool qv]) from C12b.out)
    obtain ⟨wf, ef⟩ : ∃ wf, wf = (((w12).setCell ⟨w.heap.size, 0, none⟩ (.slice A12 s13.xs.length c12)).setCell ⟨w.heap.size, 1, none⟩ (J U (s13.er : Int))).setCells (w.heap.size + 3) 7 [J U c.k,J U c.tc,J U c.tn,J U c.tt,J U c.tk,J U c.sh,.slice A1 c.rs.length k1,.slice A2 c.ws.length k2,.bool c.cm] := ⟨_, rfl⟩
    have CF := V (show Hold wf (w.heap.size + 3) 67 [encN a1, encN a2, encN a3, encN a4, encN a5, encN a6, encN a7,J U c.k,J U c.tc,J U c.tn,J U c.tt,J U c.tk,J U c.sh,.slice A1 c.rs.length k1,.slice A2 c.ws.length k2,.bool c.cm, encN a8, encN (f 0), encN (f 1), encN (f 2), encN (f 3), encN (f 4), encN (f 5), encN (f 6),.bool qv] from ef ▸ FP)
    have PF := V (show Hold wf _ _ _ from ef ▸ P12b.out.bel se (by omega))
    have ZF := V (show Hold wf _ _ _ from ef ▸ Z12b.out.bel se (by omega))
    have YF := V (show Hold wf _ _ _ from ef ▸ Y12b.out.bel se (by omega))
    have IF := V (show wf.ownsRow _ _ _ _ _ _ from ef ▸ ownsRow_bel I12b.out se (by omega))
    have JF := V (show wf.ownsRow _ _ _ _ _ _ from ef ▸ ownsRow_bel J12b.out se (by omega))
    have BF := V (show Below w.heap.size w wf from ef ▸ below_setCells (by omega : w.heap.size ≤ w.heap.size + 3) [J U c.k,J U c.tc,J U c.tn,J U c.tt,J U c.tk,J U c.sh,.slice A1 c.rs.length k1,.slice A2 c.ws.length k2,.bool c.cm] 7 _ _ B12b.out)
    clear se FP P12b Z12b Y12b C12b I12b J12b B12b
    go_wp2_with (with_reducible refine store_list rfl 63 _ _ rfl (w.heap.size + 3) 7 [J U c.k,J U c.tc,J U c.tn,J U c.tt,J U c.tk,J U c.sh,.slice A1 c.rs.length k1,.slice A2 c.ws.length k2,.bool c.cm] rfl rfl T1.out (by kernel_rfl) (by kernel_rfl) ?_)
    rw [← ef]
    clear ef T1 za0 zb0 za1 zb1
    have TZ := V (show wf.drew.there (w.heap.size + 1) 0 ([.slice A12 s13.xs.length c12,J U (s13.er : Int)] : List Value).length from ZF.out.there (Nat.le_refl 2))
    have SZ := bel_setCells wf.drew (w.heap.size + 1) [.slice A12 s13.xs.length c12,J U (s13.er : Int)] 0
    have CZ := V (show Hold (wf.drew.setCells (w.heap.size + 1) 0 [.slice A12 s13.xs.length c12,J U (s13.er : Int)]) (w.heap.size + 3) 67 [encN a1, encN a2, encN a3, encN a4, encN a5, encN a6, encN a7,J U c.k,J U c.tc,J U c.tn,J U c.tt,J U c.tk,J U c.sh,.slice A1 c.rs.length k1,.slice A2 c.ws.length k2,.bool c.cm, encN a8, encN (f 0), encN (f 1), encN (f 2), encN (f 3), encN (f 4), encN (f 5), encN (f 6),.bool qv] from (show Hold wf.drew _ _ _ from CF.out).bel SZ (by omega))
    have YZ := V ((show Hold wf.drew (w.heap.size + 2) 67 [J U 0,J U 0,J U 0,J U 0,J U 0,J U 0,J U 0,J U 0,J U 0,J U 0,J U 0,J U 0,J U 0,.slice none 0 0,.slice none 0 0,.bool false,J U 0,J U 0,J U 0,J U 0,J U 0,J U 0,J U 0,J U 0,.bool false] from YF.out).bel SZ (by omega))
    have FZ := Hold.set [.slice A12 s13.xs.length c12,J U (s13.er : Int)] [] [.slice none 0 0,J U 0] [] rfl _ (show Hold wf.drew (w.heap.size + 1) 119 ([] ++ [.slice none 0 0,J U 0] ++ []) from ZF.out)
    have TY := V (show (wf.drew.setCells (w.heap.size + 1) 0 [.slice A12 s13.xs.length c12,J U (s13.er : Int)]).there (w.heap.size + 2) 0 ([encN a1, encN a2, encN a3, encN a4, encN a5, encN a6, encN a7,J U c.k,J U c.tc,J U c.tn,J U c.tt,J U c.tk,J U c.sh,.slice A1 c.rs.length k1,.slice A2 c.ws.length k2,.bool c.cm, encN a8, encN (f 0), encN (f 1), encN (f 2), encN (f 3), encN (f 4), encN (f 5), encN (f 6),.bool qv] : List Value).length from YZ.out.there (Nat.le_refl 25))
    have SY := bel_setCells (wf.drew.setCells (w.heap.size + 1) 0 [.slice A12 s13.xs.length c12,J U (s13.er : Int)]) (w.heap.size + 2) [encN a1, encN a2, encN a3, encN a4, encN a5, encN a6, encN a7,J U c.k,J U c.tc,J U c.tn,J U c.tt,J U c.tk,J U c.sh,.slice A1 c.rs.length k1,.slice A2 c.ws.length k2,.bool c.cm, encN a8, encN (f 0), encN (f 1), encN (f 2), encN (f 3), encN (f 4), encN (f 5), encN (f 6),.bool qv] 0
    have FY := Hold.set [encN a1, encN a2, encN a3, encN a4, encN a5, encN a6, encN a7,J U c.k,J U c.tc,J U c.tn,J U c.tt,J U c.tk,J U c.sh,.slice A1 c.rs.length k1,.slice A2 c.ws.length k2,.bool c.cm, encN a8, encN (f 0), encN (f 1), encN (f 2), encN (f 3), encN (f 4), encN (f 5), encN (f 6),.bool qv] [] [J U 0,J U 0,J U 0,J U 0,J U 0,J U 0,J U 0,J U 0,J U 0,J U 0,J U 0,J U 0,J U 0,.slice none 0 0,.slice none 0 0,.bool false,J U 0,J U 0,J U 0,J U 0,J U 0,J U 0,J U 0,J U 0,.bool false] [] rfl _ (show Hold (wf.drew.setCells (w.heap.size + 1) 0 [.slice A12 s13.xs.length c12,J U (s13.er : Int)]) (w.heap.size + 2) 67 ([] ++ [J U 0,J U 0,J U 0,J U 0,J U 0,J U 0,J U 0,J U 0,J U 0,J U 0,J U 0,J U 0,J U 0,.slice none 0 0,.slice none 0 0,.bool false,J U 0,J U 0,J U 0,J U 0,J U 0,J U 0,J U 0,J U 0,.bool false] ++ []) from YZ.out)
    have ZE := V ((show Hold (wf.drew.setCells (w.heap.size + 1) 0 [.slice A12 s13.xs.length c12,J U (s13.er : Int)]) (w.heap.size + 1) 119 [.slice A12 s13.xs.length c12,J U (s13.er : Int)] from FZ).bel SY (by omega))
    have YE := V (show Hold ((wf.drew.setCells (w.heap.size + 1) 0 [.slice A12 s13.xs.length c12,J U (s13.er : Int)]).setCells (w.heap.size + 2) 0 [encN a1, encN a2, encN a3, encN a4, encN a5, encN a6, encN a7,J U c.k,J U c.tc,J U c.tn,J U c.tt,J U c.tk,J U c.sh,.slice A1 c.rs.length k1,.slice A2 c.ws.length k2,.bool c.cm, encN a8, encN (f 0), encN (f 1), encN (f 2), encN (f 3), encN (f 4), encN (f 5), encN (f 6),.bool qv]) (w.heap.size + 2) 67 [encN a1, encN a2, encN a3, encN a4, encN a5, encN a6, encN a7,J U c.k,J U c.tc,J U c.tn,J U c.tt,J U c.tk,J U c.sh,.slice A1 c.rs.length k1,.slice A2 c.ws.length k2,.bool c.cm, encN a8, encN (f 0), encN (f 1), encN (f 2), encN (f 3), encN (f 4), encN (f 5), encN (f 6),.bool qv] from FY)
    have IE := V (ownsRow_bel (ownsRow_bel (ownsRow_bel (g := 0) IF.out (Bel.of (Below.refl _ _).drew) (by omega)) SZ (by omega)) SY (by omega))
    have JE := V (ownsRow_bel (ownsRow_bel (ownsRow_bel (g := 0) JF.out (Bel.of (Below.refl _ _).drew) (by omega)) SZ (by omega)) SY (by omega))
    have BE := V (below_setCells (by omega : w.heap.size ≤ w.heap.size + 2) [encN a1, encN a2, encN a3, encN a4, encN a5, encN a6, encN a7,J U c.k,J U c.tc,J U c.tn,J U c.tt,J U c.tk,J U c.sh,.slice A1 c.rs.length k1,.slice A2 c.ws.length k2,.bool c.cm, encN a8, encN (f 0), encN (f 1), encN (f 2), encN (f 3), encN (f 4), encN (f 5), encN (f 6),.bool qv] 0 _ _ (below_setCells (by omega : w.heap.size ≤ w.heap.size + 1) [.slice A12 s13.xs.length c12,J U (s13.er : Int)] 0 _ _ BF.out.drew))
    clear SZ SY FZ FY
    have PD := HQ.out
    have h8 := Ha8.out
    rw [← HZ0.out] at h8
    have hs7 := HS9.out
    subst hs7
    have RAN := V (show P.Ran P.rcd s s13 ⟨a1, a2, a3, a4, a5, a6, a7, c, a8, f 0, f 1, f 2, f 3, f 4, f 5, f 6, qv⟩ from P.Ran.bind P.errs_num Ha1.out (P.Ran.bind P.errs_num Ha2.out (P.Ran.bind P.errs_num Ha3.out (P.Ran.bind P.errs_num Ha4.out (P.Ran.bind P.errs_num Ha5.out (P.Ran.bind P.errs_num Ha6.out (P.Ran.bind P.errs_num Ha7.out (P.Ran.bind P.errs_num h8 (P.Ran.bind P.errs_num (PD 0 (by omega)) (P.Ran.bind P.errs_num (PD 1 (by omega)) (P.Ran.bind P.errs_num (PD 2 (by omega)) (P.Ran.bind P.errs_num (PD 3 (by omega)) (P.Ran.bind P.errs_num (PD 4 (by omega)) (P.Ran.bind P.errs_num (PD 5 (by omega)) (P.Ran.bind P.errs_num (PD 6 (by omega)) (P.Ran.bind P.errs_boolean (P.Ran.bind P.errs_one H10.out (by rw [if_neg HB1.out, HQV.out]; exact P.Ran.ret _ _)) (P.Ran.bind (P.errs_mark 1) H12.out (P.Ran.bind P.errs_cmd H13.out (P.Ran.ret _ _)))))))))))))))))))
    clear PD h8
    refine wp_region_any (by kernel_rfl) ?_
    try (change wpAny _ _ _ _ _ _ _ (World.drew _))
    refine wpAny_ready (rs := [0, 1]) (by kernel_rfl) (by simp) ?_
    refine AllReady.cons rfl (fun K hK => ?_) (AllReady.cons rfl (fun K hK => ?_) AllReady.nil)
    ·refine step_ld (by rfl) 119 _ rfl w.heap.size 0 rfl [.slice A12 s13.xs.length c12,J U (s13.er : Int)] _ ((show wf.drew.rangeAt w.heap.size 0 _ from PF.out.cel.whole)) Tryz.underlying119 rfl (by kernel_rfl) ?_
     try go_simp
     refine hK _ _ ?_
     clear hK K
     refine wpAny_ready (rs := [1, 2]) (by kernel_rfl) (by simp) ?_
     refine AllReady.cons rfl (fun K hK => ?_) (AllReady.cons rfl (fun K hK => ?_) AllReady.nil)
     ·refine step_ld (by rfl) 67 _ rfl (w.heap.size + 3) 0 rfl [encN a1, encN a2, encN a3, encN a4, encN a5, encN a6, encN a7,J U c.k,J U c.tc,J U c.tn,J U c.tt,J U c.tk,J U c.sh,.slice A1 c.rs.length k1,.slice A2 c.ws.length k2,.bool c.cm, encN a8, encN (f 0), encN (f 1), encN (f 2), encN (f 3), encN (f 4), encN (f 5), encN (f 6),.bool qv] _ ((show wf.drew.rangeAt (w.heap.size + 3) 0 _ from CF.out.cel.whole)) Tryz.underlying67 rfl (by kernel_rfl) ?_
      try go_simp
      refine hK _ _ ?_
      clear hK K
      refine wpAny_ready (rs := [2]) (by kernel_rfl) (by simp) ?_
      refine AllReady.cons rfl (fun K hK => ?_) AllReady.nil
      refine step_st (by rfl) 119 _ _ rfl (w.heap.size + 1) 0 [.slice A12 s13.xs.length c12,J U (s13.er : Int)] rfl rfl TZ.out (by kernel_rfl) (by kernel_rfl) ?_
      try go_simp
      refine hK _ _ ?_
      clear hK K
      refine wpAny_ready (rs := [3]) (by kernel_rfl) (by simp) ?_
      refine AllReady.cons rfl (fun K hK => ?_) AllReady.nil
      refine step_st (by rfl) 67 _ _ rfl (w.heap.size + 2) 0 [encN a1, encN a2, encN a3, encN a4, encN a5, encN a6, encN a7,J U c.k,J U c.tc,J U c.tn,J U c.tt,J U c.tk,J U c.sh,.slice A1 c.rs.length k1,.slice A2 c.ws.length k2,.bool c.cm, encN a8, encN (f 0), encN (f 1), encN (f 2), encN (f 3), encN (f 4), encN (f 5), encN (f 6),.bool qv] rfl rfl TY.out (by kernel_rfl) (by kernel_rfl) ?_
      try go_simp
      refine hK _ _ ?_
      clear hK K
      refine wpAny_done (by kernel_rfl) ?_ _
      go_wp2
      refine bodyPost_ret (results_cc rfl rfl rfl ZE.out.cel.whole YE.out.cel.whole _ _ Tryz.underlying119 Tryz.underlying67 rfl rfl (by kernel_rfl) (by kernel_rfl)) rfl ?_
      exact ⟨s13, ⟨a1, a2, a3, a4, a5, a6, a7, c, a8, f 0, f 1, f 2, f 3, f 4, f 5, f 6, qv⟩, _, _, _, rfl, D12.out, ownsRow_baseN IE.out (by omega), ownsRow_baseN JE.out (by omega), BE.out, RAN.out, N1.out⟩
     ·refine step_st (by rfl) 119 _ _ rfl (w.heap.size + 1) 0 [.slice A12 s13.xs.length c12,J U (s13.er : Int)] rfl rfl TZ.out (by kernel_rfl) (by kernel_rfl) ?_
      try go_simp
      refine hK _ _ ?_
      clear hK K
      refine wpAny_ready (rs := [1]) (by kernel_rfl) (by simp) ?_
      refine AllReady.cons rfl (fun K hK => ?_) AllReady.nil
      refine step_ld (by rfl) 67 _ rfl (w.heap.size + 3) 0 rfl [encN a1, encN a2, encN a3, encN a4, encN a5, encN a6, encN a7,J U c.k,J U c.tc,J U c.tn,J U c.tt,J U c.tk,J U c.sh,.slice A1 c.rs.length k1,.slice A2 c.ws.length k2,.bool c.cm, encN a8, encN (f 0), encN (f 1), encN (f 2), encN (f 3), encN (f 4), encN (f 5), encN (f 6),.bool qv] _ (CZ.out.cel.whole) Tryz.underlying67 rfl (by kernel_rfl) ?_
      try go_simp
      refine hK _ _ ?_
      clear hK K
      refine wpAny_ready (rs := [3]) (by kernel_rfl) (by simp) ?_
      refine AllReady.cons rfl (fun K hK => ?_) AllReady.nil
      refine step_st (by rfl) 67 _ _ rfl (w.heap.size + 2) 0 [encN a1, encN a2, encN a3, encN a4, encN a5, encN a6, encN a7,J U c.k,J U c.tc,J U c.tn,J U c.tt,J U c.tk,J U c.sh,.slice A1 c.rs.length k1,.slice A2 c.ws.length k2,.bool c.cm, encN a8, encN (f 0), encN (f 1), encN (f 2), encN (f 3), encN (f 4), encN (f 5), encN (f 6),.bool qv] rfl rfl TY.out (by kernel_rfl) (by kernel_rfl) ?_
      try go_simp
      refine hK _ _ ?_
      clear hK K
      refine wpAny_done (by kernel_rfl) ?_ _
      go_wp2
      refine bodyPost_ret (results_cc rfl rfl rfl ZE.out.cel.whole YE.out.cel.whole _ _ Tryz.underlying119 Tryz.underlying67 rfl rfl (by kernel_rfl) (by kernel_rfl)) rfl ?_
      exact ⟨s13, ⟨a1, a2, a3, a4, a5, a6, a7, c, a8, f 0, f 1, f 2, f 3, f 4, f 5, f 6, qv⟩, _, _, _, rfl, D12.out, ownsRow_baseN IE.out (by omega), ownsRow_baseN JE.out (by omega), BE.out, RAN.out, N1.out⟩
    ·refine step_ld (by rfl) 67 _ rfl (w.heap.size + 3) 0 rfl [encN a1, encN a2, encN a3, encN a4, encN a5, encN a6, encN a7,J U c.k,J U c.tc,J U c.tn,J U c.tt,J U c.tk,J U c.sh,.slice A1 c.rs.length k1,.slice A2 c.ws.length k2,.bool c.cm, encN a8, encN (f 0), encN (f 1), encN (f 2), encN (f 3), encN (f 4), encN (f 5), encN (f 6),.bool qv] _ ((show wf.drew.rangeAt (w.heap.size + 3) 0 _ from CF.out.cel.whole)) Tryz.underlying67 rfl (by kernel_rfl) ?_
     try go_simp
     refine hK _ _ ?_
     clear hK K
     refine wpAny_ready (rs := [0]) (by kernel_rfl) (by simp) ?_
     refine AllReady.cons rfl (fun K hK => ?_) AllReady.nil
     refine step_ld (by rfl) 119 _ rfl w.heap.size 0 rfl [.slice A12 s13.xs.length c12,J U (s13.er : Int)] _ ((show wf.drew.rangeAt w.heap.size 0 _ from PF.out.cel.whole)) Tryz.underlying119 rfl (by kernel_rfl) ?_
     try go_simp
     refine hK _ _ ?_
     clear hK K
     refine wpAny_ready (rs := [2]) (by kernel_rfl) (by simp) ?_
     refine AllReady.cons rfl (fun K hK => ?_) AllReady.nil
     refine step_st (by rfl) 119 _ _ rfl (w.heap.size + 1) 0 [.slice A12 s13.xs.length c12,J U (s13.er : Int)] rfl rfl TZ.out (by kernel_rfl) (by kernel_rfl) ?_
     try go_simp
     refine hK _ _ ?_
     clear hK K
     refine wpAny_ready (rs := [3]) (by kernel_rfl) (by simp) ?_
     refine AllReady.cons rfl (fun K hK => ?_) AllReady.nil
     refine step_st (by rfl) 67 _ _ rfl (w.heap.size + 2) 0 [encN a1, encN a2, encN a3, encN a4, encN a5, encN a6, encN a7,J U c.k,J U c.tc,J U c.tn,J U c.tt,J U c.tk,J U c.sh,.slice A1 c.rs.length k1,.slice A2 c.ws.length k2,.bool c.cm, encN a8, encN (f 0), encN (f 1), encN (f 2), encN (f 3), encN (f 4), encN (f 5), encN (f 6),.bool qv] rfl rfl TY.out (by kernel_rfl) (by kernel_rfl) ?_
     try go_simp
     refine hK _ _ ?_
     clear hK K
     refine wpAny_done (by kernel_rfl) ?_ _
     go_wp2
     refine bodyPost_ret (results_cc rfl rfl rfl ZE.out.cel.whole YE.out.cel.whole _ _ Tryz.underlying119 Tryz.underlying67 rfl rfl (by kernel_rfl) (by kernel_rfl)) rfl ?_
     exact ⟨s13, ⟨a1, a2, a3, a4, a5, a6, a7, c, a8, f 0, f 1, f 2, f 3, f 4, f 5, f 6, qv⟩, _, _, _, rfl, D12.out, ownsRow_baseN IE.out (by omega), ownsRow_baseN JE.out (by omega), BE.out, RAN.out, N1.out⟩
end Go.Proofs.YtdachohcjpjblaaGreatDoor.Wi
