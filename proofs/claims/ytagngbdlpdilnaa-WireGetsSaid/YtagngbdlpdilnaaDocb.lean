/- Contracts of the document's reading: number, few, tag, text; no conditions but those that they name. -/
import Derived.Test.YtagngbdlpdilnaaDoca
namespace Go.Proofs.Ytagngbdlpdilnaa
open Go.ChangeShapes Go.WideShapes Go.ChangeAt Go.RowKit

set_option maxHeartbeats 8000000 in
set_option maxRecDepth 100000 in
theorem tag_doc {w0 w : World} {x : Value} {s : P.Sr} (c : Nat) {y : Int} (hy : y = (c : Int)) (hw : Below w0.heap.size w0 w) (h : Prt w0 x s) :
    Calls Try.prog 58 #[x, .int .i64 y] w fun e w' => ∃ s1 x', e = .returned x' ∧ Prt w0 x' s1 ∧ Below w.heap.size w w' ∧ P.Ran (P.mark c) s s1 () := by
  subst hy
  obtain ⟨A0, c0, rfl, hq⟩ := h
  have D0 := Lib.hid (show Prt w0 _ s from ⟨A0, c0, rfl, hq⟩)
  have HW := Lib.hid hw
  have P0 := Lib.hid ((Hold.new w [.slice A0 s.xs.length c0, .int .i64 (s.er : Int)] 98).alloc (.cells #[.slice none 0 0, .int .i64 0] 98))
  have Z0 := Lib.hid (Hold.new1 w (.cells #[.slice A0 s.xs.length c0, .int .i64 (s.er : Int)] 98) [.slice none 0 0, .int .i64 0] 98)
  have B0 := Lib.hid (below_new (o := .cells #[.slice none 0 0, .int .i64 0] 98) (below_new (o := .cells #[.slice A0 s.xs.length c0, .int .i64 (s.er : Int)] 98) (Below.refl w.heap.size w)))
  clear hq hw
  go_enter Try.func58, Try.ntmps58
  go_wp2_with (fail)
  refine (one_doc (HW.out.trans (B0.out.mono HW.out.size)) D0.out).mono ?_
  rintro e w1 ⟨s1, n, x1, rfl, hn, hx, hb, hp⟩
  obtain ⟨A1, c1, rfl, hq⟩ := hx
  have D1 := Lib.hid (show Prt w0 _ s1 from ⟨A1, c1, rfl, hq⟩)
  have W10 := Lib.hid (below_on B0.out hb)
  have P10 := Lib.hid (P0.out.on hb)
  have Z10 := Lib.hid (Z0.out.on hb)
  clear hq hb
  have H1 := Lib.hid hp
  clear hp hn
  have p0 := P10.out.cell 0 rfl
  have p1 := P10.out.cell 1 rfl
  have r0 := P10.out.soft 0
  have r1 := P10.out.soft 1
  have P1 := Lib.hid (show Hold ((w1.setCell ⟨w.heap.size, 0, none⟩ (.slice A1 s1.xs.length c1)).setCell ⟨w.heap.size, 1, none⟩ (.int .i64 (s1.er : Int))) w.heap.size 98 [.slice A1 s1.xs.length c1, .int .i64 (s1.er : Int)] from (P10.out.put 0 (.slice A1 s1.xs.length c1)).put 1 (.int .i64 (s1.er : Int)))
  have Z1 := Lib.hid ((Z10.out.bel (Bel.store _ w.heap.size 0 (.slice A1 s1.xs.length c1)) (by omega)).bel (Bel.store _ w.heap.size 1 (.int .i64 (s1.er : Int))) (by omega))
  have B1 := Lib.hid ((W10.out.setCell (p := ⟨w.heap.size, 0, none⟩) (by simp) (.slice A1 s1.xs.length c1)).setCell (p := ⟨w.heap.size, 1, none⟩) (by simp) (.int .i64 (s1.er : Int)))
  by_cases hc : n = c
  · subst hc
    have z0 := Z1.out.cell 0 rfl
    have z1 := Z1.out.cell 1 rfl
    have y0 := Z1.out.soft 0
    have y1 := Z1.out.soft 1
    have ZE := Lib.hid ((Z1.out.put 0 (.slice A1 s1.xs.length c1)).put 1 (.int .i64 (s1.er : Int)))
    have BE := Lib.hid ((B1.out.setCell (p := ⟨w.heap.size + 1, 0, none⟩) (by simp) (.slice A1 s1.xs.length c1)).setCell (p := ⟨w.heap.size + 1, 1, none⟩) (by simp) (.int .i64 (s1.er : Int)))
    go_wp2
    refine bodyPost_ret (results_cs rfl rfl ZE.out _ Try.underlying98 rfl (by kernel_rfl)) rfl ?_
    exact ⟨s1, _, rfl, D1.out, BE.out, P.Ran.bind P.errs_one H1.out (by rw [if_pos rfl]; exact P.Ran.ret _ _)⟩
  · have q1 : ((n : Int) == (c : Int)) = false := by rw [beq_eq_false_iff_ne]; omega
    have q2 : ((n : Int) != (c : Int)) = true := by rw [bne, q1]; rfl
    have q3 : (n == c) = false := by rw [beq_eq_false_iff_ne]; exact hc
    have q4 : (n != c) = true := by rw [bne, q3]; rfl
    have HC := Lib.hid hc
    clear hc
    go_wp2_with (fail)
    refine (fail_doc 4 rfl D1.out).mono ?_
    rintro e w2 ⟨x2, rfl, hx, hb⟩
    obtain ⟨A2, c2, rfl, hq⟩ := hx
    have D2 := Lib.hid (show Prt w0 _ (P.fail 4 s1) from ⟨A2, c2, rfl, hq⟩)
    obtain ⟨s2, hs2⟩ : ∃ s2, s2 = P.fail 4 s1 := ⟨_, rfl⟩
    rw [← hs2] at D2 ⊢
    have HS := Lib.hid hs2
    have Z2 := Lib.hid (Z1.out.on hb)
    have B2 := Lib.hid (below_on B1.out hb)
    clear hq hb hs2 p0 p1 r0 r1
    have z0 := Z2.out.cell 0 rfl
    have z1 := Z2.out.cell 1 rfl
    have y0 := Z2.out.soft 0
    have y1 := Z2.out.soft 1
    have ZE := Lib.hid ((Z2.out.put 0 (.slice A2 s2.xs.length c2)).put 1 (.int .i64 (s2.er : Int)))
    have BE := Lib.hid ((B2.out.setCell (p := ⟨w.heap.size + 1, 0, none⟩) (by simp) (.slice A2 s2.xs.length c2)).setCell (p := ⟨w.heap.size + 1, 1, none⟩) (by simp) (.int .i64 (s2.er : Int)))
    go_wp2
    refine bodyPost_ret (results_cs rfl rfl ZE.out _ Try.underlying98 rfl (by kernel_rfl)) rfl ?_
    exact ⟨s2, _, rfl, D2.out, BE.out, P.Ran.bind P.errs_one H1.out (by rw [if_neg HC.out, HS.out]; exact P.Ran.err _ _)⟩

set_option maxHeartbeats 16000000 in
set_option maxRecDepth 100000 in
theorem number_doc {w0 w : World} {x : Value} {s : P.Sr} (hw : Below w0.heap.size w0 w) (h : Prt w0 x s) :
    Calls Try.prog 57 #[x] w (Dn P.num encN (fun s1 v => v ≤ 1099511627776 ∧ (s1.er ≠ 0 → v = 0)) w0 s w) := by
  obtain ⟨A0, c0, rfl, hq⟩ := h
  have D0 := Lib.hid (show Prt w0 _ s from ⟨A0, c0, rfl, hq⟩)
  have HW := Lib.hid hw
  have P0 := Lib.hid ((Hold.new w [.slice A0 s.xs.length c0, .int .i64 (s.er : Int)] 98).alloc (.cells #[.slice none 0 0, .int .i64 0] 98))
  have Z0 := Lib.hid (Hold.new1 w (.cells #[.slice A0 s.xs.length c0, .int .i64 (s.er : Int)] 98) [.slice none 0 0, .int .i64 0] 98)
  have B0 := Lib.hid (below_new (o := .cells #[.slice none 0 0, .int .i64 0] 98) (below_new (o := .cells #[.slice A0 s.xs.length c0, .int .i64 (s.er : Int)] 98) (Below.refl w.heap.size w)))
  clear hq hw
  go_enter Try.func57, Try.ntmps57
  go_wp2
  go_loopw [4, 5, 6] (fun a pw i wr => ∃ (k n q : Nat) (s1 : P.Sr) (A1 : Option Addr) (c1 : Nat), k ≤ 6 ∧ i = .int .i64 k ∧ a = .int .i64 n ∧ pw = .int .i64 q ∧ q = 128 ^ k ∧ n < q ∧ Hold wr w.heap.size 98 [.slice A1 s1.xs.length c1, .int .i64 (s1.er : Int)] ∧ Hold wr (w.heap.size + 1) 98 [.slice none 0 0, .int .i64 0] ∧ Below w.heap.size w wr ∧ Prt w0 (.agg #[.slice A1 s1.xs.length c1, .int .i64 (s1.er : Int)]) s1 ∧ ∀ s2 v, P.Ran (P.numL (6 - k) k n) s1 s2 v → P.Ran P.num s s2 v) (fun _ _ i _ => 6 - (intOf i).toNat)
  case atStart => exact ⟨0, 0, 1, s, A0, c0, Nat.zero_le _, rfl, rfl, rfl, rfl, by omega, P0.out, Z0.out, B0.out, D0.out, fun _ _ h => h⟩
  case round =>
    obtain ⟨k, n, q, s9, A9, c9, hk, rfl, rfl, rfl, hq, hn, hp, hz, hb, hd, hc⟩ := hrel
    have P9 := Lib.hid hp
    have Z9 := Lib.hid hz
    have B9 := Lib.hid hb
    have D9 := Lib.hid hd
    have p0 := P9.out.cell 0 rfl
    have p1 := P9.out.cell 1 rfl
    by_cases h6 : k < 6
    · obtain ⟨f, hf⟩ : ∃ f, 6 - k = f + 1 := ⟨5 - k, by omega⟩
      rw [hf, P.numL_succ] at hc
      have HC := Lib.hid hc
      have HQ := Lib.hid hq
      have HN := Lib.hid hn
      have HF := Lib.hid hf
      have hq5 : q ≤ 34359738368 := by rw [hq]; exact pow_le5 (by omega)
      have HQ5 := Lib.hid hq5
      clear hp hz hb hd hc hq hf hn
      go_wp2_with (fail)
      refine (one_doc (HW.out.trans (B9.out.mono HW.out.size)) D9.out).mono ?_
      rintro e w1 ⟨s1, x, x1, rfl, hx256, hx, hb, hp⟩
      obtain ⟨A1, c1, rfl, hq⟩ := hx
      have D1 := Lib.hid (show Prt w0 _ s1 from ⟨A1, c1, rfl, hq⟩)
      have W10 := Lib.hid (below_on B9.out hb)
      have P10 := Lib.hid (P9.out.on hb)
      have Z10 := Lib.hid (Z9.out.on hb)
      clear hq hb
      have H1 := Lib.hid hp
      have HX := Lib.hid hx256
      clear hp p0 p1 P9 Z9 B9 hq5 hx256
      have p0 := P10.out.cell 0 rfl
      have p1 := P10.out.cell 1 rfl
      have r0 := P10.out.soft 0
      have r1 := P10.out.soft 1
      have P1 := Lib.hid (show Hold ((w1.setCell ⟨w.heap.size, 0, none⟩ (.slice A1 s1.xs.length c1)).setCell ⟨w.heap.size, 1, none⟩ (.int .i64 (s1.er : Int))) w.heap.size 98 [.slice A1 s1.xs.length c1, .int .i64 (s1.er : Int)] from (P10.out.put 0 (.slice A1 s1.xs.length c1)).put 1 (.int .i64 (s1.er : Int)))
      have Z1 := Lib.hid ((Z10.out.bel (Bel.store _ w.heap.size 0 (.slice A1 s1.xs.length c1)) (by omega)).bel (Bel.store _ w.heap.size 1 (.int .i64 (s1.er : Int))) (by omega))
      have B1 := Lib.hid ((W10.out.setCell (p := ⟨w.heap.size, 0, none⟩) (by simp) (.slice A1 s1.xs.length c1)).setCell (p := ⟨w.heap.size, 1, none⟩) (by simp) (.int .i64 (s1.er : Int)))
      by_cases he : s1.er = 0
      · have HE := Lib.hid he
        have q1 : ((s1.er : Int) == 0) = true := by rw [beq_iff_eq]; omega
        have q2 : ((s1.er : Int) != 0) = false := by rw [bne, q1]; rfl
        clear he
        by_cases h1 : x < 128
        · obtain ⟨r, hr⟩ : ∃ r, r = x * q := ⟨_, rfl⟩
          obtain ⟨t, ht⟩ : ∃ t, t = n + r := ⟨_, rfl⟩
          have hr2 : r ≤ 127 * 34359738368 := by rw [hr]; exact Nat.mul_le_mul (by omega) HQ5.out
          have m1 : IntKind.i64.wrap ((x : Int) * (q : Int)) = (r : Int) := by rw [show (x : Int) * (q : Int) = (r : Int) by rw [hr]; push_cast; rfl]; exact wrap_nat r (by omega)
          have m2 : IntKind.i64.wrap ((n : Int) + (r : Int)) = (t : Int) := by rw [show (n : Int) + (r : Int) = (t : Int) by rw [ht]; push_cast; rfl]; exact wrap_nat t (by have := HN.out; have := HQ5.out; omega)
          have HT := Lib.hid (show t = n + x * 128 ^ k by rw [ht, hr, HQ.out])
          have HR2 := Lib.hid hr2
          clear hr ht hr2
          by_cases h2 : x = 0 ∧ 0 < k
          · obtain ⟨rfl, h3⟩ := h2
            rw [show ((0 : Nat) : Int) = 0 from rfl] at m1
            go_wp2_with (fail)
            refine (fail_doc 4 rfl D1.out).mono ?_
            rintro e w2 ⟨x2, rfl, hx, hb⟩
            obtain ⟨A2, c2, rfl, hq⟩ := hx
            have D2 := Lib.hid (show Prt w0 _ (P.fail 4 s1) from ⟨A2, c2, rfl, hq⟩)
            obtain ⟨s2, hs2⟩ : ∃ s2, s2 = P.fail 4 s1 := ⟨_, rfl⟩
            rw [← hs2] at D2 ⊢
            have HS2 := Lib.hid hs2
            have Z2 := Lib.hid (Z1.out.on hb)
            have B2 := Lib.hid (below_on B1.out hb)
            clear hq hb hs2
            clear p0 p1 r0 r1
            have z0 := Z2.out.cell 0 rfl
            have z1 := Z2.out.cell 1 rfl
            have y0 := Z2.out.soft 0
            have y1 := Z2.out.soft 1
            have ZE := Lib.hid ((Z2.out.put 0 (.slice A2 s2.xs.length c2)).put 1 (.int .i64 (s2.er : Int)))
            have BE := Lib.hid ((B2.out.setCell (p := ⟨w.heap.size + 1, 0, none⟩) (by simp) (.slice A2 s2.xs.length c2)).setCell (p := ⟨w.heap.size + 1, 1, none⟩) (by simp) (.int .i64 (s2.er : Int)))
            go_wp2
            refine bodyPost_ret (results_cv rfl rfl rfl ZE.out.cel.whole _ Try.underlying98 rfl (by kernel_rfl)) rfl ?_
            refine ⟨s2, 0, _, rfl, ⟨by omega, fun _ => rfl⟩, D2.out, BE.out, HC.out s2 0 (P.Ran.bind P.errs_one H1.out ?_)⟩
            rw [if_pos (by omega), if_pos ⟨rfl, h3⟩, HS2.out]
            exact P.Ran.err _ _
          · have H2 := Lib.hid h2
            have K1 := Lib.hid h1
            have nc : ∀ (s4 : P.Sr) (v : Nat), P.Ran (if 1099511627776 < t then P.err 2 else P.ret t) s1 s4 v → P.Ran P.num s s4 v := fun s4 v hh => by
              refine HC.out s4 v (P.Ran.bind P.errs_one H1.out ?_)
              rw [if_pos h1, if_neg h2, ← HT.out]
              exact hh
            have NC := Lib.hid nc
            clear nc
            have g0 : ((x : Int) == 0 && decide ((k : Int) > 0)) = false := by
              rw [Bool.and_eq_false_iff]
              by_cases hx0 : x = 0
              · right; exact decide_eq_false (by omega)
              · left; rw [beq_eq_false_iff_ne]; omega
            clear g0
            by_cases hx0 : x = 0
            · obtain rfl : k = 0 := by omega
              subst hx0
              obtain rfl : q = 1 := by have := HQ.out; simpa using this
              obtain rfl : n = 0 := by have := HN.out; omega
              obtain rfl : t = 0 := by have := HT.out; simpa using this
              clear h2 h1 m1 m2
              have z0 := Z1.out.cell 0 rfl
              have z1 := Z1.out.cell 1 rfl
              have y0 := Z1.out.soft 0
              have y1 := Z1.out.soft 1
              have ZE := Lib.hid ((Z1.out.put 0 (.slice A1 s1.xs.length c1)).put 1 (.int .i64 (s1.er : Int)))
              have BE := Lib.hid ((B1.out.setCell (p := ⟨w.heap.size + 1, 0, none⟩) (by simp) (.slice A1 s1.xs.length c1)).setCell (p := ⟨w.heap.size + 1, 1, none⟩) (by simp) (.int .i64 (s1.er : Int)))
              go_wp2
              refine bodyPost_ret (results_cv rfl rfl rfl ZE.out.cel.whole _ Try.underlying98 rfl (by kernel_rfl)) rfl ?_
              refine ⟨s1, 0, _, rfl, ⟨by omega, fun _ => rfl⟩, D1.out, BE.out, NC.out s1 0 ?_⟩
              rw [if_neg (by omega)]
              exact P.Ran.ret _ _
            · have hx1 : ((x : Int) == 0) = false := by rw [beq_eq_false_iff_ne]; omega
              clear h2
              by_cases hm : 1099511627776 < t
              · have HM := Lib.hid hm
                go_wp2_with (fail)
                refine (fail_doc 2 rfl D1.out).mono ?_
                rintro e w2 ⟨x2, rfl, hx, hb⟩
                obtain ⟨A2, c2, rfl, hq⟩ := hx
                have D2 := Lib.hid (show Prt w0 _ (P.fail 2 s1) from ⟨A2, c2, rfl, hq⟩)
                obtain ⟨s2, hs2⟩ : ∃ s2, s2 = P.fail 2 s1 := ⟨_, rfl⟩
                rw [← hs2] at D2 ⊢
                have HS2 := Lib.hid hs2
                have Z2 := Lib.hid (Z1.out.on hb)
                have B2 := Lib.hid (below_on B1.out hb)
                clear hq hb hs2
                clear p0 p1 r0 r1
                have z0 := Z2.out.cell 0 rfl
                have z1 := Z2.out.cell 1 rfl
                have y0 := Z2.out.soft 0
                have y1 := Z2.out.soft 1
                have ZE := Lib.hid ((Z2.out.put 0 (.slice A2 s2.xs.length c2)).put 1 (.int .i64 (s2.er : Int)))
                have BE := Lib.hid ((B2.out.setCell (p := ⟨w.heap.size + 1, 0, none⟩) (by simp) (.slice A2 s2.xs.length c2)).setCell (p := ⟨w.heap.size + 1, 1, none⟩) (by simp) (.int .i64 (s2.er : Int)))
                go_wp2
                refine bodyPost_ret (results_cv rfl rfl rfl ZE.out.cel.whole _ Try.underlying98 rfl (by kernel_rfl)) rfl ?_
                refine ⟨s2, 0, _, rfl, ⟨by omega, fun _ => rfl⟩, D2.out, BE.out, NC.out s2 0 ?_⟩
                rw [if_pos HM.out, HS2.out]
                exact P.Ran.err _ _
              · have HM := Lib.hid hm
                have z0 := Z1.out.cell 0 rfl
                have z1 := Z1.out.cell 1 rfl
                have y0 := Z1.out.soft 0
                have y1 := Z1.out.soft 1
                have ZE := Lib.hid ((Z1.out.put 0 (.slice A1 s1.xs.length c1)).put 1 (.int .i64 (s1.er : Int)))
                have BE := Lib.hid ((B1.out.setCell (p := ⟨w.heap.size + 1, 0, none⟩) (by simp) (.slice A1 s1.xs.length c1)).setCell (p := ⟨w.heap.size + 1, 1, none⟩) (by simp) (.int .i64 (s1.er : Int)))
                go_wp2
                refine bodyPost_ret (results_cv rfl rfl rfl ZE.out.cel.whole _ Try.underlying98 rfl (by kernel_rfl)) rfl ?_
                refine ⟨s1, t, _, rfl, ⟨by have := HM.out; omega, fun h => absurd HE.out h⟩, D1.out, BE.out, NC.out s1 t ?_⟩
                rw [if_neg HM.out]
                exact P.Ran.ret _ _
        · have hx2 := HX.out
          obtain ⟨y, hy⟩ : ∃ y, y = x - 128 := ⟨_, rfl⟩
          obtain ⟨r, hr⟩ : ∃ r, r = y * q := ⟨_, rfl⟩
          obtain ⟨t, ht⟩ : ∃ t, t = n + r := ⟨_, rfl⟩
          obtain ⟨q', hq'⟩ : ∃ q', q' = q * 128 := ⟨_, rfl⟩
          have hr2 : r ≤ 127 * 34359738368 := by rw [hr]; exact Nat.mul_le_mul (by omega) HQ5.out
          have hr3 : r ≤ 127 * q := by rw [hr]; exact Nat.mul_le_mul_right _ (by omega)
          have m0 : IntKind.i64.wrap ((x : Int) - 128) = (y : Int) := by rw [show (x : Int) - 128 = (y : Int) by omega]; exact wrap_nat y (by omega)
          have m1 : IntKind.i64.wrap ((y : Int) * (q : Int)) = (r : Int) := by rw [show (y : Int) * (q : Int) = (r : Int) by rw [hr]; push_cast; rfl]; exact wrap_nat r (by omega)
          have m2 : IntKind.i64.wrap ((n : Int) + (r : Int)) = (t : Int) := by rw [show (n : Int) + (r : Int) = (t : Int) by rw [ht]; push_cast; rfl]; exact wrap_nat t (by have := HN.out; have := HQ5.out; omega)
          have m3 : IntKind.i64.wrap ((q : Int) * 128) = (q' : Int) := by rw [show (q : Int) * 128 = (q' : Int) by omega]; exact wrap_nat q' (by have := HQ5.out; omega)
          have HT := Lib.hid (show t = n + (x - 128) * 128 ^ k by rw [ht, hr, hy, HQ.out])
          have HT2 := Lib.hid (show t < q' by have := HN.out; omega)
          have HQ' := Lib.hid (show q' = 128 ^ (k + 1) by rw [hq', HQ.out, Nat.pow_succ])
          have K1 := Lib.hid h1
          clear hr ht hr2 hr3 hy hq' hx2
          go_wp2
          go_roundw
          case rel =>
            refine ⟨k + 1, t, q', s1, A1, c1, by omega, by go_num, rfl, rfl, HQ'.out, HT2.out, P1.out, Z1.out, B1.out, D1.out, fun s4 v hh => HC.out s4 v (P.Ran.bind P.errs_one H1.out ?_)⟩
            rw [if_neg K1.out, ← HT.out]
            rw [show 6 - (k + 1) = f by have := HF.out; omega] at hh
            exact hh
          case measure => simp [intOf]; omega
      · have HE := Lib.hid he
        have q1 : ((s1.er : Int) == 0) = false := by rw [beq_eq_false_iff_ne]; omega
        have q2 : ((s1.er : Int) != 0) = true := by rw [bne, q1]; rfl
        clear he
        have z0 := Z1.out.cell 0 rfl
        have z1 := Z1.out.cell 1 rfl
        have y0 := Z1.out.soft 0
        have y1 := Z1.out.soft 1
        have ZE := Lib.hid ((Z1.out.put 0 (.slice A1 s1.xs.length c1)).put 1 (.int .i64 (s1.er : Int)))
        have BE := Lib.hid ((B1.out.setCell (p := ⟨w.heap.size + 1, 0, none⟩) (by simp) (.slice A1 s1.xs.length c1)).setCell (p := ⟨w.heap.size + 1, 1, none⟩) (by simp) (.int .i64 (s1.er : Int)))
        go_wp2
        refine bodyPost_ret (results_cv rfl rfl rfl ZE.out.cel.whole _ Try.underlying98 rfl (by kernel_rfl)) rfl ?_
        exact ⟨s1, 0, _, rfl, ⟨by omega, fun _ => rfl⟩, D1.out, BE.out, HC.out s1 0 (P.Ran.early H1.out HE.out 0)⟩
    · obtain rfl : k = 6 := by omega
      have HC := Lib.hid hc
      clear hp hz hb hd hc hq hn
      go_wp2_with (fail)
      refine (fail_doc 2 rfl D9.out).mono ?_
      rintro e w2 ⟨x2, rfl, hx, hb⟩
      obtain ⟨A2, c2, rfl, hq⟩ := hx
      have D2 := Lib.hid (show Prt w0 _ (P.fail 2 s9) from ⟨A2, c2, rfl, hq⟩)
      obtain ⟨s2, hs2⟩ : ∃ s2, s2 = P.fail 2 s9 := ⟨_, rfl⟩
      rw [← hs2] at D2 ⊢
      have HS2 := Lib.hid hs2
      have Z2 := Lib.hid (Z9.out.on hb)
      have B2 := Lib.hid (below_on B9.out hb)
      clear hq hb hs2
      clear p0 p1
      have z0 := Z2.out.cell 0 rfl
      have z1 := Z2.out.cell 1 rfl
      have y0 := Z2.out.soft 0
      have y1 := Z2.out.soft 1
      have ZE := Lib.hid ((Z2.out.put 0 (.slice A2 s2.xs.length c2)).put 1 (.int .i64 (s2.er : Int)))
      have BE := Lib.hid ((B2.out.setCell (p := ⟨w.heap.size + 1, 0, none⟩) (by simp) (.slice A2 s2.xs.length c2)).setCell (p := ⟨w.heap.size + 1, 1, none⟩) (by simp) (.int .i64 (s2.er : Int)))
      go_wp2
      refine bodyPost_ret (results_cv rfl rfl rfl ZE.out.cel.whole _ Try.underlying98 rfl (by kernel_rfl)) rfl ?_
      refine ⟨s2, 0, _, rfl, ⟨by omega, fun _ => rfl⟩, D2.out, BE.out, HC.out s2 0 ?_⟩
      rw [HS2.out]
      exact P.Ran.err _ _

set_option maxHeartbeats 8000000 in
set_option maxRecDepth 100000 in
theorem few_doc {w0 w : World} {x : Value} {s : P.Sr} (hw : Below w0.heap.size w0 w) (h : Prt w0 x s) :
    Calls Try.prog 84 #[x] w (Dn P.few encN (fun s1 v => v ≤ 8 ∧ (s1.er ≠ 0 → v = 0)) w0 s w) := by
  obtain ⟨A0, c0, rfl, hq⟩ := h
  have D0 := Lib.hid (show Prt w0 _ s from ⟨A0, c0, rfl, hq⟩)
  have HW := Lib.hid hw
  have P0 := Lib.hid ((Hold.new w [.slice A0 s.xs.length c0, .int .i64 (s.er : Int)] 98).alloc (.cells #[.slice none 0 0, .int .i64 0] 98))
  have Z0 := Lib.hid (Hold.new1 w (.cells #[.slice A0 s.xs.length c0, .int .i64 (s.er : Int)] 98) [.slice none 0 0, .int .i64 0] 98)
  have B0 := Lib.hid (below_new (o := .cells #[.slice none 0 0, .int .i64 0] 98) (below_new (o := .cells #[.slice A0 s.xs.length c0, .int .i64 (s.er : Int)] 98) (Below.refl w.heap.size w)))
  clear hq hw
  go_enter Try.func84, Try.ntmps84
  go_wp2_with (fail)
  refine (number_doc (HW.out.trans (B0.out.mono HW.out.size)) D0.out).mono ?_
  rintro e w1 ⟨s1, n, x1, rfl, ⟨hn, hn0⟩, hx, hb, hp⟩
  obtain ⟨A1, c1, rfl, hq⟩ := hx
  have D1 := Lib.hid (show Prt w0 _ s1 from ⟨A1, c1, rfl, hq⟩)
  have W10 := Lib.hid (below_on B0.out hb)
  have P10 := Lib.hid (P0.out.on hb)
  have Z10 := Lib.hid (Z0.out.on hb)
  clear hq hb
  have H1 := Lib.hid hp
  have HN0 := Lib.hid hn0
  clear hp hn hn0
  have p0 := P10.out.cell 0 rfl
  have p1 := P10.out.cell 1 rfl
  have r0 := P10.out.soft 0
  have r1 := P10.out.soft 1
  have P1 := Lib.hid (show Hold ((w1.setCell ⟨w.heap.size, 0, none⟩ (.slice A1 s1.xs.length c1)).setCell ⟨w.heap.size, 1, none⟩ (.int .i64 (s1.er : Int))) w.heap.size 98 [.slice A1 s1.xs.length c1, .int .i64 (s1.er : Int)] from (P10.out.put 0 (.slice A1 s1.xs.length c1)).put 1 (.int .i64 (s1.er : Int)))
  have Z1 := Lib.hid ((Z10.out.bel (Bel.store _ w.heap.size 0 (.slice A1 s1.xs.length c1)) (by omega)).bel (Bel.store _ w.heap.size 1 (.int .i64 (s1.er : Int))) (by omega))
  have B1 := Lib.hid ((W10.out.setCell (p := ⟨w.heap.size, 0, none⟩) (by simp) (.slice A1 s1.xs.length c1)).setCell (p := ⟨w.heap.size, 1, none⟩) (by simp) (.int .i64 (s1.er : Int)))
  by_cases he : s1.er = 0
  · have HE := Lib.hid he
    have q1 : ((s1.er : Int) == 0) = true := by rw [beq_iff_eq]; omega
    clear he
    by_cases h8 : 8 < n
    · have H8 := Lib.hid h8
      go_wp2_with (fail)
      refine (fail_doc 2 rfl D1.out).mono ?_
      rintro e w2 ⟨x2, rfl, hx, hb⟩
      obtain ⟨A2, c2, rfl, hq⟩ := hx
      have D2 := Lib.hid (show Prt w0 _ (P.fail 2 s1) from ⟨A2, c2, rfl, hq⟩)
      obtain ⟨s2, hs2⟩ : ∃ s2, s2 = P.fail 2 s1 := ⟨_, rfl⟩
      rw [← hs2] at D2 ⊢
      have HS2 := Lib.hid hs2
      have Z2 := Lib.hid (Z1.out.on hb)
      have B2 := Lib.hid (below_on B1.out hb)
      clear hq hb hs2
      clear p0 p1 r0 r1
      have z0 := Z2.out.cell 0 rfl
      have z1 := Z2.out.cell 1 rfl
      have y0 := Z2.out.soft 0
      have y1 := Z2.out.soft 1
      have ZE := Lib.hid ((Z2.out.put 0 (.slice A2 s2.xs.length c2)).put 1 (.int .i64 (s2.er : Int)))
      have BE := Lib.hid ((B2.out.setCell (p := ⟨w.heap.size + 1, 0, none⟩) (by simp) (.slice A2 s2.xs.length c2)).setCell (p := ⟨w.heap.size + 1, 1, none⟩) (by simp) (.int .i64 (s2.er : Int)))
      go_wp2
      refine bodyPost_ret (results_cv rfl rfl rfl ZE.out.cel.whole _ Try.underlying98 rfl (by kernel_rfl)) rfl ?_
      refine ⟨s2, 0, _, rfl, ⟨by omega, fun _ => rfl⟩, D2.out, BE.out, P.Ran.bind P.errs_num H1.out ?_⟩
      rw [if_pos H8.out, HS2.out]
      exact P.Ran.err _ _
    · have H8 := Lib.hid h8
      have z0 := Z1.out.cell 0 rfl
      have z1 := Z1.out.cell 1 rfl
      have y0 := Z1.out.soft 0
      have y1 := Z1.out.soft 1
      have ZE := Lib.hid ((Z1.out.put 0 (.slice A1 s1.xs.length c1)).put 1 (.int .i64 (s1.er : Int)))
      have BE := Lib.hid ((B1.out.setCell (p := ⟨w.heap.size + 1, 0, none⟩) (by simp) (.slice A1 s1.xs.length c1)).setCell (p := ⟨w.heap.size + 1, 1, none⟩) (by simp) (.int .i64 (s1.er : Int)))
      go_wp2
      refine bodyPost_ret (results_cv rfl rfl rfl ZE.out.cel.whole _ Try.underlying98 rfl (by kernel_rfl)) rfl ?_
      refine ⟨s1, n, _, rfl, ⟨by have := H8.out; omega, HN0.out⟩, D1.out, BE.out, P.Ran.bind P.errs_num H1.out ?_⟩
      rw [if_neg H8.out]
      exact P.Ran.ret _ _
  · have q1 : ((s1.er : Int) == 0) = false := by rw [beq_eq_false_iff_ne]; omega
    obtain rfl : n = 0 := HN0.out he
    have HE := Lib.hid he
    clear he
    have z0 := Z1.out.cell 0 rfl
    have z1 := Z1.out.cell 1 rfl
    have y0 := Z1.out.soft 0
    have y1 := Z1.out.soft 1
    have ZE := Lib.hid ((Z1.out.put 0 (.slice A1 s1.xs.length c1)).put 1 (.int .i64 (s1.er : Int)))
    have BE := Lib.hid ((B1.out.setCell (p := ⟨w.heap.size + 1, 0, none⟩) (by simp) (.slice A1 s1.xs.length c1)).setCell (p := ⟨w.heap.size + 1, 1, none⟩) (by simp) (.int .i64 (s1.er : Int)))
    go_wp2
    refine bodyPost_ret (results_cv rfl rfl rfl ZE.out.cel.whole _ Try.underlying98 rfl (by kernel_rfl)) rfl ?_
    refine ⟨s1, 0, _, rfl, ⟨by omega, fun _ => rfl⟩, D1.out, BE.out, P.Ran.early H1.out HE.out 0⟩
end Go.Proofs.Ytagngbdlpdilnaa
