/- Contract of the document's text; no conditions but those that it names. -/
import Derived.Test.YtagngbdlpdilnaaDocb
namespace Go.Proofs.Ytagngbdlpdilnaa
open Go.ChangeShapes Go.WideShapes Go.ChangeAt Go.RowKit

theorem P.rep_one : ∀ (n : Nat) (xs : List UInt8), P.rep P.one n xs = if xs.length < n then .error 3 else .ok (xs.drop n, (xs.take n).map UInt8.toNat)
  | 0, xs => by rw [if_neg (by omega)]; rfl
  | n + 1, xs => by
    show P.bind (P.rep P.one n) (fun l => P.bind P.one fun x => P.ret (l ++ [x])) xs = _
    unfold P.bind
    rw [P.rep_one n xs]
    by_cases h : xs.length < n
    · rw [if_pos h, if_pos (by omega)]
    · rw [if_neg h]
      simp only
      by_cases h1 : xs.length < n + 1
      · rw [if_pos h1, List.drop_of_length_le (by omega)]; rfl
      · rw [if_neg h1, List.drop_eq_getElem_cons (by omega : n < xs.length), List.take_add_one, List.getElem?_eq_getElem (by omega)]
        simp only [P.one, P.ret]
        rw [List.map_append]
        rfl
theorem P.take_of_rep {s s1 : P.Sr} {n : Nat} {l : List Nat} (h : P.Ran (P.rep P.one n) s s1 l) : P.Ran (P.take n) s s1 (l.map UInt8.ofNat) := by
  refine ⟨h.stuck, fun h0 r u hu => ?_, fun h0 e he => ?_⟩
  · unfold P.take at hu
    by_cases hl : s.xs.length < n
    · rw [if_pos hl] at hu; cases hu
    · rw [if_neg hl] at hu
      cases hu
      obtain ⟨e1, e2⟩ := h.ok h0 (s.xs.drop n) ((s.xs.take n).map UInt8.toNat) (by rw [P.rep_one, if_neg hl])
      refine ⟨e1, ?_⟩
      rw [e2, List.map_map]
      conv => rhs; rw [← List.map_id (s.xs.take n)]
      apply List.map_congr_left
      intro x _
      simp
  · unfold P.take at he
    by_cases hl : s.xs.length < n
    · rw [if_pos hl] at he
      cases he
      exact h.bad h0 3 (by rw [P.rep_one, if_pos hl])
    · rw [if_neg hl] at he; cases he

set_option maxHeartbeats 16000000 in
set_option maxRecDepth 100000 in
theorem text_doc {w0 w : World} {x : Value} {s : P.Sr} (hw : Below w0.heap.size w0 w) (h : Prt w0 x s) :
    Calls Try.prog 85 #[x] w (Dn P.text encT (fun _ v => v.length ≤ 8) w0 s w) := by
  obtain ⟨A0, c0, rfl, hq⟩ := h
  have D0 := Lib.hid (show Prt w0 _ s from ⟨A0, c0, rfl, hq⟩)
  have HW := Lib.hid hw
  have P0 := Lib.hid ((Hold.new w [.slice A0 s.xs.length c0, .int .i64 (s.er : Int)] 98).alloc (.cells #[.slice none 0 0, .int .i64 0] 98))
  have Z0 := Lib.hid (Hold.new1 w (.cells #[.slice A0 s.xs.length c0, .int .i64 (s.er : Int)] 98) [.slice none 0 0, .int .i64 0] 98)
  have B0 := Lib.hid (below_new (o := .cells #[.slice none 0 0, .int .i64 0] 98) (below_new (o := .cells #[.slice A0 s.xs.length c0, .int .i64 (s.er : Int)] 98) (Below.refl w.heap.size w)))
  clear hq hw
  go_enter Try.func85, Try.ntmps85
  go_wp2_with (fail)
  refine (few_doc (HW.out.trans (B0.out.mono HW.out.size)) D0.out).mono ?_
  rintro e w1 ⟨s1, n, x1, rfl, ⟨hn, -⟩, hx, hb, hp⟩
  obtain ⟨A1, c1, rfl, hq⟩ := hx
  have D1 := Lib.hid (show Prt w0 _ s1 from ⟨A1, c1, rfl, hq⟩)
  have W10 := Lib.hid (below_on B0.out hb)
  have P10 := Lib.hid (P0.out.on hb)
  have Z10 := Lib.hid (Z0.out.on hb)
  clear hq hb
  have H1 := Lib.hid hp
  have HN := Lib.hid hn
  clear hp hn
  have p0 := P10.out.cell 0 rfl
  have p1 := P10.out.cell 1 rfl
  have r0 := P10.out.soft 0
  have r1 := P10.out.soft 1
  have P1 := Lib.hid (show Hold ((w1.setCell ⟨w.heap.size, 0, none⟩ (.slice A1 s1.xs.length c1)).setCell ⟨w.heap.size, 1, none⟩ (.int .i64 (s1.er : Int))) w.heap.size 98 [.slice A1 s1.xs.length c1, .int .i64 (s1.er : Int)] from (P10.out.put 0 (.slice A1 s1.xs.length c1)).put 1 (.int .i64 (s1.er : Int)))
  have Z1 := Lib.hid ((Z10.out.bel (Bel.store _ w.heap.size 0 (.slice A1 s1.xs.length c1)) (by omega)).bel (Bel.store _ w.heap.size 1 (.int .i64 (s1.er : Int))) (by omega))
  have B1 := Lib.hid ((W10.out.setCell (p := ⟨w.heap.size, 0, none⟩) (by simp) (.slice A1 s1.xs.length c1)).setCell (p := ⟨w.heap.size, 1, none⟩) (by simp) (.int .i64 (s1.er : Int)))
  go_wp2
  go_loopw [5, 6] (fun a i wr => ∃ (k : Nat) (l : List Nat) (s9 : P.Sr) (A9 : Option Addr) (c9 : Nat), k ≤ n ∧ i = .int .i64 k ∧ a = encT (l.map UInt8.ofNat) ∧ l.length = k ∧ Hold wr w.heap.size 98 [.slice A9 s9.xs.length c9, .int .i64 (s9.er : Int)] ∧ Hold wr (w.heap.size + 1) 98 [.slice none 0 0, .int .i64 0] ∧ Below w.heap.size w wr ∧ Prt w0 (.agg #[.slice A9 s9.xs.length c9, .int .i64 (s9.er : Int)]) s9 ∧ P.Ran (P.rep P.one k) s1 s9 l) (fun _ i _ => n - (intOf i).toNat)
  case atStart => exact ⟨0, [], s1, A1, c1, Nat.zero_le _, rfl, rfl, rfl, P1.out, Z1.out, B1.out, D1.out, P.Ran.ret _ _⟩
  case round =>
    obtain ⟨k, l, s9, A9, c9, hk, rfl, rfl, hl, hp, hz, hb, hd, hc⟩ := hrel
    have P9 := Lib.hid hp
    have Z9 := Lib.hid hz
    have B9 := Lib.hid hb
    have D9 := Lib.hid hd
    have HC := Lib.hid hc
    have HL := Lib.hid hl
    clear hp hz hb hd hc hl p0 p1 r0 r1
    have p0 := P9.out.cell 0 rfl
    have p1 := P9.out.cell 1 rfl
    by_cases hlt : k < n
    · go_wp2_with (fail)
      refine (one_doc (HW.out.trans (B9.out.mono HW.out.size)) D9.out).mono ?_
      rintro e w2 ⟨s2, y, x2, rfl, hy, hx, hb, hp⟩
      obtain ⟨A2, c2, rfl, hq⟩ := hx
      have D2 := Lib.hid (show Prt w0 _ s2 from ⟨A2, c2, rfl, hq⟩)
      have W20 := Lib.hid (below_on B9.out hb)
      have P20 := Lib.hid (P9.out.on hb)
      have Z20 := Lib.hid (Z9.out.on hb)
      clear hq hb
      have H2 := Lib.hid hp
      clear hp p0 p1
      have p0 := P20.out.cell 0 rfl
      have p1 := P20.out.cell 1 rfl
      have r0 := P20.out.soft 0
      have r1 := P20.out.soft 1
      have P2 := Lib.hid (show Hold ((w2.setCell ⟨w.heap.size, 0, none⟩ (.slice A2 s2.xs.length c2)).setCell ⟨w.heap.size, 1, none⟩ (.int .i64 (s2.er : Int))) w.heap.size 98 [.slice A2 s2.xs.length c2, .int .i64 (s2.er : Int)] from (P20.out.put 0 (.slice A2 s2.xs.length c2)).put 1 (.int .i64 (s2.er : Int)))
      have Z2 := Lib.hid ((Z20.out.bel (Bel.store _ w.heap.size 0 (.slice A2 s2.xs.length c2)) (by omega)).bel (Bel.store _ w.heap.size 1 (.int .i64 (s2.er : Int))) (by omega))
      have B2 := Lib.hid ((W20.out.setCell (p := ⟨w.heap.size, 0, none⟩) (by simp) (.slice A2 s2.xs.length c2)).setCell (p := ⟨w.heap.size, 1, none⟩) (by simp) (.int .i64 (s2.er : Int)))
      have wy : IntKind.u8.wrap (y : Int) = (y : Int) := by rw [wrap8]; omega
      obtain ⟨w3, e3⟩ : ∃ w3, w3 = (w2.setCell ⟨w.heap.size, 0, none⟩ (.slice A2 s2.xs.length c2)).setCell ⟨w.heap.size, 1, none⟩ (.int .i64 (s2.er : Int)) := ⟨_, rfl⟩
      have cv : (convert 46 9 (.slice (some ⟨w3.heap.size, 0, none⟩) 1 1)).run Try.prog (w3.alloc (.cells #[.int .u8 (y : Int)] 5)) = .ok (encT [UInt8.ofNat y]) (w3.alloc (.cells #[.int .u8 (y : Int)] 5)) :=
        conv_take (xs := [UInt8.ofNat y]) (n := 1) (fun j z hj => by
          have : j = 0 := by have := (List.getElem?_eq_some_iff.1 hj).1; simp at this; exact this
          subst this
          cases hj
          simp [byte_of y hy]) (by simp)
      have hs3 : w3.heap.size = w2.heap.size := by rw [e3]; simp
      rw [hs3] at cv
      rw [e3] at cv
      have cc : (⟨(l.map UInt8.ofNat).toArray⟩ : ByteArray) ++ ⟨[UInt8.ofNat y].toArray⟩ = ⟨((l ++ [y]).map UInt8.ofNat).toArray⟩ := by
        apply ByteArray.ext
        simp
      have lim : ¬ 9223372036854775807 < l.length + 1 := by have := HL.out; have := HN.out; omega
      have hk1 : k + 1 ≤ 9 := by have := HN.out; omega
      clear e3 hs3
      go_wp2
      go_roundw
      case rel =>
        refine ⟨k + 1, l ++ [y], s2, A2, c2, by omega, by go_num, ?_, by rw [List.length_append, HL.out]; rfl, P2.out.alloc _, Z2.out.alloc _, below_new B2.out, D2.out, ?_⟩
        · rw [List.map_append]; rfl
        · exact P.Ran.bind (P.errs_rep P.errs_one k) HC.out (P.Ran.bind P.errs_one H2.out (P.Ran.ret _ _))
      case measure => simp [intOf]; omega
    · obtain rfl : k = n := by omega
      have z0 := Z9.out.cell 0 rfl
      have z1 := Z9.out.cell 1 rfl
      have y0 := Z9.out.soft 0
      have y1 := Z9.out.soft 1
      have ZE := Lib.hid ((Z9.out.put 0 (.slice A9 s9.xs.length c9)).put 1 (.int .i64 (s9.er : Int)))
      have BE := Lib.hid ((B9.out.setCell (p := ⟨w.heap.size + 1, 0, none⟩) (by simp) (.slice A9 s9.xs.length c9)).setCell (p := ⟨w.heap.size + 1, 1, none⟩) (by simp) (.int .i64 (s9.er : Int)))
      go_wp2
      refine bodyPost_ret (results_cv rfl rfl rfl ZE.out.cel.whole _ Try.underlying98 rfl (by kernel_rfl)) rfl ?_
      refine ⟨s9, l.map UInt8.ofNat, _, rfl, (show (l.map UInt8.ofNat).length ≤ 8 by rw [List.length_map, HL.out]; exact HN.out), D9.out, BE.out, P.Ran.bind P.errs_few H1.out (P.take_of_rep HC.out)⟩
end Go.Proofs.Ytagngbdlpdilnaa
