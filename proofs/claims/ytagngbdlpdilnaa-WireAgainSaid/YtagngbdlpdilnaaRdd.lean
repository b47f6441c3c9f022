/- Contract of text; no conditions but those that it names. -/
import Derived.Test.YtagngbdlpdilnaaRdc
namespace Go.Proofs.Ytagngbdlpdilnaa
open Go.ChangeShapes Go.WideShapes Go.ChangeAt Go.RowKit

abbrev encT (x : List UInt8) : Value := .string ⟨x.toArray⟩
theorem conv_take {w : World} {b o n c : Nat} {xs : List UInt8} (hx : ∀ j x, xs[j]? = some x → w.cell? ⟨b, o + j, none⟩ = some (enc8 x)) (hn : n ≤ xs.length) :
    (convert 46 9 (.slice (some ⟨b, o, none⟩) n c)).run Try.prog w = .ok (encT (xs.take n)) w := by
  have h := run_convert_bytes_back (P := Try.prog) w 46 9 5 ⟨b, o, none⟩ c (xs.take n) Try.underlying46 Try.underlying5 Try.underlying9 (fun j hj => by
    rw [add_plain']
    rw [List.length_take] at hj
    have e : xs[j]? = some ((xs.take n)[j]) := by
      rw [List.getElem_take]; exact List.getElem?_eq_getElem (by omega)
    exact hx j _ e)
  rw [List.length_take, Nat.min_eq_left hn] at h
  exact h
theorem conv_none (w : World) (c : Nat) : (convert 46 9 (.slice none 0 c)).run Try.prog w = .ok (encT []) w := by
  have h := Go.run_convert_bytes_string (P := Try.prog) w 46 9 5 none 0 c Try.underlying46 Try.underlying5 Try.underlying9
  rw [h]
  simp [Conv.bytesToString]
  rfl

set_option maxHeartbeats 8000000 in
set_option maxRecDepth 100000 in
theorem text_any {w : World} {g : Nat} {s : P.Sr} (h : Rdr w g s) : Calls Try.prog 100 #[.pointer (some ⟨g, 0, none⟩), .int .i64 8] w (Rn P.text encT (·.length ≤ 8) g s w) := by
  have hR := Lib.hid h
  clear h
  go_enter Try.func100, Try.ntmps100
  go_wp2_with (fail)
  refine (count_any hR.out).mono ?_
  rintro e w1 ⟨s1, n, rfl, hn, hr, hb, hp⟩
  have HR := Lib.hid hr
  have HB := Lib.hid hb
  have HP := Lib.hid hp
  have HN := Lib.hid hn
  have HG := Lib.hid hr.lt
  obtain ⟨xs, er⟩ := s1
  obtain ⟨A, c, h, hc, hx⟩ := hr
  have H := Lib.hid h
  have HC := Lib.hid hc
  have HX := Lib.hid hx
  have c0 := h.cell 0 rfl
  have f0 := h.soft 0
  simp only at c0
  clear hb hp hn h hc hx
  obtain ⟨L, hL⟩ : ∃ L, L = xs.length := ⟨_, rfl⟩
  rw [← hL] at c0
  have HL := Lib.hid hL
  clear hL
  by_cases hlt : L < n
  · go_wp2_with (fail)
    refine (fail_any 3 rfl HR.out).mono ?_
    rintro e w2 ⟨rfl, hr, hb⟩
    have HR2 := Lib.hid hr
    have HB2 := Lib.hid (HB.out.trans hb (by have := HB.out.size; omega))
    have HT := Lib.hid hlt
    clear hr hb hlt
    go_wp2
    go_ret
    refine ⟨_, [], rfl, by simp, HR2.out, HB2.out, P.Ran.bind P.errs_few HP.out ?_⟩
    refine ⟨fun h0 => ?_, fun h0 r u hu => ?_, fun h0 e he => ?_⟩
    · unfold P.fail; rw [if_neg h0]
    · unfold P.take at hu
      rw [if_pos (by have := HT.out; have := HL.out; simp only; omega)] at hu
      cases hu
    · unfold P.take at he
      rw [if_pos (by have := HT.out; have := HL.out; simp only; omega)] at he
      cases he
      simp only at h0
      unfold P.fail; rw [if_pos h0]
  · have HT := Lib.hid hlt
    have fin : ∀ (w2 : World) (A' : Option Addr) (c' : Nat), w2 = w1.setCell ⟨g, 0, none⟩ (.slice A' (L - n) c') → L - n ≤ c' → (0 < L - n → ∃ b o o', A = some ⟨b, o, none⟩ ∧ A' = some ⟨b, o', none⟩ ∧ o' = o + n) → Rn P.text encT (·.length ≤ 8) g s w (.returned (encT (xs.take n))) w2 := by
      intro w2 A' c' e hc' ha
      subst e
      have hL := HL.out
      have hT := HT.out
      refine ⟨⟨xs.drop n, er⟩, xs.take n, rfl, (show (xs.take n).length ≤ 8 by rw [List.length_take]; have := HN.out; omega), ⟨A', c', ?_, ?_, ?_⟩, ?_, ?_⟩
      · have := H.out.put 0 (.slice A' (L - n) c')
        simp only [List.length_drop]
        rw [← hL]
        exact this
      · simp only [List.length_drop]; omega
      · intro h0
        simp only [List.length_drop] at h0
        obtain ⟨b, o, o', e1, e2, e3⟩ := ha (by omega)
        obtain ⟨b', o1, e4, hb', hx⟩ := HX.out (by simp only; omega)
        rw [e1] at e4
        cases e4
        refine ⟨b, o', e2, hb', fun j x hj => ?_⟩
        simp only [List.getElem?_drop] at hj
        subst e3
        have := hx (n + j) x hj
        rw [Nat.add_assoc]
        exact (World.cell?_of_block (w := w1) ((Bel.store w1 g 0 _).block b (by have := HG.out; omega) (by omega))).trans this
      · exact HB.out.trans (Bel.store w1 g 0 _) (by have := HB.out.size; omega)
      · refine P.Ran.bind P.errs_few HP.out ⟨fun h0 => rfl, fun h0 r u hu => ?_, fun h0 e he => ?_⟩
        · unfold P.take at hu
          rw [if_neg (by simp only; omega)] at hu
          cases hu
          simp only at h0
          exact ⟨by rw [h0], rfl⟩
        · unfold P.take at he
          rw [if_neg (by simp only; omega)] at he
          cases he
    have FIN := Lib.hid fin
    clear fin
    cases A with
    | none =>
      obtain rfl : L = 0 := by
        rcases Nat.eq_zero_or_pos L with h | h
        · exact h
        · obtain ⟨b, o, e, -⟩ := HX.out (by simp only; have := HL.out; omega)
          cases e
      obtain rfl : n = 0 := by omega
      have hcv := conv_none w1 c
      go_wp2
      go_ret
      exact FIN.out _ none c rfl (Nat.zero_le _) (fun h => absurd h (by omega))
    | some a =>
      have zero : ∀ (a : Addr), (convert 46 9 (.slice (some a) 0 c)).run Try.prog w1 = .ok (encT []) w1 := fun a => run_convert_bytes_back (P := Try.prog) w1 46 9 5 a c [] Try.underlying46 Try.underlying5 Try.underlying9 (fun j hj => absurd hj (by simp))
      by_cases h0 : L = 0
      · subst h0
        obtain rfl : n = 0 := by omega
        by_cases hc0 : c = 0
        · subst hc0
          have z1 := zero a
          go_wp2
          go_ret
          exact FIN.out _ _ _ rfl (Nat.zero_le _) (fun h => absurd h (by omega))
        · go_wp2
          go_ret
          exact FIN.out _ _ _ rfl (Nat.zero_le _) (fun h => absurd h (by omega))
      · obtain ⟨b, o, e, hb, hx⟩ := HX.out (by simp only; have := HL.out; omega)
        cases e
        have hnl : n ≤ xs.length := by have := HL.out; omega
        have hlc : L ≤ c := by have := HL.out; have := HC.out; simp only at this; omega
        have hcv := conv_take (c := c) hx hnl
        have hnc : n ≤ c := by omega
        have hnl' : n ≤ L := by omega
        have hc1 : ¬ c = 0 := by omega
        clear zero hx hnl
        by_cases hn : n = c
        · subst hn
          obtain rfl : L = n := by omega
          go_wp2
          go_ret
          exact FIN.out _ (some ⟨b, o, none⟩) 0 (by rw [Nat.sub_self]) (by omega) (fun h => absurd h (by omega))
        · go_wp2
          go_ret
          exact FIN.out _ (some ⟨b, o + n, none⟩) (c - n) rfl (by omega) (fun _ => ⟨b, o, o + n, rfl, rfl, rfl⟩)
end Go.Proofs.Ytagngbdlpdilnaa
