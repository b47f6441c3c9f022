/- The walk of FrameCut; no conditions but that the table reads as the text lays it, and that a uint16 is one. -/
import Derived.Test.YtmjkcbcenpdcnaaDoorLaws
import Derived.Test.YtmjkcbcenpdcnaaDoorWalksL
namespace Go.Proofs.YtmjkcbcenpdcnaaDoor
open Go.RowKit

namespace M
/-- How far the frames ahead of a place reach, one by one. -/
theorem ahead_step {k i E : Nat} {l : List (List UInt8)} {N E0 : Nat} (hi : i < l.length) (h : (ahead (k - E) (l.drop i)).1 + i = N ∧ (ahead (k - E) (l.drop i)).2 + E = E0) (hE : E ≤ k) (hc : (l.getD i []).length + 8 ≤ k - E) :
    ((ahead (k - (E + ((l.getD i []).length + 8))) (l.drop (i + 1))).1 + (i + 1) = N ∧ (ahead (k - (E + ((l.getD i []).length + 8))) (l.drop (i + 1))).2 + (E + ((l.getD i []).length + 8)) = E0) ∧ E + ((l.getD i []).length + 8) ≤ k := by
  rw [drop_one l i hi, ahead_yes hc] at h
  rw [← Nat.sub_sub]
  simp only at h
  omega
theorem ahead_stop {k i E : Nat} {l : List (List UInt8)} {N E0 : Nat} (hi : i < l.length) (h : (ahead (k - E) (l.drop i)).1 + i = N ∧ (ahead (k - E) (l.drop i)).2 + E = E0) (hc : ¬ (l.getD i []).length + 8 ≤ k - E) : i = N ∧ E = E0 := by
  rw [drop_one l i hi, ahead_no hc] at h
  simp only at h
  omega
theorem ahead_end {k i E : Nat} {l : List (List UInt8)} {N E0 : Nat} (hi : ¬ i < l.length) (h : (ahead (k - E) (l.drop i)).1 + i = N ∧ (ahead (k - E) (l.drop i)).2 + E = E0) : i = N ∧ E = E0 := by
  rw [List.drop_of_length_le (by omega)] at h
  simp only [ahead] at h
  omega
end M

set_option maxHeartbeats 4000000 in
set_option maxRecDepth 100000 in
theorem cut_law {w : World} {v : Value} {l : List (List UInt8)} (x1 : Int) (hT : Tab w) (h : Lots w v l) (hx : 0 ≤ x1 ∧ x1 ≤ 65535) : Calls Tryd.prog 8 #[v, .int .u16 x1] w (Yes w) := by
  have HT := Lib.hid hT
  have HL := Lib.hid h
  obtain ⟨A, c, rfl, hc, _⟩ := h.opened
  obtain ⟨hx0, hx1⟩ := hx
  clear h hT
  go_enter Tryd.func8, Tryd.ntmps8
  go_wp2_with (fail)
  refine (row_any HT.out HL.out).mono ?_
  rintro e w1 ⟨v, B, rfl, hb, ⟨A1, n1, c1, rfl⟩, hB⟩
  have HB1 := Lib.hid hb
  have HT1 := Lib.hid (HT.out.below hb)
  have HL1 := Lib.hid (HL.out.below hb)
  have HS := Lib.hid hB
  clear hb hB HT HL
  cases B with
  | false =>
    go_wp2_with (fail)
    refine (awake_any HT1.out).mono ?_
    rintro e w2 ⟨rfl, hb⟩
    have HB2 := Lib.hid (below_on HB1.out hb)
    clear hb
    go_wp2
    go_ret
    exact ⟨rfl, HB2.out⟩
  | true =>
    obtain ⟨h20, hfit, hlen, hout⟩ := HS.out rfl
    have HF := Lib.hid hfit
    clear hfit HS
    rcases hout with ⟨rfl, e1⟩ | ⟨g, hg, e1, hblk⟩
    · cases e1
      have hsl := M.sl_no (xs := []) (by simp [M.ge])
      obtain ⟨k, hk⟩ : ∃ k : Nat, k = 0 := ⟨_, rfl⟩
      have hki : x1 % (0 + 1) = 0 := by omega
      go_wp2_with (fail)
      refine (scan_nil HT1.out).mono ?_
      rintro e w2 ⟨va, vs, rfl, ho, _, hb2⟩
      obtain ⟨A2, c2, rfl⟩ := own_slice ho
      have HB2 := Lib.hid (below_on HB1.out hb2)
      have HT2 := Lib.hid (HT1.out.below hb2)
      rw [hsl.1, hsl.2]
      have HL2 := Lib.hid (HL1.out.below hb2)
      clear hb2 ho HB1 HT1 HL1 hki hsl
      go_wp2
      go_loopg [10, 11, 37] 1 (fun f nn en ix wr => nn = .int .i64 0 ∧ en = .int .i64 0 ∧ ix = .int .i64 0 ∧ wr = w2)
      case atStart => exact ⟨rfl, rfl, rfl, rfl⟩
      case round =>
        obtain ⟨rfl, rfl, rfl, rfl⟩ := hrel
        go_wp2_with (fail)
        refine (awake_any HT2.out).mono ?_
        rintro e w3 ⟨rfl, hb3⟩
        have HB3 := Lib.hid (below_on HB2.out hb3)
        clear hb3
        go_wp2
        go_ret
        exact ⟨rfl, HB3.out⟩
    · cases e1
      have HK := Lib.hid hblk
      have HX := Lib.hid ((hblk.bts (o := 0) (n := (M.frms l).length) (c := (M.frms l).length) (xs := M.frms l) (by rw [List.drop_zero, List.take_of_length_le (Nat.le_refl _)]) (by simp) (Nat.le_refl _)))
      clear hblk
      obtain ⟨k, hk⟩ : ∃ k, k = x1.toNat % ((M.frms l).length + 1) := ⟨_, rfl⟩
      have hki : x1 % (((M.frms l).length : Int) + 1) = (k : Int) := by rw [hk, Int.natCast_emod, Int.toNat_of_nonneg hx0]; rfl
      have hkl : k ≤ (M.frms l).length := by have := Nat.mod_lt x1.toNat (show 0 < (M.frms l).length + 1 by omega); omega
      clear hk
      have HXK := Lib.hid (HX.out.take k hkl)
      have hsc := M.scan_cut l k HF.out hkl
      go_wp2_with (fail)
      refine (scan_any HT1.out HXK.out (by omega)).mono ?_
      rintro e w2 ⟨va, vs, rfl, ho, _, hb2⟩
      obtain ⟨A2, c2, rfl⟩ := own_slice ho
      have HB2 := Lib.hid (below_on HB1.out hb2)
      have HT2 := Lib.hid (HT1.out.below hb2)
      have HL2 := Lib.hid (HL1.out.below hb2)
      rw [hsc.1, hsc.2, hki]
      clear hb2 ho HB1 HT1 HL1 hki hsc HXK HX HK
      obtain ⟨N, hN⟩ : ∃ N, (M.ahead k l).1 = N := ⟨_, rfl⟩
      obtain ⟨E0, hE⟩ : ∃ E0, (M.ahead k l).2 = E0 := ⟨_, rfl⟩
      rw [hN, hE]
      have HN := Lib.hid (show (M.ahead (k - 0) (l.drop 0)).1 + 0 = N from hN)
      have HE := Lib.hid (show (M.ahead (k - 0) (l.drop 0)).2 + 0 = E0 from hE)
      clear hN hE
      obtain ⟨A4, c4, e4, _, hx4⟩ := HL2.out.opened
      cases e4
      have HX4 := Lib.hid hx4
      clear hx4
      go_wp2
      go_loopg [10, 11, 37] (l.length + 1) (fun f nn en ix wr => ∃ i E : Nat, i ≤ l.length ∧ l.length < i + f ∧ ix = .int .i64 i ∧ nn = .int .i64 i ∧ en = .int .i64 E ∧ E ≤ k ∧ wr = w2 ∧ Hid ((M.ahead (k - E) (l.drop i)).1 + i = N ∧ (M.ahead (k - E) (l.drop i)).2 + E = E0))
      case atStart => exact ⟨0, 0, Nat.zero_le _, by omega, rfl, rfl, rfl, Nat.zero_le _, rfl, Lib.hid ⟨HN.out, HE.out⟩⟩
      case round =>
        obtain ⟨i, E, hi, hf, rfl, rfl, rfl, hEk, rfl, HA⟩ := hrel
        by_cases hlt : i < l.length
        · obtain ⟨b, o, rfl, hb, hy⟩ := HX4.out (by omega)
          obtain ⟨P, pc, hcell, _⟩ := hy i hlt
          have hfp := HF.out (l.getD i []) (by rw [List.getD, List.getElem?_eq_getElem hlt]; exact List.getElem_mem hlt)
          obtain ⟨hfp1, hfp2⟩ := hfp
          by_cases hm : (l.getD i []).length + 8 ≤ k - E
          · obtain ⟨ha, hE'⟩ := M.ahead_step hlt HA.out hEk hm
            have HA' := Lib.hid ha
            clear ha hy HA
            generalize (l.getD i []).length = m at *
            have q1 : decide ((k : Int) < (E : Int) + (m : Int) + 8) = false := by simp; omega
            go_wp2
            go_roundg (gk - 1)
            case measure => omega
            case rel => exact ⟨i + 1, E + (m + 8), by omega, by omega, by go_num, by go_num, by go_num, hE', rfl, HA'⟩
          · obtain ⟨rfl, rfl⟩ := M.ahead_stop hlt HA.out hm
            clear hy HA
            generalize (l.getD i []).length = m at *
            have q1 : decide ((k : Int) < (E : Int) + (m : Int) + 8) = true := by simp; omega
            go_wp2_with (fail)
            refine (awake_any HT2.out).mono ?_
            rintro e w3 ⟨rfl, hb3⟩
            have HB3 := Lib.hid (below_on HB2.out hb3)
            clear hb3
            go_wp2
            go_ret
            exact ⟨rfl, HB3.out⟩
        · obtain ⟨rfl, rfl⟩ := M.ahead_end hlt HA.out
          clear HA
          go_wp2_with (fail)
          refine (awake_any HT2.out).mono ?_
          rintro e w3 ⟨rfl, hb3⟩
          have HB3 := Lib.hid (below_on HB2.out hb3)
          clear hb3
          go_wp2
          go_ret
          exact ⟨rfl, HB3.out⟩
end Go.Proofs.YtmjkcbcenpdcnaaDoor
