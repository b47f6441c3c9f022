/- The walk of FrameTurned; no conditions but that the table reads as the text lays it, and that a uint16 and a byte are such. -/
import Derived.Test.YtmjkcbcenpdcnaaDoorLawsC
namespace Go.Proofs.YtmjkcbcenpdcnaaDoor
open Go.RowKit

theorem xor8 (a b : Nat) (ha : a < 256) (hb : b < 256) : bits .xor .u8 (a : Int) (b : Int) = ((a ^^^ b : Nat) : Int) := by
  have e : bits .xor .u8 (a : Int) (b : Int) = IntKind.u8.wrap ((BitVec.ofInt 8 (a : Int) ^^^ BitVec.ofInt 8 (b : Int)).toNat : Int) := rfl
  have h : a ^^^ b < 256 := Nat.xor_lt_two_pow (n := 8) ha hb
  rw [e, wrap8, BitVec.toNat_xor, BitVec.ofInt_natCast, BitVec.ofInt_natCast, BitVec.toNat_ofNat, BitVec.toNat_ofNat, Nat.mod_eq_of_lt (by omega), Nat.mod_eq_of_lt (by omega)]
  omega
theorem Blk.set {w : World} {g k : Nat} {cs : List UInt8} (h : Blk w g cs) (y : UInt8) : Blk (w.setCell ⟨g, k, none⟩ (enc8 y)) g (cs.set k y) := by
  unfold Blk at h ⊢
  rw [heap_setCell_same w g k _ 5 _ h]
  simp [List.map_set]
theorem Blk.unfrozen {w : World} {g : Nat} {cs : List UInt8} (h : Blk w g cs) (k : Nat) : w.frozen? ⟨g, k, none⟩ = false := frozen_of_row w g k _ 5 h

set_option maxHeartbeats 4000000 in
set_option maxRecDepth 100000 in
theorem turned_law {w : World} {v : Value} {l : List (List UInt8)} (x1 x2 : Int) (hT : Tab w) (h : Lots w v l) (hx : 0 ≤ x1 ∧ x1 ≤ 65535) (hy : 0 ≤ x2 ∧ x2 ≤ 255) : Calls Tryd.prog 7 #[v, .int .u16 x1, .int .u8 x2] w (Yes w) := by
  have HT := Lib.hid hT
  have HL := Lib.hid h
  obtain ⟨A, c, rfl, hc, _⟩ := h.opened
  obtain ⟨hx0, hx1⟩ := hx
  obtain ⟨hy0, hy1⟩ := hy
  obtain ⟨y, rfl⟩ : ∃ y : Nat, x2 = (y : Int) := ⟨x2.toNat, by omega⟩
  clear h hT
  go_enter Tryd.func7, Tryd.ntmps7
  go_wp2_with (fail)
  refine (row_any HT.out HL.out).mono ?_
  rintro e w1 ⟨v, B, rfl, hb, ⟨A1, n1, c1, rfl⟩, hB⟩
  have HB1 := Lib.hid hb
  have HT1 := Lib.hid (HT.out.below hb)
  have HL1 := Lib.hid (HL.out.below hb)
  have HS := Lib.hid hB
  clear hb hB HT HL
  have ends : ∀ (w2 : World), Below w.heap.size w w2 → Tab w2 → Calls Tryd.prog 9 #[] w2 fun e w' => e = .returned (.bool true) ∧ Below w.heap.size w w' := fun w2 hb ht => (awake_any ht).mono fun _ _ h => ⟨h.1, below_on hb h.2⟩
  have EN := Lib.hid ends
  clear ends
  cases B with
  | false =>
    go_wp2_with (fail)
    refine (EN.out w1 HB1.out HT1.out).mono ?_
    rintro e w2 ⟨rfl, hb⟩
    have HB2 := Lib.hid hb
    clear hb
    go_wp2
    go_ret
    exact ⟨rfl, HB2.out⟩
  | true =>
    obtain ⟨h20, hfit, hlen, hout⟩ := HS.out rfl
    have HF := Lib.hid hfit
    clear hfit HS
    have HW := Lib.hid hout.bts
    have hn1 := HW.out.len.1
    by_cases hL : (M.frms l).length = 0
    · have q1 : n1 = 0 := by omega
      subst q1
      clear hL hn1 hout
      go_wp2_with (fail)
      refine (EN.out w1 HB1.out HT1.out).mono ?_
      rintro e w2 ⟨rfl, hb⟩
      have HB2 := Lib.hid hb
      clear hb
      go_wp2
      go_ret
      exact ⟨rfl, HB2.out⟩
    · have hn0 : 0 < n1 := by omega
      have q0 : ((n1 : Int) == 0) = false := by rw [beq_eq_false_iff_ne]; omega
      have HLN := Lib.hid hn1
      have hn2 : n1 ≤ 4500 := by omega
      clear hL hn1 hout hlen
      by_cases hy2 : y = 0
      · subst hy2
        go_wp2_with (fail)
        refine (EN.out w1 HB1.out HT1.out).mono ?_
        rintro e w2 ⟨rfl, hb⟩
        have HB2 := Lib.hid hb
        clear hb
        go_wp2
        go_ret
        exact ⟨rfl, HB2.out⟩
      · have q2 : ((y : Int) == 0) = false := by rw [beq_eq_false_iff_ne]; omega
        have q3 : (y == 0) = false := by rw [beq_eq_false_iff_ne]; exact hy2
        have HY2 := Lib.hid hy2
        clear hy2
        obtain ⟨k, hk⟩ : ∃ k, k = x1.toNat % n1 := ⟨_, rfl⟩
        have hki : x1 % (n1 : Int) = (k : Int) := by rw [hk, Int.natCast_emod, Int.toNat_of_nonneg hx0]
        have hkl : k < n1 := by rw [hk]; exact Nat.mod_lt _ hn0
        clear hk
        go_wp2_with (fail)
        refine (own_any HW.out (by rw [HLN.out]; omega)).mono ?_
        rintro e wa ⟨rfl, hblk, hb⟩
        rw [hki, HLN.out]
        obtain ⟨x, hxk⟩ : ∃ x, x = ((M.frms l).getD k 0).toNat := ⟨_, rfl⟩
        have hcell : wa.cell? ⟨w1.heap.size, k, none⟩ = some (.int .u8 (x : Int)) := by
          rw [hxk]
          refine hblk.cell ?_
          have hl := HLN.out
          rw [List.getElem?_append_left (by omega), List.getD, List.getElem?_eq_getElem (by omega)]; rfl
        have hfz := hblk.unfrozen k
        have hxb : x < 256 := by rw [hxk]; exact M.byte_lt _
        have e8 := xor8 x y hxb (by omega)
        have hzb : x ^^^ y < 256 := Nat.xor_lt_two_pow (n := 8) hxb (by omega)
        have hne : x ^^^ y ≠ x := fun e => HY2.out (M.xor_cancel' (c := x) (by rw [e, Nat.xor_zero]))
        generalize x ^^^ y = z at *
        have hzn : (UInt8.ofNat z).toNat = z := by simp; omega
        have hsc := M.scan_turned l k (UInt8.ofNat z) HF.out (by rw [HLN.out]; exact hkl) (by rw [hzn, ← hxk]; exact hne)
        have hbk := hblk.set (k := k) (UInt8.ofNat z)
        have hev : enc8 (UInt8.ofNat z) = .int .u8 (z : Int) := by unfold enc8; rw [hzn]
        rw [hev] at hbk
        have HX := Lib.hid (hbk.bts (o := 0) (n := n1) (c := n1 + 16) (xs := (M.frms l).set k (UInt8.ofNat z)) (by rw [List.drop_zero, List.set_append_left _ _ (by rw [HLN.out]; exact hkl), List.take_left' (by simp; exact HLN.out)]) (by have := HLN.out; simp; omega) (by omega))
        have hbb : Below w1.heap.size w1 (wa.setCell ⟨w1.heap.size, k, none⟩ (.int .u8 (z : Int))) := hb.setCell (Nat.le_refl _) _
        have HB3 := Lib.hid (below_on HB1.out hbb)
        have HT3 := Lib.hid (HT1.out.below hbb)
        have HL3 := Lib.hid (HL1.out.below hbb)
        have HSC := Lib.hid hsc
        have hki' : (k : Int) < (n1 : Int) := by omega
        clear hblk hb hxk hne hzn hsc hbk hev hbb HB1 HT1 HL1 HY2 hki HW EN
        go_wp2_with (fail)
        refine (scan_any HT3.out HX.out (by omega)).mono ?_
        rintro e w2 ⟨va, vs, rfl, ho, _, hb2⟩
        obtain ⟨A2, c2, rfl⟩ := own_slice ho
        have HB2 := Lib.hid (below_on HB3.out hb2)
        have HT2 := Lib.hid (HT3.out.below hb2)
        have HL2 := Lib.hid (HL3.out.below hb2)
        rw [HSC.out.1, HSC.out.2]
        clear hb2 ho HB3 HT3 HL3 HX HSC hcell hfz e8
        obtain ⟨N, hN⟩ : ∃ N, (M.ahead k l).1 = N := ⟨_, rfl⟩
        obtain ⟨E0, hE⟩ : ∃ E0, (M.ahead k l).2 = E0 := ⟨_, rfl⟩
        rw [hN, hE]
        have HN := Lib.hid (show (M.ahead (k - 0) (l.drop 0)).1 + 0 = N from hN)
        have HE := Lib.hid (show (M.ahead (k - 0) (l.drop 0)).2 + 0 = E0 from hE)
        clear hN hE
        obtain ⟨A4, c4, e4, _, hx4⟩ := HL2.out.opened
        cases e4
        have HX4 := Lib.hid hx4
        clear hx4
        go_wp2
        go_loopg [12, 13, 54] (l.length + 1) (fun f nn en ix wr => ∃ i E : Nat, i ≤ l.length ∧ l.length < i + f ∧ ix = .int .i64 i ∧ nn = .int .i64 i ∧ en = .int .i64 E ∧ E ≤ k ∧ wr = w2 ∧ Hid ((M.ahead (k - E) (l.drop i)).1 + i = N ∧ (M.ahead (k - E) (l.drop i)).2 + E = E0))
        case atStart => exact ⟨0, 0, Nat.zero_le _, by omega, rfl, rfl, rfl, Nat.zero_le _, rfl, Lib.hid ⟨HN.out, HE.out⟩⟩
        case round =>
          obtain ⟨i, E, hi, hf, rfl, rfl, rfl, hEk, rfl, HA⟩ := hrel
          by_cases hlt : i < l.length
          · obtain ⟨b, o, rfl, hb, hy⟩ := HX4.out (by omega)
            obtain ⟨P, pc, hcell, _⟩ := hy i hlt
            have hfp := HF.out (l.getD i []) (by rw [List.getD, List.getElem?_eq_getElem hlt]; exact List.getElem_mem hlt)
            obtain ⟨hfp1, hfp2⟩ := hfp
            by_cases hm : (l.getD i []).length + 8 ≤ k - E
            · obtain ⟨ha, hE'⟩ := M.ahead_step hlt HA.out hEk hm
              have HA' := Lib.hid ha
              clear ha hy HA
              generalize (l.getD i []).length = m at *
              have q1 : decide ((k : Int) < (E : Int) + (m : Int) + 8) = false := by simp; omega
              go_wp2
              go_roundg (gk - 1)
              case measure => omega
              case rel => exact ⟨i + 1, E + (m + 8), by omega, by omega, by go_num, by go_num, by go_num, hE', rfl, HA'⟩
            · obtain ⟨rfl, rfl⟩ := M.ahead_stop hlt HA.out hm
              clear hy HA
              generalize (l.getD i []).length = m at *
              have q1 : decide ((k : Int) < (E : Int) + (m : Int) + 8) = true := by simp; omega
              go_wp2_with (fail)
              refine (awake_any HT2.out).mono ?_
              rintro e w3 ⟨rfl, hb3⟩
              have HB3 := Lib.hid (below_on HB2.out hb3)
              clear hb3
              go_wp2
              go_ret
              exact ⟨rfl, HB3.out⟩
          · obtain ⟨rfl, rfl⟩ := M.ahead_end hlt HA.out
            clear HA
            go_wp2_with (fail)
            refine (awake_any HT2.out).mono ?_
            rintro e w3 ⟨rfl, hb3⟩
            have HB3 := Lib.hid (below_on HB2.out hb3)
            clear hb3
            go_wp2
            go_ret
            exact ⟨rfl, HB3.out⟩
end Go.Proofs.YtmjkcbcenpdcnaaDoor
