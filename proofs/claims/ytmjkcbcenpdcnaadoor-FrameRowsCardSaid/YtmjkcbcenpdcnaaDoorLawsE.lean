/- The walk of FrameRows; no conditions but that the table reads as the text lays it. -/
import Derived.Test.YtmjkcbcenpdcnaaDoorLaws
import Derived.Test.YtmjkcbcenpdcnaaDoorAfter
namespace Go.Proofs.YtmjkcbcenpdcnaaDoor
open Go.RowKit

theorem getD_front {l m : List (List UInt8)} {i : Nat} (h : i < l.length) : (l ++ m).getD i [] = l.getD i [] := by
  rw [List.getD, List.getD, List.getElem?_append_left h]

/-- The first ones of a slice of slices of bytes. -/
def Front (w : World) (A : Option Addr) (l : List (List UInt8)) : Prop := 0 < l.length → ∃ b o, A = some ⟨b, o, none⟩ ∧ b < w.heap.size ∧ ∀ k, k < l.length → ∃ P pc, w.cell? ⟨b, o + k, none⟩ = some (.slice P (l.getD k []).length pc) ∧ Bts w (.slice P (l.getD k []).length pc) (l.getD k [])
theorem Lots.front {w : World} {A : Option Addr} {n c : Nat} {l m : List (List UInt8)} (h : Lots w (.slice A n c) (l ++ m)) : Front w A l := by
  intro h0
  obtain ⟨A', c', e, _, hx⟩ := h.opened
  cases e
  obtain ⟨b, o, e1, hb, hy⟩ := hx (by simp; omega)
  refine ⟨b, o, e1, hb, fun k hk => ?_⟩
  have := hy k (by simp; omega)
  rw [getD_front hk] at this
  exact this
theorem Front.below {w w' : World} {A : Option Addr} {l : List (List UInt8)} (h : Front w A l) (hb : Below w.heap.size w w') : Front w' A l := by
  intro h0
  obtain ⟨b, o, e, hlt, hy⟩ := h h0
  refine ⟨b, o, e, Nat.lt_of_lt_of_le hlt hb.size, fun k hk => ?_⟩
  obtain ⟨P, pc, h1, h2⟩ := hy k hk
  exact ⟨P, pc, (hb.cell (p := ⟨b, o + k, none⟩) hlt).trans h1, h2.below hb⟩

set_option maxHeartbeats 4000000 in
set_option maxRecDepth 100000 in
theorem rows_law {w : World} {v u : Value} {l : List (List UInt8)} {xs : List UInt8} (hT : Tab w) (h : Lots w v l) (h' : Bts w u xs) : Calls Tryd.prog 6 #[v, u] w (Yes w) := by
  have HT := Lib.hid hT
  have HL := Lib.hid h
  have HX := Lib.hid h'
  obtain ⟨A, c, rfl, hc, _⟩ := h.opened
  obtain ⟨A', c', rfl, hc', _⟩ := h'.opened
  clear h h' hT
  have EN := Lib.hid (show ∀ (w2 : World), Below w.heap.size w w2 → Tab w2 → Calls Tryd.prog 9 #[] w2 fun e w' => e = .returned (.bool true) ∧ Below w.heap.size w w' from fun w2 hb ht => (awake_any ht).mono fun _ _ h => ⟨h.1, below_on hb h.2⟩)
  go_enter Tryd.func6, Tryd.ntmps6
  go_wp2_with (fail)
  refine (row_any HT.out HL.out).mono ?_
  rintro e w1 ⟨v, B, rfl, hb, ⟨A1, n1, c1, rfl⟩, hB⟩
  have HB1 := Lib.hid hb
  have HT1 := Lib.hid (HT.out.below hb)
  have HL1 := Lib.hid (HL.out.below hb)
  have HX1 := Lib.hid (HX.out.below hb)
  have HS := Lib.hid hB
  clear hb hB HT HL
  cases B with
  | false =>
    go_wp2_with (fail)
    refine (EN.out w1 HB1.out HT1.out).mono ?_
    rintro e w2 ⟨rfl, hb⟩
    have HB2 := Lib.hid hb
    clear hb
    go_wp2
    go_ret
    exact ⟨rfl, HB2.out⟩
  | true =>
    by_cases hbl : xs.length ≤ 4500
    · obtain ⟨h20, hfit, hlen, hout⟩ := HS.out rfl
      have hr0 := M.scan_row l [] hfit
      have hr1 := M.scan_row l xs hfit
      have hs0 := M.sl_no (xs := []) (by simp [M.ge])
      have hsl := M.st_le xs.length xs (Nat.le_refl _)
      rw [List.append_nil, hs0.1, hs0.2, List.append_nil, Nat.add_zero] at hr0
      have HR0 := Lib.hid hr0
      have HR1 := Lib.hid hr1
      have hw := hout.bts
      have hn1 := hw.len.1
      have HW1 := Lib.hid hw
      have HOut := Lib.hid hout
      have HN1 := Lib.hid hn1
      have hn2 : n1 ≤ 4500 := by omega
      clear hout hr0 hr1 hs0 hw hn1 HS
      go_wp2_with (fail)
      refine (scan_out HT1.out HOut.out (by omega)).mono ?_
      rintro e w2 ⟨va, vs, rfl, ho, hp, hb⟩
      have HA2 := Lib.hid (show Lots w2 va l by have := Scanned.lots ho hp; rw [HR0.out.1] at this; exact this)
      obtain ⟨Aa, ca, rfl⟩ := own_slice ho
      rw [HR0.out.1, HR0.out.2]
      have HB2 := Lib.hid (below_on HB1.out hb)
      have HT2 := Lib.hid (HT1.out.below hb)
      have HL2 := Lib.hid (HL1.out.below hb)
      have HX2 := Lib.hid (HX1.out.below hb)
      have HW2 := Lib.hid (HW1.out.below hb)
      clear ho hp hb HB1 HT1 HL1 HX1 HW1 HOut HR0
      go_wp2_with (fail)
      refine (own_any HW2.out (by omega)).mono ?_
      rintro e w3 ⟨rfl, hk, hb⟩
      obtain ⟨vp, w4, hr, ho, hg⟩ := append_own hk (Nat.le_refl _) (HX2.out.below hb) (by omega)
      have hb4 := hb.grown hg hb.size (fun k e => by cases e; exact Nat.le_refl _)
      have HB4 := Lib.hid (below_on HB2.out hb4)
      have HT4 := Lib.hid (HT2.out.below hb4)
      have HL4 := Lib.hid (HL2.out.below hb4)
      have HX4 := Lib.hid (HX2.out.below hb4)
      have HA4 := Lib.hid (HA2.out.below hb4)
      have HO4 := Lib.hid ho
      clear hk ho hg hb hb4 HB2 HT2 HL2 HX2 HA2 HW2
      rw [HN1.out] at hr ⊢
      go_wp2_with (at_builtin; refine Lib.wpList_append_run _ rfl _ _ _ _ rfl _ _ rfl rfl _ _ hr ?_)
      refine (scan_own HT4.out HO4.out (by have := HN1.out; simp; omega)).mono ?_
      rintro e w5 ⟨vm, vs2, rfl, ho2, hp2, hb5⟩
      have HM5 := Lib.hid (show Lots w5 vm (l ++ M.sl xs) by have := Scanned.lots ho2 hp2; rw [HR1.out.1] at this; exact this)
      obtain ⟨Am, cm, rfl⟩ := own_slice ho2
      rw [HR1.out.1, HR1.out.2, HN1.out, List.length_append]
      rw [HR1.out.1, List.length_append] at HM5
      have HB5 := Lib.hid (below_on HB4.out hb5)
      have HT5 := Lib.hid (HT4.out.below hb5)
      have HL5 := Lib.hid (HL4.out.below hb5)
      have HX5 := Lib.hid (HX4.out.below hb5)
      have HA5 := Lib.hid (HA4.out.below hb5)
      clear ho2 hp2 hb5 HB4 HT4 HL4 HX4 HA4 HO4 HR1 hr
      go_wp2_with (fail)
      refine (dscan_any HX5.out (by omega)).mono ?_
      rintro e w6 ⟨vr, vs3, rfl, ho3, _, hb6⟩
      obtain ⟨Ar, cr, rfl⟩ := own_slice ho3
      have HB6 := Lib.hid (below_on HB5.out hb6)
      have HT6 := Lib.hid (HT5.out.below hb6)
      have HL6 := Lib.hid (show Front w6 A l from Lots.front (m := []) (by rw [List.append_nil]; exact HL5.out.below hb6))
      have HA6 := Lib.hid (show Front w6 Aa l from Lots.front (m := []) (by rw [List.append_nil]; exact HA5.out.below hb6))
      have HM6 := Lib.hid (show Front w6 Am l from Lots.front (HM5.out.below hb6))
      have HFit := Lib.hid hfit
      clear ho3 hb6 HB5 HT5 HL5 HX5 HA5 HM5 hfit
      generalize (M.sl xs).length = r at *
      generalize M.st xs = s at *
      go_wp2
      go_loopw [76] (fun ix wr => ∃ i : Nat, i ≤ l.length ∧ ix = .int .i64 i ∧ Below w6.heap.size w6 wr) (fun ix _ => l.length - (intOf ix).toNat)
      case atStart => exact ⟨0, Nat.zero_le _, rfl, Below.refl _ _⟩
      case round =>
        obtain ⟨i, hi, rfl, hbw⟩ := hrel
        have HB7 := Lib.hid (below_on HB6.out hbw)
        have HT7 := Lib.hid (HT6.out.below hbw)
        by_cases hlt : i < l.length
        · obtain ⟨b1, o1, rfl, hb1, hy1⟩ := HL6.out.below hbw (by omega)
          obtain ⟨b2, o2, rfl, hb2, hy2⟩ := HA6.out.below hbw (by omega)
          obtain ⟨b3, o3, rfl, hb3, hy3⟩ := HM6.out.below hbw (by omega)
          obtain ⟨P1, p1, hc1, ht1⟩ := hy1 i hlt
          obtain ⟨P2, p2, hc2, ht2⟩ := hy2 i hlt
          obtain ⟨P3, p3, hc3, ht3⟩ := hy3 i hlt
          have hfp := (HFit.out (l.getD i []) (by rw [List.getD, List.getElem?_eq_getElem hlt]; exact List.getElem_mem hlt)).2
          have K := Lib.hid (show ∀ (x : After wr) (v : Value), (v = .slice P2 (l.getD i []).length p2 ∨ v = .slice P3 (l.getD i []).length p3) → Calls Tryd.prog 13 #[v, .slice P1 (l.getD i []).length p1] x.out fun e w' => e = .returned (.bool true) ∧ Below x.out.heap.size x.out w' from fun x v hv => by
            have h2 : Bts wr v (l.getD i []) := by rcases hv with rfl | rfl <;> assumption
            have h := same_any (h2.below x.below) (ht1.below x.below) (by omega)
            rw [M.sameB_refl] at h
            exact h)
          have HBW := Lib.hid hbw
          clear hy1 hy2 hy3 ht1 ht2 ht3 hbw
          generalize (l.getD i []).length = m at *
          have hi1 : (i : Int) < (l.length : Int) := by omega
          have hi2 : (i : Int) < (l.length : Int) + (r : Int) := by omega
          have hi3 : i < l.length + r := by omega
          go_wp2
          refine wp_region_after (by kernel_rfl) (by kernel_rfl) ?_
          have hx := @After.cell wr
          repeat (go_big_quiet_step ((go_at_call 13; exact Calls.after_of (K.out _ _ (by first | exact .inl rfl | exact .inr rfl)))))
          refine wpQuiet_nil ?_
          rintro _ ⟨⟨w7, hb7⟩, rfl⟩
          have HB8 := Lib.hid (below_on HBW.out hb7)
          clear hx hb7
          go_wp2
          go_roundw
          case rel => exact ⟨i + 1, by omega, by go_num, HB8.out⟩
          case measure => simp [intOf]; omega
        · go_wp2_with (fail)
          refine (EN.out wr HB7.out HT7.out).mono ?_
          rintro e w7 ⟨rfl, hb⟩
          have HB8 := Lib.hid hb
          clear hb
          go_wp2
          go_ret
          exact ⟨rfl, HB8.out⟩
    · clear HS
      go_wp2_with (fail)
      refine (EN.out w1 HB1.out HT1.out).mono ?_
      rintro e w2 ⟨rfl, hb⟩
      have HB2 := Lib.hid hb
      clear hb
      go_wp2
      go_ret
      exact ⟨rfl, HB2.out⟩
end Go.Proofs.YtmjkcbcenpdcnaaDoor
