/- The walk of DiskSafe; no conditions. -/
import Derived.Test.YtpdknamdladgnaaLawP
namespace Go.Proofs.Ytpdknamdladgnaa
open Go.RowKit

namespace M
theorem safe_step {s : St} (d : Do) (h : Ok s) : (step s d).k ≤ (step s d).bs.length ∧ ((d.verb = 1 ∨ d.verb = 4) → (step s d).k = (step s d).bs.length) ∧ (s.k < (step s d).k → d.verb = 1 ∨ d.verb = 3 ∨ d.verb = 4) ∧ ((step s d).k < s.k → d.verb = 2 ∨ d.verb = 3) := by
  have ho := (h.step d).2.2
  have h3 := h.2.2
  refine ⟨ho, ?_, ?_, ?_⟩
  · rintro (hv | hv)
    · rw [step_syn hv]; rfl
    · rw [step_crash hv]; exact (fell_len h).symm
  · intro hlt
    by_cases h0 : d.verb = 0
    · rw [step_app h0] at hlt; unfold app at hlt; split at hlt <;> simp at hlt
    · by_cases h1 : d.verb = 1
      · exact .inl h1
      · by_cases h2 : d.verb = 2
        · rw [step_cut h2] at hlt; unfold cut at hlt; split at hlt <;> simp at hlt; omega
        · by_cases h3 : d.verb = 3
          · exact .inr (.inl h3)
          · by_cases h4 : d.verb = 4
            · exact .inr (.inr h4)
            · rw [step_none h0 h1 h2 h3 h4] at hlt; omega
  · intro hlt
    by_cases h0 : d.verb = 0
    · rw [step_app h0] at hlt; unfold app at hlt; split at hlt <;> simp at hlt
    · by_cases h1 : d.verb = 1
      · rw [step_syn h1] at hlt; simp [syn] at hlt; omega
      · by_cases h2 : d.verb = 2
        · exact .inl h2
        · by_cases h3 : d.verb = 3
          · exact .inr h3
          · by_cases h4 : d.verb = 4
            · rw [step_crash h4] at hlt; simp [crash] at hlt; omega
            · rw [step_none h0 h1 h2 h3 h4] at hlt; omega
end M

theorem safe_cases {sk kk nn : Nat} {kv : Int} (h : kk ≤ nn ∧ (kv = 1 ∨ kv = 4 → kk = nn) ∧ (sk < kk → kv = 1 ∨ kv = 3 ∨ kv = 4) ∧ (kk < sk → kv = 2 ∨ kv = 3)) :
    (kv = 1 ∧ kk = nn ∧ sk < kk) ∨ (kv = 3 ∧ sk < kk) ∨ (kv = 4 ∧ kk = nn ∧ sk < kk) ∨ (kv = 1 ∧ kk = nn ∧ kk = sk) ∨ (kv = 4 ∧ kk = nn ∧ kk = sk) ∨ (kk = sk ∧ kv ≠ 1 ∧ kv ≠ 4) ∨ (kv = 2 ∧ kk < sk) ∨ (kv = 3 ∧ kk < sk) := by
  omega
theorem bytes_len {w : World} {g n : Nat} {F : Nat → Prop} {s : M.St} (h : Disk w g F s) (hn : s.bs.length = n) : Calls Try.prog 16 #[.pointer (some ⟨g, 0, none⟩)] w fun e w' => ∃ b, e = .returned (.slice (some ⟨b, 0, none⟩) n n) ∧ Below w.heap.size w w' := by
  subst hn
  exact (bytes_any h).mono fun _ _ hh => ⟨_, hh.1, hh.2.2⟩
theorem safe_n {w : World} {g n : Nat} {F : Nat → Prop} {s : M.St} (h : Disk w g F s) (hn : s.k = n) : Calls Try.prog 17 #[.pointer (some ⟨g, 0, none⟩)] w fun e w' => e = .returned (.int .i64 n) ∧ w = w' := by
  subst hn
  exact safe_any h

set_option maxHeartbeats 4000000 in
set_option maxRecDepth 100000 in
theorem safe_law (n : Int) {w : World} {v : Value} {l : List M.Do} (h : Dos w v l) : Calls Try.prog 8 #[.int .i64 n, v] w (Yes w) := by
  have HDos := Lib.hid h
  obtain ⟨A, c, rfl, hc, hm, hx⟩ := h
  unfold maxLen at hm
  have HX := Lib.hid hx
  clear hx
  by_cases hn : 0 ≤ n ∧ n ≤ 1048576
  · obtain ⟨z, rfl⟩ : ∃ z : Nat, n = z := ⟨n.toNat, by omega⟩
    have hz : z ≤ 1048576 := by omega
    clear hn
    cases hfew : M.few l with
    | false =>
      have FW := Lib.hid hfew
      clear hfew
      go_enter Try.func8, Try.ntmps8
      go_wp2_with (fail)
      refine (new_any z w hz).mono ?_
      rintro e w1 ⟨rfl, hd, hb⟩
      have B1 := Lib.hid hb
      clear hd hb
      go_wp2_with (fail)
      refine (few_any (HDos.out.below B1.out)).mono ?_
      rintro e w2 ⟨rfl, hb⟩
      rw [FW.out]
      have B2 := Lib.hid (below_on B1.out hb)
      clear hb
      go_wp2_with (fail)
      refine (awake_on B2.out).mono ?_
      rintro e w2 ⟨rfl, hb⟩
      go_wp2
      go_ret
      exact ⟨rfl, hb⟩
    | true =>
      have FW := Lib.hid hfew
      clear hfew
      go_enter Try.func8, Try.ntmps8
      go_wp2_with (fail)
      refine (new_any z w hz).mono ?_
      rintro e w1 ⟨rfl, hd, hb⟩
      have L1 := Lib.hid (Live.new hd hb)
      clear hd hb
      go_wp2_with (fail)
      refine (few_any (HDos.out.below L1.out.below)).mono ?_
      rintro e w2 ⟨rfl, hb⟩
      rw [FW.out]
      have L2 := Lib.hid (L1.out.on hb)
      clear hb L1
      go_wp2
      go_loopw [21] (fun i wr => ∃ (k : Nat) (F : Nat → Prop) (s : M.St), k ≤ l.length ∧ i = .int .i64 k ∧ Hid (Live w wr w.heap.size F s)) (fun i _ => l.length - (intOf i).toNat)
      case atStart => exact ⟨0, _, _, Nat.zero_le _, rfl, L2⟩
      case round =>
        obtain ⟨k, F, s, hk, rfl, LR⟩ := hrel
        clear L2
        by_cases hlt : k < l.length
        · obtain ⟨b, o, rfl, hb, hy⟩ := HX.out (by omega)
          obtain ⟨sv, hd⟩ := hy k hlt
          have hd2 := hd.below hb LR.out.below
          have hbl := Nat.lt_of_lt_of_le hb LR.out.below.size
          have hfl := few_at FW.out hlt
          clear hy hd
          generalize l.getD k do0 = d at *
          obtain ⟨c0, c1', c2', c3, c4, hbt⟩ := hd2
          obtain ⟨A5, c5, rfl, -, -⟩ := hbt.opened
          have hk1 : (k : Int) < (l.length : Int) := by omega
          have nb := below_new (o := .cells #[.int .i64 d.verb, .int .i64 d.n, .int .i64 d.pos, .int .u8 (d.mask.toNat : Int), .slice A5 d.b.length c5] 33) (Below.refl wr.heap.size wr)
          have LD := Lib.hid (LR.out.on nb)
          have DB := Lib.hid (DBox.new wr d.verb d.n d.pos d.mask (.slice A5 d.b.length c5))
          have DD := Lib.hid (does_any d LD.out.disk (Doc.nil _ 0 (by omega)) (fun _ _ e => e) (hbt.below nb) (by omega))
          have SS := Lib.hid (M.safe_step d LR.out.disk.ok)
          have PD := Lib.hid (show Pair w (wr.alloc (.cells #[.int .i64 d.verb, .int .i64 d.n, .int .i64 d.pos, .int .u8 (d.mask.toNat : Int), .slice A5 d.b.length c5] 33)) w.heap.size F s (fun _ => False) (.agg #[.slice none 0 0, .slice none 0 0, .int .i64 0]) (M.nil 0) from ⟨LD.out, Doc.nil _ 0 (by omega), fun _ _ e => e, fun _ e => e.elim⟩)
          clear hbt nb
          obtain ⟨sk, hsk⟩ : ∃ sk, s.k = sk := ⟨_, rfl⟩
          have HSK := Lib.hid hsk
          clear hsk
          go_wp2_with (fail)
          refine (safe_n LD.out.disk HSK.out).mono ?_
          rintro e w2 ⟨rfl, rfl⟩
          go_wp2_with (fail)
          refine DD.out.mono ?_
          intro e w2 hD
          obtain ⟨q, F', R', rfl, hP, hkk, hF, hR⟩ := PD.out.does d hD
          have hE := DB.out.keeps hkk (fun e => by have := LR.out.disk.lt _ e; omega)
          obtain ⟨k0, k1, k2, k3, k4⟩ := hE.at_
          have lw := hE.lt
          have L3 := Lib.hid hP.live
          rw [show (M.step s d) = M.step s d from rfl] at L3
          generalize M.alike s (M.nil 0) d = AL at *
          obtain ⟨s', hs'⟩ : ∃ s', s' = M.step s d := ⟨_, rfl⟩
          rw [← hs'] at L3 SS
          obtain ⟨kk, hkk'⟩ : ∃ kk, s'.k = kk := ⟨_, rfl⟩
          obtain ⟨nn, hnn⟩ : ∃ nn, s'.bs.length = nn := ⟨_, rfl⟩
          have HKK := Lib.hid hkk'
          have HNN := Lib.hid hnn
          have hss := SS.out
          rw [HSK.out, HKK.out, HNN.out] at hss
          clear hs' hkk' hnn hP hkk hF hR hD hE DD PD LD DB SS HSK
          generalize d.verb = kv at *
          have hle : (kk : Int) ≤ (nn : Int) := by omega
          rcases safe_cases hss with ⟨rfl, rfl, hlt2⟩ | ⟨rfl, hlt2⟩ | ⟨rfl, rfl, hlt2⟩ | ⟨rfl, rfl, rfl⟩ | ⟨rfl, rfl, rfl⟩ | ⟨rfl, hv1, hv4⟩ | ⟨rfl, hlt2⟩ | ⟨rfl, hlt2⟩
          · clear hss
            have hlt3 : (sk : Int) < (kk : Int) := by omega
            go_wp2_with (fail)
            refine (safe_n L3.out.disk HKK.out).mono ?_
            rintro e w3 ⟨rfl, rfl⟩
            go_wp2_with (fail)
            refine (bytes_len L3.out.disk HNN.out).mono ?_
            rintro e w3 ⟨b3, rfl, hb3⟩
            have L4 := Lib.hid (L3.out.on hb3)
            have kc := (hb3.cell (p := ⟨wr.heap.size, 0, none⟩) lw).trans k0
            have lw3 := Nat.lt_of_lt_of_le lw hb3.size
            clear hb3
            go_wp2_with (fail)
            refine (safe_n L4.out.disk HKK.out).mono ?_
            rintro e w4 ⟨rfl, rfl⟩
            go_wp2_with (fail)
            refine (safe_n L4.out.disk HKK.out).mono ?_
            rintro e w4 ⟨rfl, rfl⟩
            go_wp2_with (fail)
            refine (safe_n L4.out.disk HKK.out).mono ?_
            rintro e w4 ⟨rfl, rfl⟩
            go_wp2_with (fail)
            refine (bytes_len L4.out.disk HNN.out).mono ?_
            rintro e w4 ⟨b4, rfl, hb4⟩
            have L5 := Lib.hid (L4.out.on hb4)
            clear hb4
            go_wp2
            go_roundw
            case rel => exact ⟨k + 1, F', s', by omega, by go_num, L5⟩
            case measure => simp [intOf]; omega
          · clear hss
            have hlt3 : (sk : Int) < (kk : Int) := by omega
            go_wp2_with (fail)
            refine (safe_n L3.out.disk HKK.out).mono ?_
            rintro e w3 ⟨rfl, rfl⟩
            go_wp2_with (fail)
            refine (bytes_len L3.out.disk HNN.out).mono ?_
            rintro e w3 ⟨b3, rfl, hb3⟩
            have L4 := Lib.hid (L3.out.on hb3)
            have kc := (hb3.cell (p := ⟨wr.heap.size, 0, none⟩) lw).trans k0
            have lw3 := Nat.lt_of_lt_of_le lw hb3.size
            clear hb3
            go_wp2_with (fail)
            refine (safe_n L4.out.disk HKK.out).mono ?_
            rintro e w4 ⟨rfl, rfl⟩
            go_wp2_with (fail)
            refine (safe_n L4.out.disk HKK.out).mono ?_
            rintro e w4 ⟨rfl, rfl⟩
            go_wp2
            go_roundw
            case rel => exact ⟨k + 1, F', s', by omega, by go_num, L4⟩
            case measure => simp [intOf]; omega
          · clear hss
            have hlt3 : (sk : Int) < (kk : Int) := by omega
            go_wp2_with (fail)
            refine (safe_n L3.out.disk HKK.out).mono ?_
            rintro e w3 ⟨rfl, rfl⟩
            go_wp2_with (fail)
            refine (bytes_len L3.out.disk HNN.out).mono ?_
            rintro e w3 ⟨b3, rfl, hb3⟩
            have L4 := Lib.hid (L3.out.on hb3)
            have kc := (hb3.cell (p := ⟨wr.heap.size, 0, none⟩) lw).trans k0
            have lw3 := Nat.lt_of_lt_of_le lw hb3.size
            clear hb3
            go_wp2_with (fail)
            refine (safe_n L4.out.disk HKK.out).mono ?_
            rintro e w4 ⟨rfl, rfl⟩
            go_wp2_with (fail)
            refine (safe_n L4.out.disk HKK.out).mono ?_
            rintro e w4 ⟨rfl, rfl⟩
            go_wp2_with (fail)
            refine (safe_n L4.out.disk HKK.out).mono ?_
            rintro e w4 ⟨rfl, rfl⟩
            go_wp2_with (fail)
            refine (bytes_len L4.out.disk HNN.out).mono ?_
            rintro e w4 ⟨b4, rfl, hb4⟩
            have L5 := Lib.hid (L4.out.on hb4)
            clear hb4
            go_wp2
            go_roundw
            case rel => exact ⟨k + 1, F', s', by omega, by go_num, L5⟩
            case measure => simp [intOf]; omega
          · clear hss
            go_wp2_with (fail)
            refine (safe_n L3.out.disk HKK.out).mono ?_
            rintro e w3 ⟨rfl, rfl⟩
            go_wp2_with (fail)
            refine (bytes_len L3.out.disk HNN.out).mono ?_
            rintro e w3 ⟨b3, rfl, hb3⟩
            have L4 := Lib.hid (L3.out.on hb3)
            have kc := (hb3.cell (p := ⟨wr.heap.size, 0, none⟩) lw).trans k0
            have lw3 := Nat.lt_of_lt_of_le lw hb3.size
            clear hb3
            go_wp2_with (fail)
            refine (safe_n L4.out.disk HKK.out).mono ?_
            rintro e w4 ⟨rfl, rfl⟩
            go_wp2_with (fail)
            refine (safe_n L4.out.disk HKK.out).mono ?_
            rintro e w4 ⟨rfl, rfl⟩
            go_wp2_with (fail)
            refine (safe_n L4.out.disk HKK.out).mono ?_
            rintro e w4 ⟨rfl, rfl⟩
            go_wp2_with (fail)
            refine (bytes_len L4.out.disk HNN.out).mono ?_
            rintro e w4 ⟨b4, rfl, hb4⟩
            have L5 := Lib.hid (L4.out.on hb4)
            clear hb4
            go_wp2
            go_roundw
            case rel => exact ⟨k + 1, F', s', by omega, by go_num, L5⟩
            case measure => simp [intOf]; omega
          · clear hss
            go_wp2_with (fail)
            refine (safe_n L3.out.disk HKK.out).mono ?_
            rintro e w3 ⟨rfl, rfl⟩
            go_wp2_with (fail)
            refine (bytes_len L3.out.disk HNN.out).mono ?_
            rintro e w3 ⟨b3, rfl, hb3⟩
            have L4 := Lib.hid (L3.out.on hb3)
            have kc := (hb3.cell (p := ⟨wr.heap.size, 0, none⟩) lw).trans k0
            have lw3 := Nat.lt_of_lt_of_le lw hb3.size
            clear hb3
            go_wp2_with (fail)
            refine (safe_n L4.out.disk HKK.out).mono ?_
            rintro e w4 ⟨rfl, rfl⟩
            go_wp2_with (fail)
            refine (safe_n L4.out.disk HKK.out).mono ?_
            rintro e w4 ⟨rfl, rfl⟩
            go_wp2_with (fail)
            refine (safe_n L4.out.disk HKK.out).mono ?_
            rintro e w4 ⟨rfl, rfl⟩
            go_wp2_with (fail)
            refine (bytes_len L4.out.disk HNN.out).mono ?_
            rintro e w4 ⟨b4, rfl, hb4⟩
            have L5 := Lib.hid (L4.out.on hb4)
            clear hb4
            go_wp2
            go_roundw
            case rel => exact ⟨k + 1, F', s', by omega, by go_num, L5⟩
            case measure => simp [intOf]; omega
          · clear hss
            have s1 : (kv == 1) = false := by rw [beq_eq_false_iff_ne]; exact hv1
            have s4 : (kv == 4) = false := by rw [beq_eq_false_iff_ne]; exact hv4
            clear hv1 hv4
            go_wp2_with (fail)
            refine (safe_n L3.out.disk HKK.out).mono ?_
            rintro e w3 ⟨rfl, rfl⟩
            go_wp2_with (fail)
            refine (bytes_len L3.out.disk HNN.out).mono ?_
            rintro e w3 ⟨b3, rfl, hb3⟩
            have L4 := Lib.hid (L3.out.on hb3)
            have kc := (hb3.cell (p := ⟨wr.heap.size, 0, none⟩) lw).trans k0
            have lw3 := Nat.lt_of_lt_of_le lw hb3.size
            clear hb3
            go_wp2_with (fail)
            refine (safe_n L4.out.disk HKK.out).mono ?_
            rintro e w4 ⟨rfl, rfl⟩
            go_wp2_with (fail)
            refine (safe_n L4.out.disk HKK.out).mono ?_
            rintro e w4 ⟨rfl, rfl⟩
            go_wp2
            go_roundw
            case rel => exact ⟨k + 1, F', s', by omega, by go_num, L4⟩
            case measure => simp [intOf]; omega
          · clear hss
            have hlt3 : (kk : Int) < (sk : Int) := by omega
            go_wp2_with (fail)
            refine (safe_n L3.out.disk HKK.out).mono ?_
            rintro e w3 ⟨rfl, rfl⟩
            go_wp2_with (fail)
            refine (bytes_len L3.out.disk HNN.out).mono ?_
            rintro e w3 ⟨b3, rfl, hb3⟩
            have L4 := Lib.hid (L3.out.on hb3)
            have kc := (hb3.cell (p := ⟨wr.heap.size, 0, none⟩) lw).trans k0
            have lw3 := Nat.lt_of_lt_of_le lw hb3.size
            clear hb3
            go_wp2_with (fail)
            refine (safe_n L4.out.disk HKK.out).mono ?_
            rintro e w4 ⟨rfl, rfl⟩
            go_wp2_with (fail)
            refine (safe_n L4.out.disk HKK.out).mono ?_
            rintro e w4 ⟨rfl, rfl⟩
            go_wp2
            go_roundw
            case rel => exact ⟨k + 1, F', s', by omega, by go_num, L4⟩
            case measure => simp [intOf]; omega
          · clear hss
            have hlt3 : (kk : Int) < (sk : Int) := by omega
            go_wp2_with (fail)
            refine (safe_n L3.out.disk HKK.out).mono ?_
            rintro e w3 ⟨rfl, rfl⟩
            go_wp2_with (fail)
            refine (bytes_len L3.out.disk HNN.out).mono ?_
            rintro e w3 ⟨b3, rfl, hb3⟩
            have L4 := Lib.hid (L3.out.on hb3)
            have kc := (hb3.cell (p := ⟨wr.heap.size, 0, none⟩) lw).trans k0
            have lw3 := Nat.lt_of_lt_of_le lw hb3.size
            clear hb3
            go_wp2_with (fail)
            refine (safe_n L4.out.disk HKK.out).mono ?_
            rintro e w4 ⟨rfl, rfl⟩
            go_wp2_with (fail)
            refine (safe_n L4.out.disk HKK.out).mono ?_
            rintro e w4 ⟨rfl, rfl⟩
            go_wp2
            go_roundw
            case rel => exact ⟨k + 1, F', s', by omega, by go_num, L4⟩
            case measure => simp [intOf]; omega
        · have hk1 : (l.length : Int) ≤ (k : Int) := by omega
          go_wp2_with (fail)
          refine (awake_on LR.out.below).mono ?_
          rintro e w2 ⟨rfl, hb⟩
          go_wp2
          go_ret
          exact ⟨rfl, hb⟩
  · go_enter Try.func8, Try.ntmps8
    go_wp2_with (fail)
    refine (new_bad n w hn).mono ?_
    rintro e w1 ⟨rfl, rfl⟩
    go_wp2_with (fail)
    refine (awake_any w).mono ?_
    rintro e w2 ⟨rfl, hb⟩
    go_wp2
    go_ret
    exact ⟨rfl, hb⟩
end Go.Proofs.Ytpdknamdladgnaa
