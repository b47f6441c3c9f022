/- The walk of DepsLists; no conditions. -/
import Derived.Test.YtcombmifjimkoaaLawsC
import Derived.Test.YtcombmifjimkoaaWalksI
namespace Go.Proofs.Ytcombmifjimkoaa
open Go.RowKit
attribute [local go_sem ↓] run_max_mx run_min_mn run_same7

/-- A row of all instances. -/
structure Lst (w : World) (g : Nat) (a : Nat → Int) : Prop where
  lt : g < w.heap.size
  rep : ∀ j, j < M.ln a 7 → w.cell? ⟨g, j * 2, none⟩ = some (.int .i64 (M.rep a j))
  slo : ∀ j, j < M.ln a 7 → w.cell? ⟨g, j * 2 + 1, none⟩ = some (.int .i64 (M.slo a j))
theorem Lst.of {w : World} {g : Nat} {a : Nat → Int} (h : w.ownsRow g 25 2 (.slice (some ⟨g, 0, none⟩) (M.ln a 7) (M.ln a 7)) (M.ln a 7) (flat (M.upto a 7))) : Lst w g a := by
  have hc := h.cells (g := g) rfl
  have key : ∀ j, j < M.ln a 7 → w.cell? ⟨g, j * 2, none⟩ = some (.int .i64 (M.rep a j)) ∧ w.cell? ⟨g, j * 2 + 1, none⟩ = some (.int .i64 (M.slo a j)) := fun j hj => by
    obtain ⟨h', e⟩ := M.at_eq hj
    have hf := flat_at (M.upto a 7) j h'
    rw [← e] at hf
    have h1 := hc _ _ hf.1
    have h2 := hc _ _ hf.2
    rw [Addr.add_mid, Nat.zero_add, Nat.mul_comm] at h1 h2
    exact ⟨h1, h2⟩
  exact ⟨(h.lt g rfl).2, fun j hj => (key j hj).1, fun j hj => (key j hj).2⟩
theorem Lst.on {w w' : World} {g : Nat} {a : Nat → Int} (h : Lst w g a) (k : Below w.heap.size w w') : Lst w' g a :=
  ⟨Nat.lt_of_lt_of_le h.lt k.size, fun j hj => (k.cell (p := ⟨g, j * 2, none⟩) h.lt).trans (h.rep j hj), fun j hj => (k.cell (p := ⟨g, j * 2 + 1, none⟩) h.lt).trans (h.slo j hj)⟩

/-- None of the first k is great. -/
def M.small (a : Nat → Int) (k : Nat) : Prop := ∀ j, j < k → a j ≤ 200
theorem M.small_zero (a : Nat → Int) : M.small a 0 := fun j h => by omega
theorem M.small_succ {a : Nat → Int} {k : Nat} (h : M.small a k) (h0 : a k ≤ 200) : M.small a (k + 1) := fun j hj => by
  by_cases e : j = k
  · subst e; exact h0
  · exact h j (by omega)

theorem M.fnd_hit {a : Nat → Int} {k : Nat} : M.fnd a (M.rep a k) (M.slo a k) (k + 1) = true := by simp [M.fnd]
theorem M.fnd_miss {a : Nat → Int} {r s : Int} {k : Nat} (h : M.fnd a r s k = false) (h' : ¬ (M.rep a k = r ∧ M.slo a k = s)) : M.fnd a r s (k + 1) = false := by
  simp only [M.fnd, h, Bool.false_or, Bool.and_eq_false_iff, decide_eq_false_iff_not]
  by_cases e : M.rep a k = r
  · exact .inr fun g => h' ⟨e, g⟩
  · exact .inl e
theorem M.fnd_more {a : Nat → Int} {r s : Int} {k : Nat} (h : M.fnd a r s k = true) : M.fnd a r s (k + 1) = true := by simp [M.fnd, h]

set_option maxHeartbeats 2000000 in
theorem lists_no (a : Nat → Int) (r s : Int) (w : World) (hr : M.right a = false) :
    Calls Try.prog 4 #[.agg #[.int .i64 (a 0), .int .i64 (a 1), .int .i64 (a 2), .int .i64 (a 3), .int .i64 (a 4), .int .i64 (a 5), .int .i64 (a 6)], .agg #[.int .i64 r, .int .i64 s]] w fun e w' => e = .returned (.bool true) ∧ Below w.heap.size w w' := by
  have HR := Lib.hid hr

  go_enter Try.func4, Try.ntmps4
  go_wp2_with (fail)
  refine (refRight_any _ _).mono ?_
  rintro e w1 ⟨rfl, hb⟩
  have H1 := Lib.hid (below_on (below_new (below_new (Below.refl _ _))) hb)
  have P1 := Lib.hid (((At7.new w  (a)).push (.cells #[.int .i64 r, .int .i64 s] 25)).on hb)
  have I1 := Lib.hid ((At2.new1 w (.cells #[.int .i64 (a 0), .int .i64 (a 1), .int .i64 (a 2), .int .i64 (a 3), .int .i64 (a 4), .int .i64 (a 5), .int .i64 (a 6)] 23) r s).on hb)
  clear hb
  obtain ⟨l0, c00, c01, c02, c03, c04, c05, c06⟩ := P1.out
  go_wp2_with (fail)
  refine (insts_no _ _ HR.out).mono ?_
  rintro e w2 ⟨rfl, hb⟩
  have H2 := Lib.hid (below_on (H1.out) hb)
  have P2 := Lib.hid (P1.out.on hb)
  have I2 := Lib.hid (I1.out.on hb)
  clear P1 I1 H1 l0 c00 c01 c02 c03 c04 c05 c06
  clear hb
  obtain ⟨l0, c00, c01, c02, c03, c04, c05, c06⟩ := P2.out
  go_wp2_with (fail)
  refine (count_no _ _ HR.out).mono ?_
  rintro e w3 ⟨rfl, hb⟩
  have H3 := Lib.hid (below_on (H2.out) hb)
  have P3 := Lib.hid (P2.out.on hb)
  have I3 := Lib.hid (I2.out.on hb)
  clear P2 I2 H2 l0 c00 c01 c02 c03 c04 c05 c06
  clear hb
  obtain ⟨l0, c00, c01, c02, c03, c04, c05, c06⟩ := P3.out
  go_wp2_with (fail)
  refine (awake_any _).mono ?_
  rintro e w4 ⟨rfl, hb⟩
  have H4 := Lib.hid (below_on (H3.out) hb)
  have P4 := Lib.hid (P3.out.on hb)
  have I4 := Lib.hid (I3.out.on hb)
  clear P3 I3 H3 l0 c00 c01 c02 c03 c04 c05 c06
  clear hb
  go_wp2
  go_ret
  exact ⟨rfl, H4.out⟩

set_option maxHeartbeats 8000000 in
set_option maxRecDepth 100000 in
theorem lists_yes (a : Nat → Int) (r s : Int) (w : World) (hr : M.right a = true) :
    Calls Try.prog 4 #[.agg #[.int .i64 (a 0), .int .i64 (a 1), .int .i64 (a 2), .int .i64 (a 3), .int .i64 (a 4), .int .i64 (a 5), .int .i64 (a 6)], .agg #[.int .i64 r, .int .i64 s]] w fun e w' => e = .returned (.bool true) ∧ Below w.heap.size w w' := by
  have HR := Lib.hid hr
  go_enter Try.func4, Try.ntmps4
  go_wp2_with (fail)
  refine (refRight_any _ _).mono ?_
  rintro e w1 ⟨rfl, hb⟩
  have H1 := Lib.hid (below_on (below_new (below_new (Below.refl _ _))) hb)
  have P1 := Lib.hid (((At7.new w  (a)).push (.cells #[.int .i64 r, .int .i64 s] 25)).on hb)
  have I1 := Lib.hid ((At2.new1 w (.cells #[.int .i64 (a 0), .int .i64 (a 1), .int .i64 (a 2), .int .i64 (a 3), .int .i64 (a 4), .int .i64 (a 5), .int .i64 (a 6)] 23) r s).on hb)
  clear hb
  obtain ⟨l0, c00, c01, c02, c03, c04, c05, c06⟩ := P1.out
  go_wp2_with (fail)
  clear l0 c00 c01 c02 c03 c04 c05 c06
  go_loop [5, 28] (fun n i => ∃ k : Nat, k ≤ 7 ∧ i = .int .i64 k ∧ n = .int .i64 (M.ln a k) ∧ M.small a k) (fun _ i => 7 - (intOf i).toNat)
  case atStart => exact ⟨0, by omega, rfl, rfl, M.small_zero a⟩
  case round =>
    obtain ⟨k, hk, rfl, rfl, hsm⟩ := hrel
    have HM := Lib.hid hsm
    clear hsm
    have hl := M.ln_le HR.out hk
    by_cases hlt : k < 7
    · have hix := idx_any a k hlt
      have hb := M.right_iff.1 HR.out k hlt
      obtain ⟨hb0, hb1⟩ := hb
      have HE := Lib.hid (show ((M.ln a (k + 1) : Nat) : Int) = (M.ln a k : Int) + a k by rw [M.ln]; omega)
      by_cases hg : a k ≤ 200
      · go_wp2
        go_round
        case rel => exact ⟨k + 1, by omega, by go_num, by rw [HE.out], M.small_succ HM.out hg⟩
        case measure => simp [intOf]; omega
      · have hg' : 200 < a k := by omega
        go_wp2_with (fail)
        refine (awake_any _).mono ?_
        rintro e wz ⟨rfl, hb⟩
        have HZ := Lib.hid (below_on H1.out hb)
        clear hb
        go_wp2
        go_ret
        exact ⟨rfl, HZ.out⟩
    · obtain rfl : k = 7 := by omega
      have hkd : decide ((7 : Int) < 7) = false := by decide
      obtain ⟨l0, c00, c01, c02, c03, c04, c05, c06⟩ := P1.out
      go_wp2_with (fail)
      refine (insts_yes _ _ HR.out).mono ?_
      rintro e w2 ⟨g, rfl, hown, hb⟩
      have H2 := Lib.hid (below_on H1.out hb)
      have P2 := Lib.hid (P1.out.on hb)
      have I2 := Lib.hid (I1.out.on hb)
      have L2 := Lib.hid (Lst.of hown)
      clear hb hown l0 c00 c01 c02 c03 c04 c05 c06 H1 P1 I1 HM
      go_wp2_with (fail)
      clear hkd
      go_loopw [9, 42] (fun f i wr => ∃ k : Nat, k ≤ M.ln a 7 ∧ i = .int .i64 k ∧ f = .bool (M.fnd a r s k) ∧ Below w2.heap.size w2 wr) (fun _ i _ => M.ln a 7 - (intOf i).toNat)
      case atStart => exact ⟨0, by omega, rfl, rfl, Below.refl _ _⟩
      case round =>
        obtain ⟨k, hk, rfl, rfl, hb⟩ := hrel
        have H3 := Lib.hid (below_on H2.out hb)
        have P3 := Lib.hid (P2.out.on hb)
        have I3 := Lib.hid (I2.out.on hb)
        have L3 := Lib.hid (L2.out.on hb)
        have HW := Lib.hid hb
        clear hb
        by_cases hlt : k < M.ln a 7
        · have e1 := M.has_at_j HR.out hlt
          have cr := L3.out.rep k hlt
          have cs := L3.out.slo k hlt
          have hkd : decide ((k : Int) < (M.ln a 7 : Int)) = true := decide_eq_true (by omega)
          obtain ⟨l0, c00, c01, c02, c03, c04, c05, c06⟩ := P3.out
          obtain ⟨l1, c10, c11⟩ := I3.out
          have lg := L3.out.lt
          match k, hk, hlt, e1, cr, cs, hkd with
          | 0, hk, hlt, e1, cr, cs, hkd =>
            go_wp2_with (fail)
            refine wp_region_after (by kernel_rfl) (by kernel_rfl) ?_
            have hx := @After.cell (wr.alloc (.cells #[.int .i64 (M.rep a (0)), .int .i64 (M.slo a (0))] 25))
            repeat (first | (go_big_quiet_step (first | (go_at_call 12; exact Calls.after_of (refHas_any _ _ _ _)))) | rw [e1])
            refine wpQuiet_nil ?_
            rintro w3 ⟨⟨_, hb⟩, rfl⟩
            have H4 := Lib.hid (below_on (below_new HW.out) hb)
            have X4 := Lib.hid ((At2.new _ _ _).on hb)
            have I4 := Lib.hid ((I3.out.push _).on hb)
            clear hb hx l0 c00 c01 c02 c03 c04 c05 c06 l1 c10 c11 lg cr cs e1
            obtain ⟨l2, c20, c21⟩ := X4.out
            obtain ⟨l1, c10, c11⟩ := I4.out
            cases hf : M.fnd a r s (0)
            · have HF := Lib.hid hf
              clear hf
              by_cases h1 : M.rep a (0) = r
              · subst h1
                by_cases h2 : M.slo a (0) = s
                · subst h2
                  go_wp2
                  go_roundw
                  case rel => exact ⟨0 + 1, by omega, by go_num, by rw [M.fnd_hit], H4.out⟩
                  case measure => simp [intOf]; omega
                · have b2 : (M.slo a (0) == s) = false := by simpa using h2
                  go_wp2
                  go_roundw
                  case rel => exact ⟨0 + 1, by omega, by go_num, by rw [M.fnd_miss HF.out (fun g => h2 g.2)], H4.out⟩
                  case measure => simp [intOf]; omega
              · have b1 : (M.rep a (0) == r) = false := by simpa using h1
                go_wp2
                go_roundw
                case rel => exact ⟨0 + 1, by omega, by go_num, by rw [M.fnd_miss HF.out (fun g => h1 g.1)], H4.out⟩
                case measure => simp [intOf]; omega
            · have HF := Lib.hid hf
              clear hf
              go_wp2
              go_roundw
              case rel => exact ⟨0 + 1, by omega, by go_num, by rw [M.fnd_more HF.out], H4.out⟩
              case measure => simp [intOf]; omega
          | j + 1, hk, hlt, e1, cr, cs, hkd =>
            have hkd2 : decide ((j : Int) + 1 < (M.ln a 7 : Int)) = true := decide_eq_true (by omega)
            have dr := L3.out.rep j (by omega)
            have dw := L3.out.slo j (by omega)
            rcases M.step_lt hlt with hs | ⟨hs, ht⟩
            · have s1 : decide (M.rep a (j + 1) < M.rep a j) = false := decide_eq_false (by omega)
              have s2 : (M.rep a j == M.rep a (j + 1)) = false := by simpa using (show ¬ M.rep a j = M.rep a (j + 1) by omega)
              go_wp2_with (fail)
              refine wp_region_after (by kernel_rfl) (by kernel_rfl) ?_
              have hx := @After.cell (wr.alloc (.cells #[.int .i64 (M.rep a (j + 1)), .int .i64 (M.slo a (j + 1))] 25))
              repeat (first | (go_big_quiet_step (first | (go_at_call 12; exact Calls.after_of (refHas_any _ _ _ _)))) | rw [e1])
              refine wpQuiet_nil ?_
              rintro w3 ⟨⟨_, hb⟩, rfl⟩
              have H4 := Lib.hid (below_on (below_new HW.out) hb)
              have X4 := Lib.hid ((At2.new _ _ _).on hb)
              have I4 := Lib.hid ((I3.out.push _).on hb)
              clear hb hx l0 c00 c01 c02 c03 c04 c05 c06 l1 c10 c11 lg cr cs e1
              obtain ⟨l2, c20, c21⟩ := X4.out
              obtain ⟨l1, c10, c11⟩ := I4.out
              cases hf : M.fnd a r s (j + 1)
              · have HF := Lib.hid hf
                clear hf
                by_cases h1 : M.rep a (j + 1) = r
                · subst h1
                  by_cases h2 : M.slo a (j + 1) = s
                  · subst h2
                    go_wp2
                    go_roundw
                    case rel => exact ⟨j + 1 + 1, by omega, by go_num, by rw [M.fnd_hit], H4.out⟩
                    case measure => simp [intOf]; omega
                  · have b2 : (M.slo a (j + 1) == s) = false := by simpa using h2
                    go_wp2
                    go_roundw
                    case rel => exact ⟨j + 1 + 1, by omega, by go_num, by rw [M.fnd_miss HF.out (fun g => h2 g.2)], H4.out⟩
                    case measure => simp [intOf]; omega
                · have b1 : (M.rep a (j + 1) == r) = false := by simpa using h1
                  go_wp2
                  go_roundw
                  case rel => exact ⟨j + 1 + 1, by omega, by go_num, by rw [M.fnd_miss HF.out (fun g => h1 g.1)], H4.out⟩
                  case measure => simp [intOf]; omega
              · have HF := Lib.hid hf
                clear hf
                go_wp2
                go_roundw
                case rel => exact ⟨j + 1 + 1, by omega, by go_num, by rw [M.fnd_more HF.out], H4.out⟩
                case measure => simp [intOf]; omega
            · have s1 : decide (M.rep a (j + 1) < M.rep a j) = false := decide_eq_false (by omega)
              have s2 : (M.rep a j == M.rep a (j + 1)) = true := by simpa using hs
              have s3 : decide (M.slo a (j + 1) ≤ M.slo a j) = false := decide_eq_false (by omega)
              go_wp2_with (fail)
              refine wp_region_after (by kernel_rfl) (by kernel_rfl) ?_
              have hx := @After.cell (wr.alloc (.cells #[.int .i64 (M.rep a (j + 1)), .int .i64 (M.slo a (j + 1))] 25))
              repeat (first | (go_big_quiet_step (first | (go_at_call 12; exact Calls.after_of (refHas_any _ _ _ _)))) | rw [e1])
              refine wpQuiet_nil ?_
              rintro w3 ⟨⟨_, hb⟩, rfl⟩
              have H4 := Lib.hid (below_on (below_new HW.out) hb)
              have X4 := Lib.hid ((At2.new _ _ _).on hb)
              have I4 := Lib.hid ((I3.out.push _).on hb)
              clear hb hx l0 c00 c01 c02 c03 c04 c05 c06 l1 c10 c11 lg cr cs e1
              obtain ⟨l2, c20, c21⟩ := X4.out
              obtain ⟨l1, c10, c11⟩ := I4.out
              cases hf : M.fnd a r s (j + 1)
              · have HF := Lib.hid hf
                clear hf
                by_cases h1 : M.rep a (j + 1) = r
                · subst h1
                  by_cases h2 : M.slo a (j + 1) = s
                  · subst h2
                    go_wp2
                    go_roundw
                    case rel => exact ⟨j + 1 + 1, by omega, by go_num, by rw [M.fnd_hit], H4.out⟩
                    case measure => simp [intOf]; omega
                  · have b2 : (M.slo a (j + 1) == s) = false := by simpa using h2
                    go_wp2
                    go_roundw
                    case rel => exact ⟨j + 1 + 1, by omega, by go_num, by rw [M.fnd_miss HF.out (fun g => h2 g.2)], H4.out⟩
                    case measure => simp [intOf]; omega
                · have b1 : (M.rep a (j + 1) == r) = false := by simpa using h1
                  go_wp2
                  go_roundw
                  case rel => exact ⟨j + 1 + 1, by omega, by go_num, by rw [M.fnd_miss HF.out (fun g => h1 g.1)], H4.out⟩
                  case measure => simp [intOf]; omega
              · have HF := Lib.hid hf
                clear hf
                go_wp2
                go_roundw
                case rel => exact ⟨j + 1 + 1, by omega, by go_num, by rw [M.fnd_more HF.out], H4.out⟩
                case measure => simp [intOf]; omega
        · obtain rfl : k = M.ln a 7 := by omega
          have e2 := M.fnd_has HR.out r s
          have hkd : decide ((M.ln a 7 : Int) < (M.ln a 7 : Int)) = false := decide_eq_false (by omega)
          obtain ⟨l0, c00, c01, c02, c03, c04, c05, c06⟩ := P3.out
          go_wp2_with (fail)
          refine (count_yes _ _ HR.out).mono ?_
          rintro e w4 ⟨rfl, hb⟩
          have H4 := Lib.hid (below_on H3.out hb)
          have P4 := Lib.hid (P3.out.on hb)
          have I4 := Lib.hid (I3.out.on hb)
          clear hb l0 c00 c01 c02 c03 c04 c05 c06
          obtain ⟨l0, c00, c01, c02, c03, c04, c05, c06⟩ := P4.out
          obtain ⟨l1, c10, c11⟩ := I4.out
          go_wp2_with (fail)
          refine (refHas_any _ _ _ _).mono ?_
          rintro e w5 ⟨rfl, hb⟩
          have H5 := Lib.hid (below_on H4.out hb)
          clear hb l0 c00 c01 c02 c03 c04 c05 c06 l1 c10 c11
          go_wp2_with (fail)
          refine (awake_any _).mono ?_
          rintro e w6 ⟨rfl, hb⟩
          have H6 := Lib.hid (below_on H5.out hb)
          clear hb
          go_wp2
          go_ret
          exact ⟨rfl, H6.out⟩
theorem lists_law (a : Nat → Int) (r s : Int) (w : World) :
    Calls Try.prog 4 #[.agg #[.int .i64 (a 0), .int .i64 (a 1), .int .i64 (a 2), .int .i64 (a 3), .int .i64 (a 4), .int .i64 (a 5), .int .i64 (a 6)], .agg #[.int .i64 r, .int .i64 s]] w fun e w' => e = .returned (.bool true) ∧ Below w.heap.size w w' := by
  cases hr : M.right a
  · exact lists_no a r s w hr
  · exact lists_yes a r s w hr
end Go.Proofs.Ytcombmifjimkoaa
