/- The walk of DepsPuts; no conditions but that a slot is an int. -/
import Derived.Test.YtcombmifjimkoaaRegion6
namespace Go.Proofs.Ytcombmifjimkoaa
open Go.RowKit
attribute [local go_sem ↓] run_max_mx run_min_mn run_same7

namespace M
theorem has_wit (a : Nat → Int) (r s : Int) : has (wit a r s) r s = decide ((0 ≤ r ∧ r ≤ 6) ∧ 1 ≤ s) := by
  rw [Bool.eq_iff_iff, has_iff, decide_eq_true_iff]
  unfold wit mx
  repeat' split
  all_goals omega
theorem has_out (a : Nat → Int) (r s : Int) : has (out a r s) r s = false := by
  cases e : has (out a r s) r s
  · rfl
  · have h := has_iff.1 e
    unfold out mn at h
    repeat' split at h
    all_goals omega
theorem over_wit (a : Nat → Int) (r s : Int) : over (wit a r s) a = true := over_iff.2 fun k _ => by
  unfold wit mx
  repeat' split
  all_goals omega
theorem over_out (a : Nat → Int) (r s : Int) : over a (out a r s) = true := over_iff.2 fun k _ => by
  unfold out mn
  repeat' split
  all_goals omega
theorem wit_far {a : Nat → Int} {r s : Int} {k : Nat} (h : ¬ r = k) : wit a r s k = a k := by unfold wit; rw [if_neg h]
theorem out_far {a : Nat → Int} {r s : Int} {k : Nat} (h : ¬ r = k) : out a r s k = a k := by unfold out; rw [if_neg (fun g => h g.1)]
end M
theorem At7.cell {w : World} {b : Nat} {f : Nat → Int} (h : At7 w b f) (k : Nat) (hk : k < 7) : w.cell? ⟨b, k, none⟩ = some (.int .i64 (f k)) := by
  rcases M.seven hk with rfl | rfl | rfl | rfl | rfl | rfl | rfl
  · exact h.c0
  · exact h.c1
  · exact h.c2
  · exact h.c3
  · exact h.c4
  · exact h.c5
  · exact h.c6


set_option maxHeartbeats 8000000 in
theorem puts_law (a : Nat → Int) (r s : Int) (w : World) (hs : s ≤ 9223372036854775807) :
    Calls Try.prog 6 #[.agg #[.int .i64 (a 0), .int .i64 (a 1), .int .i64 (a 2), .int .i64 (a 3), .int .i64 (a 4), .int .i64 (a 5), .int .i64 (a 6)], .agg #[.int .i64 r, .int .i64 s]] w fun e w' => e = .returned (.bool true) ∧ Below w.heap.size w w' := by
  have HS := Lib.hid hs
  clear hs
  have e1 := M.has_wit a r s
  have e2 := M.has_out a r s
  have e3 := M.over_wit a r s
  have e4 := M.over_out a r s
  by_cases k1 : 0 ≤ r
  · by_cases k2 : r ≤ 6
    · by_cases k3 : 1 ≤ s
      · rw [show decide ((0 ≤ r ∧ r ≤ 6) ∧ 1 ≤ s) = true by simp; omega] at e1
        go_enter Try.func6, Try.ntmps6
        go_wp2_with (fail)
        refine region6 HS.out ((At7.new w a).push (.cells #[.int .i64 r, .int .i64 s] 25)) (At2.new1 w (.cells #[.int .i64 (a 0), .int .i64 (a 1), .int .i64 (a 2), .int .i64 (a 3), .int .i64 (a 4), .int .i64 (a 5), .int .i64 (a 6)] 23) r s) ?_
        intro p q w1 hb hp hq
        have H1 := Lib.hid (below_on (below_new (below_new (Below.refl _ _))) hb)
        have P1 := Lib.hid (((At7.new w a).push (.cells #[.int .i64 r, .int .i64 s] 25)).on hb)
        have I1 := Lib.hid ((At2.new1 w (.cells #[.int .i64 (a 0), .int .i64 (a 1), .int .i64 (a 2), .int .i64 (a 3), .int .i64 (a 4), .int .i64 (a 5), .int .i64 (a 6)] 23) r s).on hb)
        have A1 := Lib.hid hp
        have C1 := Lib.hid hq
        clear hb hp hq
        obtain ⟨l0, c00, c01, c02, c03, c04, c05, c06⟩ := P1.out
        obtain ⟨l1, c10, c11⟩ := I1.out
        obtain ⟨l2, c20, c21, c22, c23, c24, c25, c26⟩ := A1.out
        obtain ⟨l3, c30, c31, c32, c33, c34, c35, c36⟩ := C1.out
        go_wp2_with (fail)
        refine (has_any _ _ _ _).mono ?_
        rintro e w2 ⟨rfl, hb⟩
        have H2 := Lib.hid (below_on H1.out hb)
        have P2 := Lib.hid (P1.out.on hb)
        have I2 := Lib.hid (I1.out.on hb)
        have A2 := Lib.hid (A1.out.on hb)
        have C2 := Lib.hid (C1.out.on hb)
        clear hb H1 P1 I1 A1 C1 l0 c00 c01 c02 c03 c04 c05 c06 l1 c10 c11 l2 c20 c21 c22 c23 c24 c25 c26 l3 c30 c31 c32 c33 c34 c35 c36
        obtain ⟨l0, c00, c01, c02, c03, c04, c05, c06⟩ := P2.out
        obtain ⟨l1, c10, c11⟩ := I2.out
        obtain ⟨l2, c20, c21, c22, c23, c24, c25, c26⟩ := A2.out
        obtain ⟨l3, c30, c31, c32, c33, c34, c35, c36⟩ := C2.out
        go_wp2_with (fail)
        refine (has_any _ _ _ _).mono ?_
        rintro e w3 ⟨rfl, hb⟩
        have H3 := Lib.hid (below_on H2.out hb)
        have P3 := Lib.hid (P2.out.on hb)
        have I3 := Lib.hid (I2.out.on hb)
        have A3 := Lib.hid (A2.out.on hb)
        have C3 := Lib.hid (C2.out.on hb)
        clear hb H2 P2 I2 A2 C2 l0 c00 c01 c02 c03 c04 c05 c06 l1 c10 c11 l2 c20 c21 c22 c23 c24 c25 c26 l3 c30 c31 c32 c33 c34 c35 c36
        obtain ⟨l0, c00, c01, c02, c03, c04, c05, c06⟩ := P3.out
        obtain ⟨l1, c10, c11⟩ := I3.out
        obtain ⟨l2, c20, c21, c22, c23, c24, c25, c26⟩ := A3.out
        obtain ⟨l3, c30, c31, c32, c33, c34, c35, c36⟩ := C3.out
        go_wp2_with (fail)
        refine (over_any _ _ _).mono ?_
        rintro e w4 ⟨rfl, hb⟩
        have H4 := Lib.hid (below_on H3.out hb)
        have P4 := Lib.hid (P3.out.on hb)
        have I4 := Lib.hid (I3.out.on hb)
        have A4 := Lib.hid (A3.out.on hb)
        have C4 := Lib.hid (C3.out.on hb)
        clear hb H3 P3 I3 A3 C3 l0 c00 c01 c02 c03 c04 c05 c06 l1 c10 c11 l2 c20 c21 c22 c23 c24 c25 c26 l3 c30 c31 c32 c33 c34 c35 c36
        obtain ⟨l0, c00, c01, c02, c03, c04, c05, c06⟩ := P4.out
        obtain ⟨l1, c10, c11⟩ := I4.out
        obtain ⟨l2, c20, c21, c22, c23, c24, c25, c26⟩ := A4.out
        obtain ⟨l3, c30, c31, c32, c33, c34, c35, c36⟩ := C4.out
        go_wp2_with (fail)
        refine (over_any _ _ _).mono ?_
        rintro e w5 ⟨rfl, hb⟩
        have H5 := Lib.hid (below_on H4.out hb)
        have P5 := Lib.hid (P4.out.on hb)
        have I5 := Lib.hid (I4.out.on hb)
        have A5 := Lib.hid (A4.out.on hb)
        have C5 := Lib.hid (C4.out.on hb)
        clear hb H4 P4 I4 A4 C4 l0 c00 c01 c02 c03 c04 c05 c06 l1 c10 c11 l2 c20 c21 c22 c23 c24 c25 c26 l3 c30 c31 c32 c33 c34 c35 c36
        obtain ⟨l0, c00, c01, c02, c03, c04, c05, c06⟩ := P5.out
        obtain ⟨l1, c10, c11⟩ := I5.out
        obtain ⟨l2, c20, c21, c22, c23, c24, c25, c26⟩ := A5.out
        obtain ⟨l3, c30, c31, c32, c33, c34, c35, c36⟩ := C5.out
        go_wp2_with (fail)
        clear l0 c00 c01 c02 c03 c04 c05 c06 l1 c10 c11 l2 c20 c21 c22 c23 c24 c25 c26 l3 c30 c31 c32 c33 c34 c35 c36
        go_loopw [50, 8] (fun i _ wr => ∃ k n : Nat, k ≤ 7 ∧ i = .int .i64 k ∧ wr = w5.drewN n) (fun i _ _ => 7 - (intOf i).toNat)
        case atStart => exact ⟨0, 0, by omega, rfl, rfl⟩
        case round =>
          obtain ⟨k, n, hk, rfl, rfl⟩ := hrel
          by_cases hlt : k < 7
          · have ca := P5.out.cell k hlt
            have cb := A5.out.cell k hlt
            have cc := C5.out.cell k hlt
            obtain ⟨li, ci, cj⟩ := I5.out
            by_cases h0 : r = k
            · subst h0
              go_wp2
              go_quiet (fail)
              go_wp2
              go_roundw
              case rel => exact ⟨k + 1, _, by omega, by go_num, rfl⟩
              case measure => simp [intOf]; omega
            · have h3 : (r == (k : Int)) = false := by simpa using h0
              have h4 : ((k : Int) == r) = false := by simpa using fun e => h0 e.symm
              have h5 : ((k : Int) != r) = true := by simpa using fun e => h0 e.symm
              rw [M.wit_far h0] at cb
              rw [M.out_far h0] at cc
              go_wp2
              go_quiet (fail)
              go_wp2
              go_roundw
              case rel => exact ⟨k + 1, _, by omega, by go_num, rfl⟩
              case measure => simp [intOf]; omega
          · obtain rfl : k = 7 := by omega
            go_wp2_with (fail)
            refine (awake_any _).mono ?_
            rintro e wz ⟨rfl, hb⟩
            have HZ := Lib.hid (below_on (below_drewN H5.out n) hb)
            clear hb
            go_wp2
            go_ret
            exact ⟨rfl, HZ.out⟩
      · rw [show decide ((0 ≤ r ∧ r ≤ 6) ∧ 1 ≤ s) = false by simp; omega] at e1
        have d3 : decide (1 ≤ s) = false := by simpa using k3
        go_enter Try.func6, Try.ntmps6
        go_wp2_with (fail)
        refine region6 HS.out ((At7.new w a).push (.cells #[.int .i64 r, .int .i64 s] 25)) (At2.new1 w (.cells #[.int .i64 (a 0), .int .i64 (a 1), .int .i64 (a 2), .int .i64 (a 3), .int .i64 (a 4), .int .i64 (a 5), .int .i64 (a 6)] 23) r s) ?_
        intro p q w1 hb hp hq
        have H1 := Lib.hid (below_on (below_new (below_new (Below.refl _ _))) hb)
        have P1 := Lib.hid (((At7.new w a).push (.cells #[.int .i64 r, .int .i64 s] 25)).on hb)
        have I1 := Lib.hid ((At2.new1 w (.cells #[.int .i64 (a 0), .int .i64 (a 1), .int .i64 (a 2), .int .i64 (a 3), .int .i64 (a 4), .int .i64 (a 5), .int .i64 (a 6)] 23) r s).on hb)
        have A1 := Lib.hid hp
        have C1 := Lib.hid hq
        clear hb hp hq
        obtain ⟨l0, c00, c01, c02, c03, c04, c05, c06⟩ := P1.out
        obtain ⟨l1, c10, c11⟩ := I1.out
        obtain ⟨l2, c20, c21, c22, c23, c24, c25, c26⟩ := A1.out
        obtain ⟨l3, c30, c31, c32, c33, c34, c35, c36⟩ := C1.out
        go_wp2_with (fail)
        refine (has_any _ _ _ _).mono ?_
        rintro e w2 ⟨rfl, hb⟩
        have H2 := Lib.hid (below_on H1.out hb)
        have P2 := Lib.hid (P1.out.on hb)
        have I2 := Lib.hid (I1.out.on hb)
        have A2 := Lib.hid (A1.out.on hb)
        have C2 := Lib.hid (C1.out.on hb)
        clear hb H1 P1 I1 A1 C1 l0 c00 c01 c02 c03 c04 c05 c06 l1 c10 c11 l2 c20 c21 c22 c23 c24 c25 c26 l3 c30 c31 c32 c33 c34 c35 c36
        obtain ⟨l0, c00, c01, c02, c03, c04, c05, c06⟩ := P2.out
        obtain ⟨l1, c10, c11⟩ := I2.out
        obtain ⟨l2, c20, c21, c22, c23, c24, c25, c26⟩ := A2.out
        obtain ⟨l3, c30, c31, c32, c33, c34, c35, c36⟩ := C2.out
        go_wp2_with (fail)
        refine (has_any _ _ _ _).mono ?_
        rintro e w3 ⟨rfl, hb⟩
        have H3 := Lib.hid (below_on H2.out hb)
        have P3 := Lib.hid (P2.out.on hb)
        have I3 := Lib.hid (I2.out.on hb)
        have A3 := Lib.hid (A2.out.on hb)
        have C3 := Lib.hid (C2.out.on hb)
        clear hb H2 P2 I2 A2 C2 l0 c00 c01 c02 c03 c04 c05 c06 l1 c10 c11 l2 c20 c21 c22 c23 c24 c25 c26 l3 c30 c31 c32 c33 c34 c35 c36
        obtain ⟨l0, c00, c01, c02, c03, c04, c05, c06⟩ := P3.out
        obtain ⟨l1, c10, c11⟩ := I3.out
        obtain ⟨l2, c20, c21, c22, c23, c24, c25, c26⟩ := A3.out
        obtain ⟨l3, c30, c31, c32, c33, c34, c35, c36⟩ := C3.out
        go_wp2_with (fail)
        refine (over_any _ _ _).mono ?_
        rintro e w4 ⟨rfl, hb⟩
        have H4 := Lib.hid (below_on H3.out hb)
        have P4 := Lib.hid (P3.out.on hb)
        have I4 := Lib.hid (I3.out.on hb)
        have A4 := Lib.hid (A3.out.on hb)
        have C4 := Lib.hid (C3.out.on hb)
        clear hb H3 P3 I3 A3 C3 l0 c00 c01 c02 c03 c04 c05 c06 l1 c10 c11 l2 c20 c21 c22 c23 c24 c25 c26 l3 c30 c31 c32 c33 c34 c35 c36
        obtain ⟨l0, c00, c01, c02, c03, c04, c05, c06⟩ := P4.out
        obtain ⟨l1, c10, c11⟩ := I4.out
        obtain ⟨l2, c20, c21, c22, c23, c24, c25, c26⟩ := A4.out
        obtain ⟨l3, c30, c31, c32, c33, c34, c35, c36⟩ := C4.out
        go_wp2_with (fail)
        refine (over_any _ _ _).mono ?_
        rintro e w5 ⟨rfl, hb⟩
        have H5 := Lib.hid (below_on H4.out hb)
        have P5 := Lib.hid (P4.out.on hb)
        have I5 := Lib.hid (I4.out.on hb)
        have A5 := Lib.hid (A4.out.on hb)
        have C5 := Lib.hid (C4.out.on hb)
        clear hb H4 P4 I4 A4 C4 l0 c00 c01 c02 c03 c04 c05 c06 l1 c10 c11 l2 c20 c21 c22 c23 c24 c25 c26 l3 c30 c31 c32 c33 c34 c35 c36
        obtain ⟨l0, c00, c01, c02, c03, c04, c05, c06⟩ := P5.out
        obtain ⟨l1, c10, c11⟩ := I5.out
        obtain ⟨l2, c20, c21, c22, c23, c24, c25, c26⟩ := A5.out
        obtain ⟨l3, c30, c31, c32, c33, c34, c35, c36⟩ := C5.out
        go_wp2_with (fail)
        clear l0 c00 c01 c02 c03 c04 c05 c06 l1 c10 c11 l2 c20 c21 c22 c23 c24 c25 c26 l3 c30 c31 c32 c33 c34 c35 c36
        go_loopw [50, 8] (fun i _ wr => ∃ k n : Nat, k ≤ 7 ∧ i = .int .i64 k ∧ wr = w5.drewN n) (fun i _ _ => 7 - (intOf i).toNat)
        case atStart => exact ⟨0, 0, by omega, rfl, rfl⟩
        case round =>
          obtain ⟨k, n, hk, rfl, rfl⟩ := hrel
          by_cases hlt : k < 7
          · have ca := P5.out.cell k hlt
            have cb := A5.out.cell k hlt
            have cc := C5.out.cell k hlt
            obtain ⟨li, ci, cj⟩ := I5.out
            by_cases h0 : r = k
            · subst h0
              go_wp2
              go_quiet (fail)
              go_wp2
              go_roundw
              case rel => exact ⟨k + 1, _, by omega, by go_num, rfl⟩
              case measure => simp [intOf]; omega
            · have h3 : (r == (k : Int)) = false := by simpa using h0
              have h4 : ((k : Int) == r) = false := by simpa using fun e => h0 e.symm
              have h5 : ((k : Int) != r) = true := by simpa using fun e => h0 e.symm
              rw [M.wit_far h0] at cb
              rw [M.out_far h0] at cc
              go_wp2
              go_quiet (fail)
              go_wp2
              go_roundw
              case rel => exact ⟨k + 1, _, by omega, by go_num, rfl⟩
              case measure => simp [intOf]; omega
          · obtain rfl : k = 7 := by omega
            go_wp2_with (fail)
            refine (awake_any _).mono ?_
            rintro e wz ⟨rfl, hb⟩
            have HZ := Lib.hid (below_on (below_drewN H5.out n) hb)
            clear hb
            go_wp2
            go_ret
            exact ⟨rfl, HZ.out⟩
    · rw [show decide ((0 ≤ r ∧ r ≤ 6) ∧ 1 ≤ s) = false by simp; omega] at e1
      have d2 : decide (r ≤ 6) = false := by simpa using k2
      go_enter Try.func6, Try.ntmps6
      go_wp2_with (fail)
      refine region6 HS.out ((At7.new w a).push (.cells #[.int .i64 r, .int .i64 s] 25)) (At2.new1 w (.cells #[.int .i64 (a 0), .int .i64 (a 1), .int .i64 (a 2), .int .i64 (a 3), .int .i64 (a 4), .int .i64 (a 5), .int .i64 (a 6)] 23) r s) ?_
      intro p q w1 hb hp hq
      have H1 := Lib.hid (below_on (below_new (below_new (Below.refl _ _))) hb)
      have P1 := Lib.hid (((At7.new w a).push (.cells #[.int .i64 r, .int .i64 s] 25)).on hb)
      have I1 := Lib.hid ((At2.new1 w (.cells #[.int .i64 (a 0), .int .i64 (a 1), .int .i64 (a 2), .int .i64 (a 3), .int .i64 (a 4), .int .i64 (a 5), .int .i64 (a 6)] 23) r s).on hb)
      have A1 := Lib.hid hp
      have C1 := Lib.hid hq
      clear hb hp hq
      obtain ⟨l0, c00, c01, c02, c03, c04, c05, c06⟩ := P1.out
      obtain ⟨l1, c10, c11⟩ := I1.out
      obtain ⟨l2, c20, c21, c22, c23, c24, c25, c26⟩ := A1.out
      obtain ⟨l3, c30, c31, c32, c33, c34, c35, c36⟩ := C1.out
      go_wp2_with (fail)
      refine (has_any _ _ _ _).mono ?_
      rintro e w2 ⟨rfl, hb⟩
      have H2 := Lib.hid (below_on H1.out hb)
      have P2 := Lib.hid (P1.out.on hb)
      have I2 := Lib.hid (I1.out.on hb)
      have A2 := Lib.hid (A1.out.on hb)
      have C2 := Lib.hid (C1.out.on hb)
      clear hb H1 P1 I1 A1 C1 l0 c00 c01 c02 c03 c04 c05 c06 l1 c10 c11 l2 c20 c21 c22 c23 c24 c25 c26 l3 c30 c31 c32 c33 c34 c35 c36
      obtain ⟨l0, c00, c01, c02, c03, c04, c05, c06⟩ := P2.out
      obtain ⟨l1, c10, c11⟩ := I2.out
      obtain ⟨l2, c20, c21, c22, c23, c24, c25, c26⟩ := A2.out
      obtain ⟨l3, c30, c31, c32, c33, c34, c35, c36⟩ := C2.out
      go_wp2_with (fail)
      refine (has_any _ _ _ _).mono ?_
      rintro e w3 ⟨rfl, hb⟩
      have H3 := Lib.hid (below_on H2.out hb)
      have P3 := Lib.hid (P2.out.on hb)
      have I3 := Lib.hid (I2.out.on hb)
      have A3 := Lib.hid (A2.out.on hb)
      have C3 := Lib.hid (C2.out.on hb)
      clear hb H2 P2 I2 A2 C2 l0 c00 c01 c02 c03 c04 c05 c06 l1 c10 c11 l2 c20 c21 c22 c23 c24 c25 c26 l3 c30 c31 c32 c33 c34 c35 c36
      obtain ⟨l0, c00, c01, c02, c03, c04, c05, c06⟩ := P3.out
      obtain ⟨l1, c10, c11⟩ := I3.out
      obtain ⟨l2, c20, c21, c22, c23, c24, c25, c26⟩ := A3.out
      obtain ⟨l3, c30, c31, c32, c33, c34, c35, c36⟩ := C3.out
      go_wp2_with (fail)
      refine (over_any _ _ _).mono ?_
      rintro e w4 ⟨rfl, hb⟩
      have H4 := Lib.hid (below_on H3.out hb)
      have P4 := Lib.hid (P3.out.on hb)
      have I4 := Lib.hid (I3.out.on hb)
      have A4 := Lib.hid (A3.out.on hb)
      have C4 := Lib.hid (C3.out.on hb)
      clear hb H3 P3 I3 A3 C3 l0 c00 c01 c02 c03 c04 c05 c06 l1 c10 c11 l2 c20 c21 c22 c23 c24 c25 c26 l3 c30 c31 c32 c33 c34 c35 c36
      obtain ⟨l0, c00, c01, c02, c03, c04, c05, c06⟩ := P4.out
      obtain ⟨l1, c10, c11⟩ := I4.out
      obtain ⟨l2, c20, c21, c22, c23, c24, c25, c26⟩ := A4.out
      obtain ⟨l3, c30, c31, c32, c33, c34, c35, c36⟩ := C4.out
      go_wp2_with (fail)
      refine (over_any _ _ _).mono ?_
      rintro e w5 ⟨rfl, hb⟩
      have H5 := Lib.hid (below_on H4.out hb)
      have P5 := Lib.hid (P4.out.on hb)
      have I5 := Lib.hid (I4.out.on hb)
      have A5 := Lib.hid (A4.out.on hb)
      have C5 := Lib.hid (C4.out.on hb)
      clear hb H4 P4 I4 A4 C4 l0 c00 c01 c02 c03 c04 c05 c06 l1 c10 c11 l2 c20 c21 c22 c23 c24 c25 c26 l3 c30 c31 c32 c33 c34 c35 c36
      obtain ⟨l0, c00, c01, c02, c03, c04, c05, c06⟩ := P5.out
      obtain ⟨l1, c10, c11⟩ := I5.out
      obtain ⟨l2, c20, c21, c22, c23, c24, c25, c26⟩ := A5.out
      obtain ⟨l3, c30, c31, c32, c33, c34, c35, c36⟩ := C5.out
      go_wp2_with (fail)
      clear l0 c00 c01 c02 c03 c04 c05 c06 l1 c10 c11 l2 c20 c21 c22 c23 c24 c25 c26 l3 c30 c31 c32 c33 c34 c35 c36
      go_loopw [50, 8] (fun i _ wr => ∃ k n : Nat, k ≤ 7 ∧ i = .int .i64 k ∧ wr = w5.drewN n) (fun i _ _ => 7 - (intOf i).toNat)
      case atStart => exact ⟨0, 0, by omega, rfl, rfl⟩
      case round =>
        obtain ⟨k, n, hk, rfl, rfl⟩ := hrel
        by_cases hlt : k < 7
        · have ca := P5.out.cell k hlt
          have cb := A5.out.cell k hlt
          have cc := C5.out.cell k hlt
          obtain ⟨li, ci, cj⟩ := I5.out
          by_cases h0 : r = k
          · exfalso; omega
          · have h3 : (r == (k : Int)) = false := by simpa using h0
            have h4 : ((k : Int) == r) = false := by simpa using fun e => h0 e.symm
            have h5 : ((k : Int) != r) = true := by simpa using fun e => h0 e.symm
            rw [M.wit_far h0] at cb
            rw [M.out_far h0] at cc
            go_wp2
            go_quiet (fail)
            go_wp2
            go_roundw
            case rel => exact ⟨k + 1, _, by omega, by go_num, rfl⟩
            case measure => simp [intOf]; omega
        · obtain rfl : k = 7 := by omega
          go_wp2_with (fail)
          refine (awake_any _).mono ?_
          rintro e wz ⟨rfl, hb⟩
          have HZ := Lib.hid (below_on (below_drewN H5.out n) hb)
          clear hb
          go_wp2
          go_ret
          exact ⟨rfl, HZ.out⟩
  · rw [show decide ((0 ≤ r ∧ r ≤ 6) ∧ 1 ≤ s) = false by simp; omega] at e1
    have d1 : decide (0 ≤ r) = false := by simpa using k1
    go_enter Try.func6, Try.ntmps6
    go_wp2_with (fail)
    refine region6 HS.out ((At7.new w a).push (.cells #[.int .i64 r, .int .i64 s] 25)) (At2.new1 w (.cells #[.int .i64 (a 0), .int .i64 (a 1), .int .i64 (a 2), .int .i64 (a 3), .int .i64 (a 4), .int .i64 (a 5), .int .i64 (a 6)] 23) r s) ?_
    intro p q w1 hb hp hq
    have H1 := Lib.hid (below_on (below_new (below_new (Below.refl _ _))) hb)
    have P1 := Lib.hid (((At7.new w a).push (.cells #[.int .i64 r, .int .i64 s] 25)).on hb)
    have I1 := Lib.hid ((At2.new1 w (.cells #[.int .i64 (a 0), .int .i64 (a 1), .int .i64 (a 2), .int .i64 (a 3), .int .i64 (a 4), .int .i64 (a 5), .int .i64 (a 6)] 23) r s).on hb)
    have A1 := Lib.hid hp
    have C1 := Lib.hid hq
    clear hb hp hq
    obtain ⟨l0, c00, c01, c02, c03, c04, c05, c06⟩ := P1.out
    obtain ⟨l1, c10, c11⟩ := I1.out
    obtain ⟨l2, c20, c21, c22, c23, c24, c25, c26⟩ := A1.out
    obtain ⟨l3, c30, c31, c32, c33, c34, c35, c36⟩ := C1.out
    go_wp2_with (fail)
    refine (has_any _ _ _ _).mono ?_
    rintro e w2 ⟨rfl, hb⟩
    have H2 := Lib.hid (below_on H1.out hb)
    have P2 := Lib.hid (P1.out.on hb)
    have I2 := Lib.hid (I1.out.on hb)
    have A2 := Lib.hid (A1.out.on hb)
    have C2 := Lib.hid (C1.out.on hb)
    clear hb H1 P1 I1 A1 C1 l0 c00 c01 c02 c03 c04 c05 c06 l1 c10 c11 l2 c20 c21 c22 c23 c24 c25 c26 l3 c30 c31 c32 c33 c34 c35 c36
    obtain ⟨l0, c00, c01, c02, c03, c04, c05, c06⟩ := P2.out
    obtain ⟨l1, c10, c11⟩ := I2.out
    obtain ⟨l2, c20, c21, c22, c23, c24, c25, c26⟩ := A2.out
    obtain ⟨l3, c30, c31, c32, c33, c34, c35, c36⟩ := C2.out
    go_wp2_with (fail)
    refine (has_any _ _ _ _).mono ?_
    rintro e w3 ⟨rfl, hb⟩
    have H3 := Lib.hid (below_on H2.out hb)
    have P3 := Lib.hid (P2.out.on hb)
    have I3 := Lib.hid (I2.out.on hb)
    have A3 := Lib.hid (A2.out.on hb)
    have C3 := Lib.hid (C2.out.on hb)
    clear hb H2 P2 I2 A2 C2 l0 c00 c01 c02 c03 c04 c05 c06 l1 c10 c11 l2 c20 c21 c22 c23 c24 c25 c26 l3 c30 c31 c32 c33 c34 c35 c36
    obtain ⟨l0, c00, c01, c02, c03, c04, c05, c06⟩ := P3.out
    obtain ⟨l1, c10, c11⟩ := I3.out
    obtain ⟨l2, c20, c21, c22, c23, c24, c25, c26⟩ := A3.out
    obtain ⟨l3, c30, c31, c32, c33, c34, c35, c36⟩ := C3.out
    go_wp2_with (fail)
    refine (over_any _ _ _).mono ?_
    rintro e w4 ⟨rfl, hb⟩
    have H4 := Lib.hid (below_on H3.out hb)
    have P4 := Lib.hid (P3.out.on hb)
    have I4 := Lib.hid (I3.out.on hb)
    have A4 := Lib.hid (A3.out.on hb)
    have C4 := Lib.hid (C3.out.on hb)
    clear hb H3 P3 I3 A3 C3 l0 c00 c01 c02 c03 c04 c05 c06 l1 c10 c11 l2 c20 c21 c22 c23 c24 c25 c26 l3 c30 c31 c32 c33 c34 c35 c36
    obtain ⟨l0, c00, c01, c02, c03, c04, c05, c06⟩ := P4.out
    obtain ⟨l1, c10, c11⟩ := I4.out
    obtain ⟨l2, c20, c21, c22, c23, c24, c25, c26⟩ := A4.out
    obtain ⟨l3, c30, c31, c32, c33, c34, c35, c36⟩ := C4.out
    go_wp2_with (fail)
    refine (over_any _ _ _).mono ?_
    rintro e w5 ⟨rfl, hb⟩
    have H5 := Lib.hid (below_on H4.out hb)
    have P5 := Lib.hid (P4.out.on hb)
    have I5 := Lib.hid (I4.out.on hb)
    have A5 := Lib.hid (A4.out.on hb)
    have C5 := Lib.hid (C4.out.on hb)
    clear hb H4 P4 I4 A4 C4 l0 c00 c01 c02 c03 c04 c05 c06 l1 c10 c11 l2 c20 c21 c22 c23 c24 c25 c26 l3 c30 c31 c32 c33 c34 c35 c36
    obtain ⟨l0, c00, c01, c02, c03, c04, c05, c06⟩ := P5.out
    obtain ⟨l1, c10, c11⟩ := I5.out
    obtain ⟨l2, c20, c21, c22, c23, c24, c25, c26⟩ := A5.out
    obtain ⟨l3, c30, c31, c32, c33, c34, c35, c36⟩ := C5.out
    go_wp2_with (fail)
    clear l0 c00 c01 c02 c03 c04 c05 c06 l1 c10 c11 l2 c20 c21 c22 c23 c24 c25 c26 l3 c30 c31 c32 c33 c34 c35 c36
    go_loopw [50, 8] (fun i _ wr => ∃ k n : Nat, k ≤ 7 ∧ i = .int .i64 k ∧ wr = w5.drewN n) (fun i _ _ => 7 - (intOf i).toNat)
    case atStart => exact ⟨0, 0, by omega, rfl, rfl⟩
    case round =>
      obtain ⟨k, n, hk, rfl, rfl⟩ := hrel
      by_cases hlt : k < 7
      · have ca := P5.out.cell k hlt
        have cb := A5.out.cell k hlt
        have cc := C5.out.cell k hlt
        obtain ⟨li, ci, cj⟩ := I5.out
        by_cases h0 : r = k
        · exfalso; omega
        · have h3 : (r == (k : Int)) = false := by simpa using h0
          have h4 : ((k : Int) == r) = false := by simpa using fun e => h0 e.symm
          have h5 : ((k : Int) != r) = true := by simpa using fun e => h0 e.symm
          rw [M.wit_far h0] at cb
          rw [M.out_far h0] at cc
          go_wp2
          go_quiet (fail)
          go_wp2
          go_roundw
          case rel => exact ⟨k + 1, _, by omega, by go_num, rfl⟩
          case measure => simp [intOf]; omega
      · obtain rfl : k = 7 := by omega
        go_wp2_with (fail)
        refine (awake_any _).mono ?_
        rintro e wz ⟨rfl, hb⟩
        have HZ := Lib.hid (below_on (below_drewN H5.out n) hb)
        clear hb
        go_wp2
        go_ret
        exact ⟨rfl, HZ.out⟩

end Go.Proofs.Ytcombmifjimkoaa
