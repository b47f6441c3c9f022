/- Contracts of the document's own Has, power, With, Without, Members, Count and Major; what they make lies in new memory, and nothing that was there changes; conditions: a set is an int. -/
import Derived.Test.YtglnpdcmaamcfaaDoorWalksE
namespace Go.Proofs.YtglnpdcmaamcfaaDoor
open Go.RowKit

namespace M
/-- A set as a number without a sign, halved j times. -/
def sh (s : Int) (j : Nat) : Int := s % 18446744073709551616 / 2 ^ j
theorem sh_bd (s : Int) (j : Nat) : 0 ≤ sh s j ∧ sh s j < 18446744073709551616 := by
  unfold sh
  have h0 : 0 ≤ s % 18446744073709551616 := by omega
  have h1 : s % 18446744073709551616 < 18446744073709551616 := by omega
  have hp : (0 : Int) < 2 ^ j := Int.pow_pos (by decide)
  exact ⟨Int.ediv_nonneg h0 (by omega), Int.lt_of_le_of_lt (Int.ediv_le_self _ h0) h1⟩
theorem sh_zero (s : Int) : IntKind.u64.wrap s = sh s 0 := by
  unfold sh
  simp [IntKind.wrap, IntKind.bits, IntKind.signed]
theorem sh_succ (s : Int) (j : Nat) : sh s j / 2 = sh s (j + 1) := by
  unfold sh
  rw [Int.ediv_ediv_of_nonneg (Int.pow_nonneg (by decide)), Int.pow_succ]
theorem sh_bit (s : Int) (j : Nat) (h : j < 7) : (sh s j % 2 == 1) = decide (bt s j = 1) := by
  have : (sh s j % 2 = 1) ↔ bt s j = 1 := by
    unfold sh bt
    rcases seven h with rfl | rfl | rfl | rfl | rfl | rfl | rfl <;> (simp only [Int.reducePow]; omega)
  by_cases hb : bt s j = 1
  · simp [hb, this.2 hb]
  · have : ¬ sh s j % 2 = 1 := fun h => hb (this.1 h)
    simp [hb, this]
def pw (j : Nat) : Int := 2 ^ j
theorem pw_bd (j : Nat) (h : j < 7) : 0 < pw j ∧ pw j ≤ 64 := by
  rcases seven h with rfl | rfl | rfl | rfl | rfl | rfl | rfl <;> decide
theorem pw_succ (j : Nat) : pw j * 2 = pw (j + 1) := by unfold pw; rw [Int.pow_succ]
theorem with_not (s k : Int) (h : repB k = false) : withOf s k = s := by simp [withOf, h]
theorem without_not (s k : Int) (h : repB k = false) : withoutOf s k = s := by simp [withoutOf, h]
theorem has_true (s k : Int) (hr : repB k = true) (h : hasB s k = true) : bt s k.toNat = 1 := by simpa [hasB, hr] using h
theorem has_false (s k : Int) (hr : repB k = true) (h : hasB s k = false) : bt s k.toNat = 0 := by
  have := bt_01 s k.toNat
  simp [hasB, hr] at h
  omega
theorem with_had (s k : Int) (hr : repB k = true) (h : hasB s k = true) (h1 : -9223372036854775808 ≤ s) (h2 : s < 9223372036854775808) : withOf s k = s := by
  have hk := rep_iff.1 hr
  unfold withOf
  rw [hr, if_pos rfl]
  exact or_set s k.toNat (by omega) (has_true s k hr h) h1 h2
theorem with_new (s k : Int) (hr : repB k = true) (h : hasB s k = false) : withOf s k = IntKind.i64.wrap (s + pw k.toNat) := by
  have hk := rep_iff.1 hr
  unfold withOf
  rw [hr, if_pos rfl]
  exact or_add s k.toNat (by omega) (has_false s k hr h)
theorem without_had (s k : Int) (hr : repB k = true) (h : hasB s k = true) : withoutOf s k = IntKind.i64.wrap (s - pw k.toNat) := by
  have hk := rep_iff.1 hr
  unfold withoutOf
  rw [hr, if_pos rfl]
  exact andNot_sub s k.toNat (by omega) (has_true s k hr h)
theorem without_new (s k : Int) (h : hasB s k = false) (h1 : -9223372036854775808 ≤ s) (h2 : s < 9223372036854775808) : withoutOf s k = s := by
  cases hr : repB k
  · exact without_not s k hr
  · have hk := rep_iff.1 hr
    unfold withoutOf
    rw [hr, if_pos rfl]
    exact andNot_clear s k.toNat (by omega) (has_false s k hr h) h1 h2
theorem if_01 (z : Int) (h : 0 ≤ z ∧ z ≤ 1) : (if z = 1 then (1 : Int) else 0) = z := by split <;> omega
theorem cnt_low (f s : Int) (N : Nat) (h : (f = 1 ∧ N = 3) ∨ (f = 2 ∧ N = 5) ∨ (f = 3 ∧ N = 7)) : cnt (bits .and .i64 s (allOf f)) = cntTo s N := by
  have q : ∀ (m : Int) (k : Nat), k < 7 → bt m k = 1 → bt (bits .and .i64 s m) k = bt s k := by
    intro m k hk hm
    rw [and_bt s m k hk, hm]
    have := if_01 _ (bt_01 s k)
    simpa using this
  have z : ∀ (m : Int) (k : Nat), k < 7 → bt m k = 0 → bt (bits .and .i64 s m) k = 0 := by
    intro m k hk hm
    rw [and_bt s m k hk, hm]
    simp
  unfold cnt
  rcases h with ⟨rfl, rfl⟩ | ⟨rfl, rfl⟩ | ⟨rfl, rfl⟩
  · rw [show allOf 1 = 7 from rfl, q 7 0 (by decide) rfl, q 7 1 (by decide) rfl, q 7 2 (by decide) rfl, z 7 3 (by decide) rfl, z 7 4 (by decide) rfl, z 7 5 (by decide) rfl, z 7 6 (by decide) rfl]
    simp [cntTo]
  · rw [show allOf 2 = 31 from rfl, q 31 0 (by decide) rfl, q 31 1 (by decide) rfl, q 31 2 (by decide) rfl, q 31 3 (by decide) rfl, q 31 4 (by decide) rfl, z 31 5 (by decide) rfl, z 31 6 (by decide) rfl]
    simp [cntTo]
  · rw [show allOf 3 = 127 from rfl, q 127 0 (by decide) rfl, q 127 1 (by decide) rfl, q 127 2 (by decide) rfl, q 127 3 (by decide) rfl, q 127 4 (by decide) rfl, q 127 5 (by decide) rfl, q 127 6 (by decide) rfl]
    simp [cntTo]
end M

set_option maxHeartbeats 1000000 in
theorem refHas_any (s k : Int) (w : World) : Calls Tryd.prog 22 #[.int .i64 s, .int .i64 k] w fun e w' => e = .returned (.bool (M.hasB s k)) ∧ w = w' := by
  by_cases h1 : 0 ≤ k
  · by_cases h2 : k ≤ 6
    · have H0 := Lib.hid (M.sh_zero s)
      have hrep : M.repB k = true := M.rep_iff.2 ⟨h1, by omega⟩
      have hfin : M.hasB s k = decide (M.bt s k.toNat = 1) := by unfold M.hasB; rw [hrep, Bool.true_and]
      have HF := Lib.hid hfin
      clear hrep hfin
      go_enter Tryd.func22, Tryd.ntmps22
      go_wp2
      go_loop [5, 6] (fun n i => ∃ j : Nat, (j : Int) ≤ k ∧ i = .int .i64 j ∧ n = .int .u64 (M.sh s j)) (fun _ i => k.toNat - (intOf i).toNat)
      case atStart => exact ⟨0, by omega, rfl, by rw [← H0.out]⟩
      case round =>
        obtain ⟨j, hj, rfl, rfl⟩ := hrel
        obtain ⟨hu1, hu2⟩ := M.sh_bd s j
        by_cases hlt : (j : Int) < k
        · have HS := Lib.hid (M.sh_succ s j)
          go_wp2
          go_round
          case rel => exact ⟨j + 1, by omega, by go_num, by rw [← HS.out]⟩
          case measure => simp [intOf]; omega
        · have HB := Lib.hid (M.sh_bit s j (by omega))
          have HJ := Lib.hid (show k.toNat = j by omega)
          go_wp2
          go_ret
          exact ⟨ret_bool (by rw [HF.out, HJ.out]; exact HB.out), rfl⟩
    · have hb : M.hasB s k = false := by
        have : M.repB k = false := by simp [M.repB]; omega
        simp [M.hasB, this]
      rw [hb]
      clear hb
      go_enter Tryd.func22, Tryd.ntmps22
      go_wp2
      go_ret
      exact ⟨rfl, rfl⟩
  · have hb : M.hasB s k = false := by
      have : M.repB k = false := by simp [M.repB]; omega
      simp [M.hasB, this]
    rw [hb]
    clear hb
    go_enter Tryd.func22, Tryd.ntmps22
    go_wp2
    go_ret
    exact ⟨rfl, rfl⟩

set_option maxHeartbeats 1000000 in
theorem power_any (k : Int) (w : World) (h1 : 0 ≤ k) (h2 : k < 7) : Calls Tryd.prog 32 #[.int .i64 k] w fun e w' => e = .returned (.int .i64 (M.pw k.toNat)) ∧ w = w' := by
  go_enter Tryd.func32, Tryd.ntmps32
  go_wp2
  go_loop [3, 4] (fun n i => ∃ j : Nat, (j : Int) ≤ k ∧ i = .int .i64 j ∧ n = .int .i64 (M.pw j)) (fun _ i => k.toNat - (intOf i).toNat)
  case atStart => exact ⟨0, by omega, rfl, rfl⟩
  case round =>
    obtain ⟨j, hj, rfl, rfl⟩ := hrel
    obtain ⟨hu1, hu2⟩ := M.pw_bd j (by omega)
    by_cases hlt : (j : Int) < k
    · have HS := Lib.hid (M.pw_succ j)
      go_wp2
      go_round
      case rel => exact ⟨j + 1, by omega, by go_num, by rw [← HS.out]⟩
      case measure => simp [intOf]; omega
    · have HJ := Lib.hid (show k.toNat = j by omega)
      go_wp2
      go_ret
      exact ⟨ret_int (by rw [HJ.out]), rfl⟩

set_option maxHeartbeats 1000000 in
theorem refWith_any (s k : Int) (w : World) (b1 : -9223372036854775808 ≤ s) (b2 : s < 9223372036854775808) :
    Calls Tryd.prog 24 #[.int .i64 s, .int .i64 k] w fun e w' => e = .returned (.int .i64 (M.withOf s k)) ∧ w = w' := by
  cases hr : M.repB k
  · rw [M.with_not s k hr]
    have hk : ¬ (0 ≤ k ∧ k < 7) := fun h => by rw [M.rep_iff.2 h] at hr; cases hr
    clear hr b1 b2
    by_cases h1 : 0 ≤ k
    · have h2 : 6 < k := by omega
      clear hk
      go_enter Tryd.func24, Tryd.ntmps24
      go_wp2
      go_ret
      exact ⟨rfl, rfl⟩
    · clear hk
      go_enter Tryd.func24, Tryd.ntmps24
      go_wp2
      go_ret
      exact ⟨rfl, rfl⟩
  · obtain ⟨h1, h2⟩ := M.rep_iff.1 hr
    cases hb : M.hasB s k
    · have HW := Lib.hid (M.with_new s k hr hb)
      clear hr b1 b2
      go_enter Tryd.func24, Tryd.ntmps24
      go_wp2_with (first
        | (go_at_call 22; refine (refHas_any _ _ _).mono ?_; rintro e w' ⟨rfl, rfl⟩)
        | (go_at_call 32; refine (power_any _ _ (by omega) (by omega)).mono ?_; rintro e w' ⟨rfl, rfl⟩))
      go_ret
      exact ⟨ret_int (by rw [HW.out, wrap_eq]), rfl⟩
    · rw [M.with_had s k hr hb b1 b2]
      clear hr b1 b2
      go_enter Tryd.func24, Tryd.ntmps24
      go_wp2_with (go_at_call 22; refine (refHas_any _ _ _).mono ?_; rintro e w' ⟨rfl, rfl⟩)
      go_ret
      exact ⟨rfl, rfl⟩

set_option maxHeartbeats 1000000 in
theorem refWithout_any (s k : Int) (w : World) (b1 : -9223372036854775808 ≤ s) (b2 : s < 9223372036854775808) :
    Calls Tryd.prog 26 #[.int .i64 s, .int .i64 k] w fun e w' => e = .returned (.int .i64 (M.withoutOf s k)) ∧ w = w' := by
  cases hb : M.hasB s k
  · rw [M.without_new s k hb b1 b2]
    clear b1 b2
    go_enter Tryd.func26, Tryd.ntmps26
    go_wp2_with (go_at_call 22; refine (refHas_any _ _ _).mono ?_; rintro e w' ⟨rfl, rfl⟩)
    go_ret
    exact ⟨rfl, rfl⟩
  · obtain ⟨h1, h2⟩ := M.has_small s k hb
    have HW := Lib.hid (M.without_had s k (M.rep_iff.2 ⟨h1, h2⟩) hb)
    clear b1 b2
    go_enter Tryd.func26, Tryd.ntmps26
    go_wp2_with (first
      | (go_at_call 22; refine (refHas_any _ _ _).mono ?_; rintro e w' ⟨rfl, rfl⟩)
      | (go_at_call 32; refine (power_any _ _ (by omega) (by omega)).mono ?_; rintro e w' ⟨rfl, rfl⟩))
    go_ret
    exact ⟨ret_int (by rw [HW.out, wrap_eq]), rfl⟩

set_option maxHeartbeats 1000000 in
theorem refMembers_any (s : Int) (w : World) : Calls Tryd.prog 20 #[.int .i64 s] w (Lists s w) := by
  obtain ⟨i0, hi, hz0, hz1, hz2⟩ := info_parts info3
  go_enter Tryd.func20, Tryd.ntmps20
  go_wp2
  go_loopw [3, 4] (fun v i wr => ∃ k : Nat, k ≤ 7 ∧ i = .int .i64 k ∧ wr.ownsRow w.heap.size 3 1 v (M.mem s k).length ((M.mem s k).map (Value.int .i64)) ∧ Below w.heap.size w wr)
    (fun _ i _ => 7 - (intOf i).toNat)
  case atStart => exact ⟨0, Nat.zero_le _, rfl, World.ownsRow_nil _ _ _ _, Below.refl _ _⟩
  case round =>
    obtain ⟨k, hk, rfl, hown, hnx⟩ := hrel
    by_cases hlt : k < 7
    · cases hb : M.hasB s (k : Int)
      · have HZ := Lib.hid (M.has_bt0 s k hlt hb)
        go_wp2_with (go_at_call 22; refine (refHas_any _ _ _).mono ?_; rintro e w' ⟨rfl, rfl⟩)
        go_roundw
        case rel => exact ⟨k + 1, by omega, by go_num, by rw [M.mem_miss s k HZ.out]; exact hown, hnx⟩
        case measure => simp [intOf]; omega
      · have HZ := Lib.hid (M.has_bt s k hlt hb)
        have hle := M.mem_le s k
        go_wp2_with (first
          | (at_builtin; refine wpList_append_own _ rfl _ _ 25 rfl w.heap.size 3 i0 (.int .i64 0) 1 8 Tryd.underlying25 hi hz0 hz1 hz2 rfl (by decide) _ _ _ rfl (hown.alloc _) ⟨wr.heap.size, 0, none⟩ 1 1 [.int .i64 (k : Int)] rfl rfl ?c1 ?c2 ?c3 ?c4 ?c5 ?_)
          | (go_at_call 22; refine (refHas_any _ _ _).mono ?_; rintro e w' ⟨rfl, rfl⟩))
        case c1 =>
          intro j u hj
          match j, hj with
          | 0, hj => simp at hj; subst hj; simp [Addr.add]
        case c2 => intro u hu; simp at hu; subst hu; rfl
        case c3 => unfold maxLen; omega
        case c4 => omega
        case c5 => have := hnx.size; simp; omega
        · intro v' w1 hown' hgrow _
          have R := rel_keep HZ.out hnx.size hown hnx hown' hgrow
          clear hown' hgrow hown
          go_wp2
          go_roundw
          case rel => exact ⟨k + 1, by omega, by go_num, R.1, R.2⟩
          case measure => simp [intOf]; omega
    · obtain rfl : k = 7 := by omega
      go_wp2
      go_ret
      exact ⟨_, rfl, hown, hnx⟩

set_option maxHeartbeats 1000000 in
theorem refMajor_n (f s : Int) (N : Nat) (w : World) (hN : N ≤ 7) (hs : M.sizeOf f = (N : Int)) (hm : M.majB f s = (decide ((0 : Int) < (N : Int)) && decide (M.slowOf f ≤ M.cntTo s N))) :
    Calls Tryd.prog 29 #[.int .i64 f, .int .i64 s] w fun e w' => e = .returned (.bool (M.majB f s)) ∧ w = w' := by
  have hsz : ∀ w, Calls Tryd.prog 13 #[.int .i64 f] w fun e w' => e = .returned (.int .i64 (N : Int)) ∧ w = w' := by
    intro w; rw [← hs]; exact refSize_any f w
  have HZ := Lib.hid hsz
  have HM := Lib.hid hm
  clear hsz hs hm
  go_enter Tryd.func29, Tryd.ntmps29
  go_wp2
  go_loop [5, 6] (fun n i => ∃ k : Nat, k ≤ N ∧ i = .int .i64 k ∧ n = .int .i64 (M.cntTo s k)) (fun _ i => N - (intOf i).toNat)
  case atStart => exact ⟨0, Nat.zero_le _, rfl, rfl⟩
  case round =>
    obtain ⟨k, hk, rfl, rfl⟩ := hrel
    have hd := M.cntTo_bd s k
    by_cases hlt : k < N
    · have HS := Lib.hid (show M.cntTo s (k + 1) = M.cntTo s k + M.bt s k from rfl)
      cases hb : M.hasB s (k : Int)
      · have HB := Lib.hid (M.has_bt0 s k (by omega) hb)
        go_wp2_with (first
          | (go_at_call 13; refine (HZ.out _).mono ?_; rintro e w' ⟨rfl, rfl⟩)
          | (go_at_call 22; refine (refHas_any _ _ _).mono ?_; rintro e w' ⟨rfl, rfl⟩))
        go_round
        case rel => exact ⟨k + 1, by omega, by go_num, by rw [HS.out, HB.out]; go_num⟩
        case measure => simp [intOf]; omega
      · have HB := Lib.hid (M.has_bt s k (by omega) hb)
        go_wp2_with (first
          | (go_at_call 13; refine (HZ.out _).mono ?_; rintro e w' ⟨rfl, rfl⟩)
          | (go_at_call 22; refine (refHas_any _ _ _).mono ?_; rintro e w' ⟨rfl, rfl⟩))
        go_round
        case rel => exact ⟨k + 1, by omega, by go_num, by rw [HS.out, HB.out]⟩
        case measure => simp [intOf]; omega
    · obtain rfl : k = N := by omega
      by_cases h0 : 0 < k
      · have HD := Lib.hid (show decide ((0 : Int) < (k : Int)) = true by simpa using h0)
        go_wp2_with (first
          | (go_at_call 13; refine (HZ.out _).mono ?_; rintro e w' ⟨rfl, rfl⟩)
          | (go_at_call 14; refine (refSlow_any _ _).mono ?_; rintro e w' ⟨rfl, rfl⟩))
        go_ret
        exact ⟨ret_bool (by rw [HM.out, HD.out, Bool.true_and]), rfl⟩
      · have HD := Lib.hid (show decide ((0 : Int) < (k : Int)) = false by simpa using h0)
        go_wp2_with (first
          | (go_at_call 13; refine (HZ.out _).mono ?_; rintro e w' ⟨rfl, rfl⟩)
          | (go_at_call 14; refine (refSlow_any _ _).mono ?_; rintro e w' ⟨rfl, rfl⟩))
        go_ret
        exact ⟨ret_bool (by rw [HM.out, HD.out, Bool.false_and]), rfl⟩

theorem refMajor_any (f s : Int) (w : World) :
    Calls Tryd.prog 29 #[.int .i64 f, .int .i64 s] w fun e w' => e = .returned (.bool (M.majB f s)) ∧ w = w' := by
  rcases four f with rfl | rfl | rfl | ⟨h1, _, _, _, h5⟩
  · exact refMajor_n 1 s 3 w (by decide) rfl (by unfold M.majB; rw [M.cnt_low 1 s 3 (by decide)]; rfl)
  · exact refMajor_n 2 s 5 w (by decide) rfl (by unfold M.majB; rw [M.cnt_low 2 s 5 (by decide)]; rfl)
  · exact refMajor_n 3 s 7 w (by decide) rfl (by unfold M.majB; rw [M.cnt_low 3 s 7 (by decide)]; rfl)
  · exact refMajor_n f s 0 w (by decide) h1 (by unfold M.majB; rw [h5]; rfl)
end Go.Proofs.YtglnpdcmaamcfaaDoor
