/- Contracts of the document's tail and first; no conditions but that there is a byte. -/
import Derived.Test.YtacieiddhkkahaaWalks
import Derived.Deep.QuietTactic
import Derived.BigQuiet
namespace Go.Proofs.Ytacieiddhkkahaa
open Go.RowKit

theorem below_drewN {a w : World} (h : Below a.heap.size a w) (n : Nat) : Below a.heap.size a (w.drewN n) := ⟨h.os, h.tape, h.output, h.size, h.block⟩

namespace M
/-- A byte as a number. -/
def bt (s : ByteArray) (k : Nat) : Nat := (s.get! k).toNat
theorem bt_at (s : ByteArray) (k : Nat) (h : k < s.size) : (s[k]'h).toNat = bt s k := by
  unfold bt
  have := get_at s k h
  rw [Nat.add_zero] at this
  rw [this]
def tailB (s : ByteArray) (i lo hi : Int) : Bool := decide (i.toNat < s.size) && decide (lo ≤ (bt s i.toNat : Int)) && decide ((bt s i.toNat : Int) ≤ hi)
theorem tailB_iff {s : ByteArray} {k : Nat} {lo hi : Int} : tailB s k lo hi = true ↔ k < s.size ∧ lo ≤ (bt s k : Int) ∧ (bt s k : Int) ≤ hi := by simp only [tailB, Int.toNat_natCast, Bool.and_eq_true, decide_eq_true_eq, and_assoc]
theorem tailB_no {s : ByteArray} {k : Nat} {lo hi : Int} (h : ¬ (k < s.size ∧ lo ≤ (bt s k : Int) ∧ (bt s k : Int) ≤ hi)) : tailB s k lo hi = false := by
  cases e : tailB s k lo hi
  · rfl
  · exact absurd (tailB_iff.1 e) h
theorem tailB_not {s : ByteArray} {k : Nat} {lo hi : Int} (h : tailB s k lo hi = false) : ¬ (k < s.size ∧ lo ≤ (bt s k : Int) ∧ (bt s k : Int) ≤ hi) := fun h' => by
  rw [tailB_iff.2 h'] at h; cases h
theorem bt_lt (s : ByteArray) (k : Nat) : bt s k < 256 := (s.get! k).toNat_lt
/-- What stands at the beginning of n bytes a, b, c, d, ... -/
def D (n a b c d : Nat) : Nat × Nat :=
  if a < 128 then (a, 1)
  else if a / 32 = 6 ∧ 1 < n ∧ b / 64 = 2 then
    if 128 ≤ a % 32 * 64 + b % 64 then (a % 32 * 64 + b % 64, 2) else (65533, 1)
  else if a / 16 = 14 ∧ (1 < n ∧ b / 64 = 2) ∧ 2 < n ∧ c / 64 = 2 then
    if 2048 ≤ a % 16 * 4096 + b % 64 * 64 + c % 64 ∧ (a % 16 * 4096 + b % 64 * 64 + c % 64 < 55296 ∨ 57344 ≤ a % 16 * 4096 + b % 64 * 64 + c % 64 ∧ a % 16 * 4096 + b % 64 * 64 + c % 64 ≤ 1114111) then (a % 16 * 4096 + b % 64 * 64 + c % 64, 3) else (65533, 1)
  else if a / 8 = 30 ∧ (1 < n ∧ b / 64 = 2) ∧ (2 < n ∧ c / 64 = 2) ∧ 3 < n ∧ d / 64 = 2 then
    if 65536 ≤ a % 8 * 262144 + b % 64 * 4096 + c % 64 * 64 + d % 64 ∧ (a % 8 * 262144 + b % 64 * 4096 + c % 64 * 64 + d % 64 < 55296 ∨ 57344 ≤ a % 8 * 262144 + b % 64 * 4096 + c % 64 * 64 + d % 64 ∧ a % 8 * 262144 + b % 64 * 4096 + c % 64 * 64 + d % 64 ≤ 1114111) then (a % 8 * 262144 + b % 64 * 4096 + c % 64 * 64 + d % 64, 4) else (65533, 1)
  else (65533, 1)
theorem valid_eq (c : Nat) : (Utf8.valid (c : Int) = true) = (c < 55296 ∨ 57344 ≤ c ∧ c ≤ 1114111) := by
  unfold Utf8.valid
  rw [Bool.or_eq_true, Bool.and_eq_true, Bool.and_eq_true, decide_eq_true_eq, decide_eq_true_eq, decide_eq_true_eq, decide_eq_true_eq]
  exact propext (by omega)
theorem dz (s : ByteArray) : Utf8.decode s 0 = D s.size (bt s 0) (bt s 1) (bt s 2) (bt s 3) := by
  have he : Utf8.runeError = 65533 := rfl
  unfold Utf8.decode D bt
  simp only [Nat.zero_add, Bool.and_eq_true, beq_iff_eq, decide_eq_true_eq, ge_iff_le, and_assoc, valid_eq, he]
end M

theorem ret_two {a b c d : Int} (h : a = b) (k : c = d) : Ending.returned (.tuple #[.int .i64 a, .int .i64 c]) = .returned (.tuple #[.int .i64 b, .int .i64 d]) := by rw [h, k]

set_option maxHeartbeats 400000 in
theorem tail_any (s : ByteArray) (i lo hi : Int) (w : World) (h0 : 0 ≤ i) : Calls Try.prog 84 #[.string s, .int .i64 i, .int .i64 lo, .int .i64 hi] w fun e w' => e = .returned (.bool (M.tailB s i lo hi)) ∧ w = w' := by
  obtain ⟨k, rfl⟩ : ∃ k : Nat, i = (k : Int) := ⟨i.toNat, by omega⟩
  clear h0
  by_cases h1 : k < s.size
  · have hb := M.bt_at s k h1
    have hb1 := M.bt_lt s k
    have hi0 : (k : Int) < s.size := by omega
    by_cases h2 : lo ≤ (M.bt s k : Int)
    · go_enter Try.func84, Try.ntmps84
      go_wp2
      go_ret
      exact ⟨ret_bool (by rw [Bool.eq_iff_iff, M.tailB_iff, decide_eq_true_eq]; omega), rfl⟩
    · go_enter Try.func84, Try.ntmps84
      go_wp2
      go_ret
      exact ⟨ret_bool (M.tailB_no (by omega)).symm, rfl⟩
  · go_enter Try.func84, Try.ntmps84
    go_wp2
    go_ret
    exact ⟨ret_bool (M.tailB_no (by omega)).symm, rfl⟩

/-- What first tells. -/
def Told (s : ByteArray) (w : World) (e : Ending) (w' : World) : Prop := e = .returned (.tuple #[.int .i64 (M.rn s 0 : Nat), .int .i64 (M.wd s 0 : Nat)]) ∧ Below w.heap.size w w'
theorem told {s : ByteArray} {w w' : World} {a b : Nat} (hd : Utf8.decode s 0 = (a, b)) (hb : Below w.heap.size w w') : Told s w (.returned (.tuple #[.int .i64 (a : Nat), .int .i64 (b : Nat)])) w' := by
  unfold Told M.rn M.wd
  rw [hd]
  exact ⟨rfl, hb⟩

set_option maxHeartbeats 1000000 in
set_option maxRecDepth 100000 in
theorem first_a (s : ByteArray) (w : World) (h : 0 < s.size) (h0 : M.bt s 0 < 128)  : Calls Try.prog 71 #[.string s] w (Told s w) := by
  have e0 := M.bt_at s 0 h
  have g0 := M.bt_lt s 0
  have hd : Utf8.decode s 0 = (M.bt s 0, 1) := by
    rw [M.dz]
    unfold M.D
    clear e0
    generalize M.bt s 0 = a at *
    generalize M.bt s 1 = b at *
    generalize M.bt s 2 = c at *
    generalize M.bt s 3 = d at *
    generalize s.size = n at *
    repeat' split
    all_goals first | (exfalso; omega) | (refine Prod.ext ?_ rfl; (try dsimp only); omega) | rfl
  have HD := Lib.hid hd
  clear hd
  go_enter Try.func71, Try.ntmps71
  go_wp2_with (go_at_call 84; refine (tail_any s _ _ _ _ (by omega)).mono ?_; rintro e w' ⟨rfl, rfl⟩)
  go_ret2
  refine Eq.mp (congrArg (fun z => Told s w z _) (ret_two ?_ ?_)) (told HD.out (Below.refl _ _))
  · omega
  · omega

set_option maxHeartbeats 1000000 in
set_option maxRecDepth 100000 in
theorem first_b (s : ByteArray) (w : World) (h : 0 < s.size) (h0 : 128 ≤ M.bt s 0) (h1 : M.bt s 0 < 194)  : Calls Try.prog 71 #[.string s] w (Told s w) := by
  have e0 := M.bt_at s 0 h
  have g0 := M.bt_lt s 0
  have hd : Utf8.decode s 0 = (65533, 1) := by
    rw [M.dz]
    unfold M.D
    clear e0
    generalize M.bt s 0 = a at *
    generalize M.bt s 1 = b at *
    generalize M.bt s 2 = c at *
    generalize M.bt s 3 = d at *
    generalize s.size = n at *
    repeat' split
    all_goals first | (exfalso; omega) | (refine Prod.ext ?_ rfl; (try dsimp only); omega) | rfl
  have HD := Lib.hid hd
  clear hd
  go_enter Try.func71, Try.ntmps71
  go_wp2_with (go_at_call 84; refine (tail_any s _ _ _ _ (by omega)).mono ?_; rintro e w' ⟨rfl, rfl⟩)
  go_ret2
  refine Eq.mp (congrArg (fun z => Told s w z _) (ret_two ?_ ?_)) (told HD.out (Below.refl _ _))
  · omega
  · omega

set_option maxHeartbeats 1000000 in
set_option maxRecDepth 100000 in
theorem first_c1 (s : ByteArray) (w : World) (h : 0 < s.size) (h0 : 194 ≤ M.bt s 0) (h1 : M.bt s 0 ≤ 223) (t0 : M.tailB s 1 128 191 = true) : Calls Try.prog 71 #[.string s] w (Told s w) := by
  have e0 := M.bt_at s 0 h
  have g0 := M.bt_lt s 0
  obtain ⟨s0, l0, u0⟩ := M.tailB_iff (k := 1).1 t0
  have hd : Utf8.decode s 0 = ((M.bt s 0 - 192) * 64 + (M.bt s 1 - 128), 2) := by
    rw [M.dz]
    unfold M.D
    clear e0
    generalize M.bt s 0 = a at *
    generalize M.bt s 1 = b at *
    generalize M.bt s 2 = c at *
    generalize M.bt s 3 = d at *
    generalize s.size = n at *
    repeat' split
    all_goals first | (exfalso; omega) | (refine Prod.ext ?_ rfl; (try dsimp only); omega) | rfl
  have HD := Lib.hid hd
  clear hd
  have e1 := M.bt_at s 1 s0
  have g1 := M.bt_lt s 1
  go_enter Try.func71, Try.ntmps71
  go_wp2_with (go_at_call 84; refine (tail_any s _ _ _ _ (by omega)).mono ?_; rintro e w' ⟨rfl, rfl⟩)
  go_ret2
  refine Eq.mp (congrArg (fun z => Told s w z _) (ret_two ?_ ?_)) (told HD.out (Below.refl _ _))
  · omega
  · omega

set_option maxHeartbeats 1000000 in
set_option maxRecDepth 100000 in
theorem first_c0 (s : ByteArray) (w : World) (h : 0 < s.size) (h0 : 194 ≤ M.bt s 0) (h1 : M.bt s 0 ≤ 223) (t0 : M.tailB s 1 128 191 = false) : Calls Try.prog 71 #[.string s] w (Told s w) := by
  have e0 := M.bt_at s 0 h
  have g0 := M.bt_lt s 0
  have n0 := M.tailB_not (k := 1) t0
  have hd : Utf8.decode s 0 = (65533, 1) := by
    rw [M.dz]
    unfold M.D
    clear e0
    generalize M.bt s 0 = a at *
    generalize M.bt s 1 = b at *
    generalize M.bt s 2 = c at *
    generalize M.bt s 3 = d at *
    generalize s.size = n at *
    repeat' split
    all_goals first | (exfalso; omega) | (refine Prod.ext ?_ rfl; (try dsimp only); omega) | rfl
  have HD := Lib.hid hd
  clear hd
  clear n0
  go_enter Try.func71, Try.ntmps71
  go_wp2_with (go_at_call 84; refine (tail_any s _ _ _ _ (by omega)).mono ?_; rintro e w' ⟨rfl, rfl⟩)
  go_ret2
  refine Eq.mp (congrArg (fun z => Told s w z _) (ret_two ?_ ?_)) (told HD.out (Below.refl _ _))
  · omega
  · omega

set_option maxHeartbeats 1000000 in
set_option maxRecDepth 100000 in
theorem first_d2 (s : ByteArray) (w : World) (h : 0 < s.size) (h0 : M.bt s 0 = 224) (t0 : M.tailB s 1 160 191 = true) (t1 : M.tailB s 2 128 191 = true) : Calls Try.prog 71 #[.string s] w (Told s w) := by
  have e0 := M.bt_at s 0 h
  have g0 := M.bt_lt s 0
  obtain ⟨s0, l0, u0⟩ := M.tailB_iff (k := 1).1 t0
  obtain ⟨s1, l1, u1⟩ := M.tailB_iff (k := 2).1 t1
  have hd : Utf8.decode s 0 = ((M.bt s 0 - 224) * 4096 + (M.bt s 1 - 128) * 64 + (M.bt s 2 - 128), 3) := by
    rw [M.dz]
    unfold M.D
    clear e0
    generalize M.bt s 0 = a at *
    generalize M.bt s 1 = b at *
    generalize M.bt s 2 = c at *
    generalize M.bt s 3 = d at *
    generalize s.size = n at *
    repeat' split
    all_goals first | (exfalso; omega) | (refine Prod.ext ?_ rfl; (try dsimp only); omega) | rfl
  have HD := Lib.hid hd
  clear hd
  have e1 := M.bt_at s 1 s0
  have g1 := M.bt_lt s 1
  have e2 := M.bt_at s 2 s1
  have g2 := M.bt_lt s 2
  go_enter Try.func71, Try.ntmps71
  go_wp2_with (go_at_call 84; refine (tail_any s _ _ _ _ (by omega)).mono ?_; rintro e w' ⟨rfl, rfl⟩)
  go_quiet (fail)
  go_wp2
  go_ret2
  refine Eq.mp (congrArg (fun z => Told s w z _) (ret_two ?_ ?_)) (told HD.out (below_drewN (Below.refl _ _) _))
  · omega
  · omega

set_option maxHeartbeats 1000000 in
set_option maxRecDepth 100000 in
theorem first_d1 (s : ByteArray) (w : World) (h : 0 < s.size) (h0 : M.bt s 0 = 224) (t0 : M.tailB s 1 160 191 = true) (t1 : M.tailB s 2 128 191 = false) : Calls Try.prog 71 #[.string s] w (Told s w) := by
  have e0 := M.bt_at s 0 h
  have g0 := M.bt_lt s 0
  obtain ⟨s0, l0, u0⟩ := M.tailB_iff (k := 1).1 t0
  have n1 := M.tailB_not (k := 2) t1
  have hd : Utf8.decode s 0 = (65533, 1) := by
    rw [M.dz]
    unfold M.D
    clear e0
    generalize M.bt s 0 = a at *
    generalize M.bt s 1 = b at *
    generalize M.bt s 2 = c at *
    generalize M.bt s 3 = d at *
    generalize s.size = n at *
    repeat' split
    all_goals first | (exfalso; omega) | (refine Prod.ext ?_ rfl; (try dsimp only); omega) | rfl
  have HD := Lib.hid hd
  clear hd
  have e1 := M.bt_at s 1 s0
  have g1 := M.bt_lt s 1
  clear n1
  go_enter Try.func71, Try.ntmps71
  go_wp2_with (go_at_call 84; refine (tail_any s _ _ _ _ (by omega)).mono ?_; rintro e w' ⟨rfl, rfl⟩)
  go_ret2
  refine Eq.mp (congrArg (fun z => Told s w z _) (ret_two ?_ ?_)) (told HD.out (Below.refl _ _))
  · omega
  · omega

set_option maxHeartbeats 1000000 in
set_option maxRecDepth 100000 in
theorem first_d0 (s : ByteArray) (w : World) (h : 0 < s.size) (h0 : M.bt s 0 = 224) (t0 : M.tailB s 1 160 191 = false) : Calls Try.prog 71 #[.string s] w (Told s w) := by
  have e0 := M.bt_at s 0 h
  have g0 := M.bt_lt s 0
  have n0 := M.tailB_not (k := 1) t0
  have hd : Utf8.decode s 0 = (65533, 1) := by
    rw [M.dz]
    unfold M.D
    clear e0
    generalize M.bt s 0 = a at *
    generalize M.bt s 1 = b at *
    generalize M.bt s 2 = c at *
    generalize M.bt s 3 = d at *
    generalize s.size = n at *
    repeat' split
    all_goals first | (exfalso; omega) | (refine Prod.ext ?_ rfl; (try dsimp only); omega) | rfl
  have HD := Lib.hid hd
  clear hd
  clear n0
  go_enter Try.func71, Try.ntmps71
  go_wp2_with (go_at_call 84; refine (tail_any s _ _ _ _ (by omega)).mono ?_; rintro e w' ⟨rfl, rfl⟩)
  go_ret2
  refine Eq.mp (congrArg (fun z => Told s w z _) (ret_two ?_ ?_)) (told HD.out (Below.refl _ _))
  · omega
  · omega

set_option maxHeartbeats 1000000 in
set_option maxRecDepth 100000 in
theorem first_e2 (s : ByteArray) (w : World) (h : 0 < s.size) (h0 : M.bt s 0 = 237) (t0 : M.tailB s 1 128 159 = true) (t1 : M.tailB s 2 128 191 = true) : Calls Try.prog 71 #[.string s] w (Told s w) := by
  have e0 := M.bt_at s 0 h
  have g0 := M.bt_lt s 0
  obtain ⟨s0, l0, u0⟩ := M.tailB_iff (k := 1).1 t0
  obtain ⟨s1, l1, u1⟩ := M.tailB_iff (k := 2).1 t1
  have hd : Utf8.decode s 0 = ((M.bt s 0 - 224) * 4096 + (M.bt s 1 - 128) * 64 + (M.bt s 2 - 128), 3) := by
    rw [M.dz]
    unfold M.D
    clear e0
    generalize M.bt s 0 = a at *
    generalize M.bt s 1 = b at *
    generalize M.bt s 2 = c at *
    generalize M.bt s 3 = d at *
    generalize s.size = n at *
    repeat' split
    all_goals first | (exfalso; omega) | (refine Prod.ext ?_ rfl; (try dsimp only); omega) | rfl
  have HD := Lib.hid hd
  clear hd
  have e1 := M.bt_at s 1 s0
  have g1 := M.bt_lt s 1
  have e2 := M.bt_at s 2 s1
  have g2 := M.bt_lt s 2
  go_enter Try.func71, Try.ntmps71
  go_wp2_with (go_at_call 84; refine (tail_any s _ _ _ _ (by omega)).mono ?_; rintro e w' ⟨rfl, rfl⟩)
  go_quiet (fail)
  go_wp2
  go_ret2
  refine Eq.mp (congrArg (fun z => Told s w z _) (ret_two ?_ ?_)) (told HD.out (below_drewN (Below.refl _ _) _))
  · omega
  · omega

set_option maxHeartbeats 1000000 in
set_option maxRecDepth 100000 in
theorem first_e1 (s : ByteArray) (w : World) (h : 0 < s.size) (h0 : M.bt s 0 = 237) (t0 : M.tailB s 1 128 159 = true) (t1 : M.tailB s 2 128 191 = false) : Calls Try.prog 71 #[.string s] w (Told s w) := by
  have e0 := M.bt_at s 0 h
  have g0 := M.bt_lt s 0
  obtain ⟨s0, l0, u0⟩ := M.tailB_iff (k := 1).1 t0
  have n1 := M.tailB_not (k := 2) t1
  have hd : Utf8.decode s 0 = (65533, 1) := by
    rw [M.dz]
    unfold M.D
    clear e0
    generalize M.bt s 0 = a at *
    generalize M.bt s 1 = b at *
    generalize M.bt s 2 = c at *
    generalize M.bt s 3 = d at *
    generalize s.size = n at *
    repeat' split
    all_goals first | (exfalso; omega) | (refine Prod.ext ?_ rfl; (try dsimp only); omega) | rfl
  have HD := Lib.hid hd
  clear hd
  have e1 := M.bt_at s 1 s0
  have g1 := M.bt_lt s 1
  clear n1
  go_enter Try.func71, Try.ntmps71
  go_wp2_with (go_at_call 84; refine (tail_any s _ _ _ _ (by omega)).mono ?_; rintro e w' ⟨rfl, rfl⟩)
  go_ret2
  refine Eq.mp (congrArg (fun z => Told s w z _) (ret_two ?_ ?_)) (told HD.out (Below.refl _ _))
  · omega
  · omega

set_option maxHeartbeats 1000000 in
set_option maxRecDepth 100000 in
theorem first_e0 (s : ByteArray) (w : World) (h : 0 < s.size) (h0 : M.bt s 0 = 237) (t0 : M.tailB s 1 128 159 = false) : Calls Try.prog 71 #[.string s] w (Told s w) := by
  have e0 := M.bt_at s 0 h
  have g0 := M.bt_lt s 0
  have n0 := M.tailB_not (k := 1) t0
  have hd : Utf8.decode s 0 = (65533, 1) := by
    rw [M.dz]
    unfold M.D
    clear e0
    generalize M.bt s 0 = a at *
    generalize M.bt s 1 = b at *
    generalize M.bt s 2 = c at *
    generalize M.bt s 3 = d at *
    generalize s.size = n at *
    repeat' split
    all_goals first | (exfalso; omega) | (refine Prod.ext ?_ rfl; (try dsimp only); omega) | rfl
  have HD := Lib.hid hd
  clear hd
  clear n0
  go_enter Try.func71, Try.ntmps71
  go_wp2_with (go_at_call 84; refine (tail_any s _ _ _ _ (by omega)).mono ?_; rintro e w' ⟨rfl, rfl⟩)
  go_ret2
  refine Eq.mp (congrArg (fun z => Told s w z _) (ret_two ?_ ?_)) (told HD.out (Below.refl _ _))
  · omega
  · omega

set_option maxHeartbeats 1000000 in
set_option maxRecDepth 100000 in
theorem first_f2 (s : ByteArray) (w : World) (h : 0 < s.size) (h0 : 225 ≤ M.bt s 0) (h1 : M.bt s 0 ≤ 239) (h2 : M.bt s 0 ≠ 237) (t0 : M.tailB s 1 128 191 = true) (t1 : M.tailB s 2 128 191 = true) : Calls Try.prog 71 #[.string s] w (Told s w) := by
  have e0 := M.bt_at s 0 h
  have g0 := M.bt_lt s 0
  obtain ⟨s0, l0, u0⟩ := M.tailB_iff (k := 1).1 t0
  obtain ⟨s1, l1, u1⟩ := M.tailB_iff (k := 2).1 t1
  have hd : Utf8.decode s 0 = ((M.bt s 0 - 224) * 4096 + (M.bt s 1 - 128) * 64 + (M.bt s 2 - 128), 3) := by
    rw [M.dz]
    unfold M.D
    clear e0
    generalize M.bt s 0 = a at *
    generalize M.bt s 1 = b at *
    generalize M.bt s 2 = c at *
    generalize M.bt s 3 = d at *
    generalize s.size = n at *
    repeat' split
    all_goals first | (exfalso; omega) | (refine Prod.ext ?_ rfl; (try dsimp only); omega) | rfl
  have HD := Lib.hid hd
  clear hd
  have e1 := M.bt_at s 1 s0
  have g1 := M.bt_lt s 1
  have e2 := M.bt_at s 2 s1
  have g2 := M.bt_lt s 2
  go_enter Try.func71, Try.ntmps71
  go_wp2_with (go_at_call 84; refine (tail_any s _ _ _ _ (by omega)).mono ?_; rintro e w' ⟨rfl, rfl⟩)
  go_quiet (fail)
  go_wp2
  go_ret2
  refine Eq.mp (congrArg (fun z => Told s w z _) (ret_two ?_ ?_)) (told HD.out (below_drewN (Below.refl _ _) _))
  · omega
  · omega

set_option maxHeartbeats 1000000 in
set_option maxRecDepth 100000 in
theorem first_f1 (s : ByteArray) (w : World) (h : 0 < s.size) (h0 : 225 ≤ M.bt s 0) (h1 : M.bt s 0 ≤ 239) (h2 : M.bt s 0 ≠ 237) (t0 : M.tailB s 1 128 191 = true) (t1 : M.tailB s 2 128 191 = false) : Calls Try.prog 71 #[.string s] w (Told s w) := by
  have e0 := M.bt_at s 0 h
  have g0 := M.bt_lt s 0
  obtain ⟨s0, l0, u0⟩ := M.tailB_iff (k := 1).1 t0
  have n1 := M.tailB_not (k := 2) t1
  have hd : Utf8.decode s 0 = (65533, 1) := by
    rw [M.dz]
    unfold M.D
    clear e0
    generalize M.bt s 0 = a at *
    generalize M.bt s 1 = b at *
    generalize M.bt s 2 = c at *
    generalize M.bt s 3 = d at *
    generalize s.size = n at *
    repeat' split
    all_goals first | (exfalso; omega) | (refine Prod.ext ?_ rfl; (try dsimp only); omega) | rfl
  have HD := Lib.hid hd
  clear hd
  have e1 := M.bt_at s 1 s0
  have g1 := M.bt_lt s 1
  clear n1
  go_enter Try.func71, Try.ntmps71
  go_wp2_with (go_at_call 84; refine (tail_any s _ _ _ _ (by omega)).mono ?_; rintro e w' ⟨rfl, rfl⟩)
  go_ret2
  refine Eq.mp (congrArg (fun z => Told s w z _) (ret_two ?_ ?_)) (told HD.out (Below.refl _ _))
  · omega
  · omega

set_option maxHeartbeats 1000000 in
set_option maxRecDepth 100000 in
theorem first_f0 (s : ByteArray) (w : World) (h : 0 < s.size) (h0 : 225 ≤ M.bt s 0) (h1 : M.bt s 0 ≤ 239) (h2 : M.bt s 0 ≠ 237) (t0 : M.tailB s 1 128 191 = false) : Calls Try.prog 71 #[.string s] w (Told s w) := by
  have e0 := M.bt_at s 0 h
  have g0 := M.bt_lt s 0
  have n0 := M.tailB_not (k := 1) t0
  have hd : Utf8.decode s 0 = (65533, 1) := by
    rw [M.dz]
    unfold M.D
    clear e0
    generalize M.bt s 0 = a at *
    generalize M.bt s 1 = b at *
    generalize M.bt s 2 = c at *
    generalize M.bt s 3 = d at *
    generalize s.size = n at *
    repeat' split
    all_goals first | (exfalso; omega) | (refine Prod.ext ?_ rfl; (try dsimp only); omega) | rfl
  have HD := Lib.hid hd
  clear hd
  clear n0
  go_enter Try.func71, Try.ntmps71
  go_wp2_with (go_at_call 84; refine (tail_any s _ _ _ _ (by omega)).mono ?_; rintro e w' ⟨rfl, rfl⟩)
  go_ret2
  refine Eq.mp (congrArg (fun z => Told s w z _) (ret_two ?_ ?_)) (told HD.out (Below.refl _ _))
  · omega
  · omega

set_option maxHeartbeats 1000000 in
set_option maxRecDepth 100000 in
theorem first_g3 (s : ByteArray) (w : World) (h : 0 < s.size) (h0 : M.bt s 0 = 240) (t0 : M.tailB s 1 144 191 = true) (t1 : M.tailB s 2 128 191 = true) (t2 : M.tailB s 3 128 191 = true) : Calls Try.prog 71 #[.string s] w (Told s w) := by
  have e0 := M.bt_at s 0 h
  have g0 := M.bt_lt s 0
  obtain ⟨s0, l0, u0⟩ := M.tailB_iff (k := 1).1 t0
  obtain ⟨s1, l1, u1⟩ := M.tailB_iff (k := 2).1 t1
  obtain ⟨s2, l2, u2⟩ := M.tailB_iff (k := 3).1 t2
  have hd : Utf8.decode s 0 = ((M.bt s 0 - 240) * 262144 + (M.bt s 1 - 128) * 4096 + (M.bt s 2 - 128) * 64 + (M.bt s 3 - 128), 4) := by
    rw [M.dz]
    unfold M.D
    clear e0
    generalize M.bt s 0 = a at *
    generalize M.bt s 1 = b at *
    generalize M.bt s 2 = c at *
    generalize M.bt s 3 = d at *
    generalize s.size = n at *
    repeat' split
    all_goals first | (exfalso; omega) | (refine Prod.ext ?_ rfl; (try dsimp only); omega) | rfl
  have HD := Lib.hid hd
  clear hd
  have e1 := M.bt_at s 1 s0
  have g1 := M.bt_lt s 1
  have e2 := M.bt_at s 2 s1
  have g2 := M.bt_lt s 2
  have e3 := M.bt_at s 3 s2
  have g3 := M.bt_lt s 3
  go_enter Try.func71, Try.ntmps71
  go_wp2_with (go_at_call 84; refine (tail_any s _ _ _ _ (by omega)).mono ?_; rintro e w' ⟨rfl, rfl⟩)
  go_quiet (fail)
  go_wp2
  go_ret2
  refine Eq.mp (congrArg (fun z => Told s w z _) (ret_two ?_ ?_)) (told HD.out (below_drewN (Below.refl _ _) _))
  · omega
  · omega

set_option maxHeartbeats 1000000 in
set_option maxRecDepth 100000 in
theorem first_g2 (s : ByteArray) (w : World) (h : 0 < s.size) (h0 : M.bt s 0 = 240) (t0 : M.tailB s 1 144 191 = true) (t1 : M.tailB s 2 128 191 = true) (t2 : M.tailB s 3 128 191 = false) : Calls Try.prog 71 #[.string s] w (Told s w) := by
  have e0 := M.bt_at s 0 h
  have g0 := M.bt_lt s 0
  obtain ⟨s0, l0, u0⟩ := M.tailB_iff (k := 1).1 t0
  obtain ⟨s1, l1, u1⟩ := M.tailB_iff (k := 2).1 t1
  have n2 := M.tailB_not (k := 3) t2
  have hd : Utf8.decode s 0 = (65533, 1) := by
    rw [M.dz]
    unfold M.D
    clear e0
    generalize M.bt s 0 = a at *
    generalize M.bt s 1 = b at *
    generalize M.bt s 2 = c at *
    generalize M.bt s 3 = d at *
    generalize s.size = n at *
    repeat' split
    all_goals first | (exfalso; omega) | (refine Prod.ext ?_ rfl; (try dsimp only); omega) | rfl
  have HD := Lib.hid hd
  clear hd
  have e1 := M.bt_at s 1 s0
  have g1 := M.bt_lt s 1
  have e2 := M.bt_at s 2 s1
  have g2 := M.bt_lt s 2
  clear n2
  go_enter Try.func71, Try.ntmps71
  go_wp2_with (go_at_call 84; refine (tail_any s _ _ _ _ (by omega)).mono ?_; rintro e w' ⟨rfl, rfl⟩)
  go_ret2
  refine Eq.mp (congrArg (fun z => Told s w z _) (ret_two ?_ ?_)) (told HD.out (Below.refl _ _))
  · omega
  · omega

set_option maxHeartbeats 1000000 in
set_option maxRecDepth 100000 in
theorem first_g1 (s : ByteArray) (w : World) (h : 0 < s.size) (h0 : M.bt s 0 = 240) (t0 : M.tailB s 1 144 191 = true) (t1 : M.tailB s 2 128 191 = false) : Calls Try.prog 71 #[.string s] w (Told s w) := by
  have e0 := M.bt_at s 0 h
  have g0 := M.bt_lt s 0
  obtain ⟨s0, l0, u0⟩ := M.tailB_iff (k := 1).1 t0
  have n1 := M.tailB_not (k := 2) t1
  have hd : Utf8.decode s 0 = (65533, 1) := by
    rw [M.dz]
    unfold M.D
    clear e0
    generalize M.bt s 0 = a at *
    generalize M.bt s 1 = b at *
    generalize M.bt s 2 = c at *
    generalize M.bt s 3 = d at *
    generalize s.size = n at *
    repeat' split
    all_goals first | (exfalso; omega) | (refine Prod.ext ?_ rfl; (try dsimp only); omega) | rfl
  have HD := Lib.hid hd
  clear hd
  have e1 := M.bt_at s 1 s0
  have g1 := M.bt_lt s 1
  clear n1
  go_enter Try.func71, Try.ntmps71
  go_wp2_with (go_at_call 84; refine (tail_any s _ _ _ _ (by omega)).mono ?_; rintro e w' ⟨rfl, rfl⟩)
  go_ret2
  refine Eq.mp (congrArg (fun z => Told s w z _) (ret_two ?_ ?_)) (told HD.out (Below.refl _ _))
  · omega
  · omega

set_option maxHeartbeats 1000000 in
set_option maxRecDepth 100000 in
theorem first_g0 (s : ByteArray) (w : World) (h : 0 < s.size) (h0 : M.bt s 0 = 240) (t0 : M.tailB s 1 144 191 = false) : Calls Try.prog 71 #[.string s] w (Told s w) := by
  have e0 := M.bt_at s 0 h
  have g0 := M.bt_lt s 0
  have n0 := M.tailB_not (k := 1) t0
  have hd : Utf8.decode s 0 = (65533, 1) := by
    rw [M.dz]
    unfold M.D
    clear e0
    generalize M.bt s 0 = a at *
    generalize M.bt s 1 = b at *
    generalize M.bt s 2 = c at *
    generalize M.bt s 3 = d at *
    generalize s.size = n at *
    repeat' split
    all_goals first | (exfalso; omega) | (refine Prod.ext ?_ rfl; (try dsimp only); omega) | rfl
  have HD := Lib.hid hd
  clear hd
  clear n0
  go_enter Try.func71, Try.ntmps71
  go_wp2_with (go_at_call 84; refine (tail_any s _ _ _ _ (by omega)).mono ?_; rintro e w' ⟨rfl, rfl⟩)
  go_ret2
  refine Eq.mp (congrArg (fun z => Told s w z _) (ret_two ?_ ?_)) (told HD.out (Below.refl _ _))
  · omega
  · omega

set_option maxHeartbeats 1000000 in
set_option maxRecDepth 100000 in
theorem first_h3 (s : ByteArray) (w : World) (h : 0 < s.size) (h0 : M.bt s 0 = 244) (t0 : M.tailB s 1 128 143 = true) (t1 : M.tailB s 2 128 191 = true) (t2 : M.tailB s 3 128 191 = true) : Calls Try.prog 71 #[.string s] w (Told s w) := by
  have e0 := M.bt_at s 0 h
  have g0 := M.bt_lt s 0
  obtain ⟨s0, l0, u0⟩ := M.tailB_iff (k := 1).1 t0
  obtain ⟨s1, l1, u1⟩ := M.tailB_iff (k := 2).1 t1
  obtain ⟨s2, l2, u2⟩ := M.tailB_iff (k := 3).1 t2
  have hd : Utf8.decode s 0 = ((M.bt s 0 - 240) * 262144 + (M.bt s 1 - 128) * 4096 + (M.bt s 2 - 128) * 64 + (M.bt s 3 - 128), 4) := by
    rw [M.dz]
    unfold M.D
    clear e0
    generalize M.bt s 0 = a at *
    generalize M.bt s 1 = b at *
    generalize M.bt s 2 = c at *
    generalize M.bt s 3 = d at *
    generalize s.size = n at *
    repeat' split
    all_goals first | (exfalso; omega) | (refine Prod.ext ?_ rfl; (try dsimp only); omega) | rfl
  have HD := Lib.hid hd
  clear hd
  have e1 := M.bt_at s 1 s0
  have g1 := M.bt_lt s 1
  have e2 := M.bt_at s 2 s1
  have g2 := M.bt_lt s 2
  have e3 := M.bt_at s 3 s2
  have g3 := M.bt_lt s 3
  go_enter Try.func71, Try.ntmps71
  go_wp2_with (go_at_call 84; refine (tail_any s _ _ _ _ (by omega)).mono ?_; rintro e w' ⟨rfl, rfl⟩)
  go_quiet (fail)
  go_wp2
  go_ret2
  refine Eq.mp (congrArg (fun z => Told s w z _) (ret_two ?_ ?_)) (told HD.out (below_drewN (Below.refl _ _) _))
  · omega
  · omega

set_option maxHeartbeats 1000000 in
set_option maxRecDepth 100000 in
theorem first_h2 (s : ByteArray) (w : World) (h : 0 < s.size) (h0 : M.bt s 0 = 244) (t0 : M.tailB s 1 128 143 = true) (t1 : M.tailB s 2 128 191 = true) (t2 : M.tailB s 3 128 191 = false) : Calls Try.prog 71 #[.string s] w (Told s w) := by
  have e0 := M.bt_at s 0 h
  have g0 := M.bt_lt s 0
  obtain ⟨s0, l0, u0⟩ := M.tailB_iff (k := 1).1 t0
  obtain ⟨s1, l1, u1⟩ := M.tailB_iff (k := 2).1 t1
  have n2 := M.tailB_not (k := 3) t2
  have hd : Utf8.decode s 0 = (65533, 1) := by
    rw [M.dz]
    unfold M.D
    clear e0
    generalize M.bt s 0 = a at *
    generalize M.bt s 1 = b at *
    generalize M.bt s 2 = c at *
    generalize M.bt s 3 = d at *
    generalize s.size = n at *
    repeat' split
    all_goals first | (exfalso; omega) | (refine Prod.ext ?_ rfl; (try dsimp only); omega) | rfl
  have HD := Lib.hid hd
  clear hd
  have e1 := M.bt_at s 1 s0
  have g1 := M.bt_lt s 1
  have e2 := M.bt_at s 2 s1
  have g2 := M.bt_lt s 2
  clear n2
  go_enter Try.func71, Try.ntmps71
  go_wp2_with (go_at_call 84; refine (tail_any s _ _ _ _ (by omega)).mono ?_; rintro e w' ⟨rfl, rfl⟩)
  go_ret2
  refine Eq.mp (congrArg (fun z => Told s w z _) (ret_two ?_ ?_)) (told HD.out (Below.refl _ _))
  · omega
  · omega

set_option maxHeartbeats 1000000 in
set_option maxRecDepth 100000 in
theorem first_h1 (s : ByteArray) (w : World) (h : 0 < s.size) (h0 : M.bt s 0 = 244) (t0 : M.tailB s 1 128 143 = true) (t1 : M.tailB s 2 128 191 = false) : Calls Try.prog 71 #[.string s] w (Told s w) := by
  have e0 := M.bt_at s 0 h
  have g0 := M.bt_lt s 0
  obtain ⟨s0, l0, u0⟩ := M.tailB_iff (k := 1).1 t0
  have n1 := M.tailB_not (k := 2) t1
  have hd : Utf8.decode s 0 = (65533, 1) := by
    rw [M.dz]
    unfold M.D
    clear e0
    generalize M.bt s 0 = a at *
    generalize M.bt s 1 = b at *
    generalize M.bt s 2 = c at *
    generalize M.bt s 3 = d at *
    generalize s.size = n at *
    repeat' split
    all_goals first | (exfalso; omega) | (refine Prod.ext ?_ rfl; (try dsimp only); omega) | rfl
  have HD := Lib.hid hd
  clear hd
  have e1 := M.bt_at s 1 s0
  have g1 := M.bt_lt s 1
  clear n1
  go_enter Try.func71, Try.ntmps71
  go_wp2_with (go_at_call 84; refine (tail_any s _ _ _ _ (by omega)).mono ?_; rintro e w' ⟨rfl, rfl⟩)
  go_ret2
  refine Eq.mp (congrArg (fun z => Told s w z _) (ret_two ?_ ?_)) (told HD.out (Below.refl _ _))
  · omega
  · omega

set_option maxHeartbeats 1000000 in
set_option maxRecDepth 100000 in
theorem first_h0 (s : ByteArray) (w : World) (h : 0 < s.size) (h0 : M.bt s 0 = 244) (t0 : M.tailB s 1 128 143 = false) : Calls Try.prog 71 #[.string s] w (Told s w) := by
  have e0 := M.bt_at s 0 h
  have g0 := M.bt_lt s 0
  have n0 := M.tailB_not (k := 1) t0
  have hd : Utf8.decode s 0 = (65533, 1) := by
    rw [M.dz]
    unfold M.D
    clear e0
    generalize M.bt s 0 = a at *
    generalize M.bt s 1 = b at *
    generalize M.bt s 2 = c at *
    generalize M.bt s 3 = d at *
    generalize s.size = n at *
    repeat' split
    all_goals first | (exfalso; omega) | (refine Prod.ext ?_ rfl; (try dsimp only); omega) | rfl
  have HD := Lib.hid hd
  clear hd
  clear n0
  go_enter Try.func71, Try.ntmps71
  go_wp2_with (go_at_call 84; refine (tail_any s _ _ _ _ (by omega)).mono ?_; rintro e w' ⟨rfl, rfl⟩)
  go_ret2
  refine Eq.mp (congrArg (fun z => Told s w z _) (ret_two ?_ ?_)) (told HD.out (Below.refl _ _))
  · omega
  · omega

set_option maxHeartbeats 1000000 in
set_option maxRecDepth 100000 in
theorem first_i3 (s : ByteArray) (w : World) (h : 0 < s.size) (h0 : 241 ≤ M.bt s 0) (h1 : M.bt s 0 ≤ 243) (t0 : M.tailB s 1 128 191 = true) (t1 : M.tailB s 2 128 191 = true) (t2 : M.tailB s 3 128 191 = true) : Calls Try.prog 71 #[.string s] w (Told s w) := by
  have e0 := M.bt_at s 0 h
  have g0 := M.bt_lt s 0
  obtain ⟨s0, l0, u0⟩ := M.tailB_iff (k := 1).1 t0
  obtain ⟨s1, l1, u1⟩ := M.tailB_iff (k := 2).1 t1
  obtain ⟨s2, l2, u2⟩ := M.tailB_iff (k := 3).1 t2
  have hd : Utf8.decode s 0 = ((M.bt s 0 - 240) * 262144 + (M.bt s 1 - 128) * 4096 + (M.bt s 2 - 128) * 64 + (M.bt s 3 - 128), 4) := by
    rw [M.dz]
    unfold M.D
    clear e0
    generalize M.bt s 0 = a at *
    generalize M.bt s 1 = b at *
    generalize M.bt s 2 = c at *
    generalize M.bt s 3 = d at *
    generalize s.size = n at *
    repeat' split
    all_goals first | (exfalso; omega) | (refine Prod.ext ?_ rfl; (try dsimp only); omega) | rfl
  have HD := Lib.hid hd
  clear hd
  have e1 := M.bt_at s 1 s0
  have g1 := M.bt_lt s 1
  have e2 := M.bt_at s 2 s1
  have g2 := M.bt_lt s 2
  have e3 := M.bt_at s 3 s2
  have g3 := M.bt_lt s 3
  go_enter Try.func71, Try.ntmps71
  go_wp2_with (go_at_call 84; refine (tail_any s _ _ _ _ (by omega)).mono ?_; rintro e w' ⟨rfl, rfl⟩)
  go_quiet (fail)
  go_wp2
  go_ret2
  refine Eq.mp (congrArg (fun z => Told s w z _) (ret_two ?_ ?_)) (told HD.out (below_drewN (Below.refl _ _) _))
  · omega
  · omega

set_option maxHeartbeats 1000000 in
set_option maxRecDepth 100000 in
theorem first_i2 (s : ByteArray) (w : World) (h : 0 < s.size) (h0 : 241 ≤ M.bt s 0) (h1 : M.bt s 0 ≤ 243) (t0 : M.tailB s 1 128 191 = true) (t1 : M.tailB s 2 128 191 = true) (t2 : M.tailB s 3 128 191 = false) : Calls Try.prog 71 #[.string s] w (Told s w) := by
  have e0 := M.bt_at s 0 h
  have g0 := M.bt_lt s 0
  obtain ⟨s0, l0, u0⟩ := M.tailB_iff (k := 1).1 t0
  obtain ⟨s1, l1, u1⟩ := M.tailB_iff (k := 2).1 t1
  have n2 := M.tailB_not (k := 3) t2
  have hd : Utf8.decode s 0 = (65533, 1) := by
    rw [M.dz]
    unfold M.D
    clear e0
    generalize M.bt s 0 = a at *
    generalize M.bt s 1 = b at *
    generalize M.bt s 2 = c at *
    generalize M.bt s 3 = d at *
    generalize s.size = n at *
    repeat' split
    all_goals first | (exfalso; omega) | (refine Prod.ext ?_ rfl; (try dsimp only); omega) | rfl
  have HD := Lib.hid hd
  clear hd
  have e1 := M.bt_at s 1 s0
  have g1 := M.bt_lt s 1
  have e2 := M.bt_at s 2 s1
  have g2 := M.bt_lt s 2
  clear n2
  go_enter Try.func71, Try.ntmps71
  go_wp2_with (go_at_call 84; refine (tail_any s _ _ _ _ (by omega)).mono ?_; rintro e w' ⟨rfl, rfl⟩)
  go_ret2
  refine Eq.mp (congrArg (fun z => Told s w z _) (ret_two ?_ ?_)) (told HD.out (Below.refl _ _))
  · omega
  · omega

set_option maxHeartbeats 1000000 in
set_option maxRecDepth 100000 in
theorem first_i1 (s : ByteArray) (w : World) (h : 0 < s.size) (h0 : 241 ≤ M.bt s 0) (h1 : M.bt s 0 ≤ 243) (t0 : M.tailB s 1 128 191 = true) (t1 : M.tailB s 2 128 191 = false) : Calls Try.prog 71 #[.string s] w (Told s w) := by
  have e0 := M.bt_at s 0 h
  have g0 := M.bt_lt s 0
  obtain ⟨s0, l0, u0⟩ := M.tailB_iff (k := 1).1 t0
  have n1 := M.tailB_not (k := 2) t1
  have hd : Utf8.decode s 0 = (65533, 1) := by
    rw [M.dz]
    unfold M.D
    clear e0
    generalize M.bt s 0 = a at *
    generalize M.bt s 1 = b at *
    generalize M.bt s 2 = c at *
    generalize M.bt s 3 = d at *
    generalize s.size = n at *
    repeat' split
    all_goals first | (exfalso; omega) | (refine Prod.ext ?_ rfl; (try dsimp only); omega) | rfl
  have HD := Lib.hid hd
  clear hd
  have e1 := M.bt_at s 1 s0
  have g1 := M.bt_lt s 1
  clear n1
  go_enter Try.func71, Try.ntmps71
  go_wp2_with (go_at_call 84; refine (tail_any s _ _ _ _ (by omega)).mono ?_; rintro e w' ⟨rfl, rfl⟩)
  go_ret2
  refine Eq.mp (congrArg (fun z => Told s w z _) (ret_two ?_ ?_)) (told HD.out (Below.refl _ _))
  · omega
  · omega

set_option maxHeartbeats 1000000 in
set_option maxRecDepth 100000 in
theorem first_i0 (s : ByteArray) (w : World) (h : 0 < s.size) (h0 : 241 ≤ M.bt s 0) (h1 : M.bt s 0 ≤ 243) (t0 : M.tailB s 1 128 191 = false) : Calls Try.prog 71 #[.string s] w (Told s w) := by
  have e0 := M.bt_at s 0 h
  have g0 := M.bt_lt s 0
  have n0 := M.tailB_not (k := 1) t0
  have hd : Utf8.decode s 0 = (65533, 1) := by
    rw [M.dz]
    unfold M.D
    clear e0
    generalize M.bt s 0 = a at *
    generalize M.bt s 1 = b at *
    generalize M.bt s 2 = c at *
    generalize M.bt s 3 = d at *
    generalize s.size = n at *
    repeat' split
    all_goals first | (exfalso; omega) | (refine Prod.ext ?_ rfl; (try dsimp only); omega) | rfl
  have HD := Lib.hid hd
  clear hd
  clear n0
  go_enter Try.func71, Try.ntmps71
  go_wp2_with (go_at_call 84; refine (tail_any s _ _ _ _ (by omega)).mono ?_; rintro e w' ⟨rfl, rfl⟩)
  go_ret2
  refine Eq.mp (congrArg (fun z => Told s w z _) (ret_two ?_ ?_)) (told HD.out (Below.refl _ _))
  · omega
  · omega

set_option maxHeartbeats 1000000 in
set_option maxRecDepth 100000 in
theorem first_j (s : ByteArray) (w : World) (h : 0 < s.size) (h0 : 245 ≤ M.bt s 0)  : Calls Try.prog 71 #[.string s] w (Told s w) := by
  have e0 := M.bt_at s 0 h
  have g0 := M.bt_lt s 0
  have hd : Utf8.decode s 0 = (65533, 1) := by
    rw [M.dz]
    unfold M.D
    clear e0
    generalize M.bt s 0 = a at *
    generalize M.bt s 1 = b at *
    generalize M.bt s 2 = c at *
    generalize M.bt s 3 = d at *
    generalize s.size = n at *
    repeat' split
    all_goals first | (exfalso; omega) | (refine Prod.ext ?_ rfl; (try dsimp only); omega) | rfl
  have HD := Lib.hid hd
  clear hd
  go_enter Try.func71, Try.ntmps71
  go_wp2_with (go_at_call 84; refine (tail_any s _ _ _ _ (by omega)).mono ?_; rintro e w' ⟨rfl, rfl⟩)
  go_ret2
  refine Eq.mp (congrArg (fun z => Told s w z _) (ret_two ?_ ?_)) (told HD.out (Below.refl _ _))
  · omega
  · omega

theorem first_any (s : ByteArray) (w : World) (h : 0 < s.size) : Calls Try.prog 71 #[.string s] w (Told s w) := by
  have two : ∀ b : Bool, b = true ∨ b = false := fun b => by cases b <;> simp
  by_cases a1 : M.bt s 0 < 128
  · exact first_a s w h a1
  by_cases a2 : M.bt s 0 < 194
  · exact first_b s w h (by omega) a2
  by_cases a3 : M.bt s 0 ≤ 223
  · rcases two (M.tailB s 1 128 191) with t | t
    · exact first_c1 s w h (by omega) a3 t
    · exact first_c0 s w h (by omega) a3 t
  by_cases a4 : M.bt s 0 = 224
  · rcases two (M.tailB s 1 160 191) with t | t
    · rcases two (M.tailB s 2 128 191) with t2 | t2
      · exact first_d2 s w h a4 t t2
      · exact first_d1 s w h a4 t t2
    · exact first_d0 s w h a4 t
  by_cases a4 : M.bt s 0 = 237
  · rcases two (M.tailB s 1 128 159) with t | t
    · rcases two (M.tailB s 2 128 191) with t2 | t2
      · exact first_e2 s w h a4 t t2
      · exact first_e1 s w h a4 t t2
    · exact first_e0 s w h a4 t
  by_cases a4 : M.bt s 0 ≤ 239
  · rcases two (M.tailB s 1 128 191) with t | t
    · rcases two (M.tailB s 2 128 191) with t2 | t2
      · exact first_f2 s w h (by omega) a4 (by omega) t t2
      · exact first_f1 s w h (by omega) a4 (by omega) t t2
    · exact first_f0 s w h (by omega) a4 (by omega) t
  by_cases a4 : M.bt s 0 = 240
  · rcases two (M.tailB s 1 144 191) with t | t
    · rcases two (M.tailB s 2 128 191) with t2 | t2
      · rcases two (M.tailB s 3 128 191) with t3 | t3
        · exact first_g3 s w h a4 t t2 t3
        · exact first_g2 s w h a4 t t2 t3
      · exact first_g1 s w h a4 t t2
    · exact first_g0 s w h a4 t
  by_cases a4 : M.bt s 0 = 244
  · rcases two (M.tailB s 1 128 143) with t | t
    · rcases two (M.tailB s 2 128 191) with t2 | t2
      · rcases two (M.tailB s 3 128 191) with t3 | t3
        · exact first_h3 s w h a4 t t2 t3
        · exact first_h2 s w h a4 t t2 t3
      · exact first_h1 s w h a4 t t2
    · exact first_h0 s w h a4 t
  by_cases a4 : M.bt s 0 ≤ 243
  · rcases two (M.tailB s 1 128 191) with t | t
    · rcases two (M.tailB s 2 128 191) with t2 | t2
      · rcases two (M.tailB s 3 128 191) with t3 | t3
        · exact first_i3 s w h (by omega) a4 t t2 t3
        · exact first_i2 s w h (by omega) a4 t t2 t3
      · exact first_i1 s w h (by omega) a4 t t2
    · exact first_i0 s w h (by omega) a4 t
  exact first_j s w h (by omega)
end Go.Proofs.Ytacieiddhkkahaa
