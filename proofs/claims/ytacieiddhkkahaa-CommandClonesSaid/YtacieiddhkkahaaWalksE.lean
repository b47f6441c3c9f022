/- Contracts of both Shards and of awake; no conditions. -/
import Derived.Test.YtacieiddhkkahaaWalksD
namespace Go.Proofs.Ytacieiddhkkahaa
open Go.RowKit

namespace M
/-- Is there a shard? -/
def okB (l : Nat) (n : Int) : Bool := rightB l && (decide (1 ≤ n) && decide (n ≤ 4))
theorem okB_iff {l : Nat} {n : Int} : okB l n = true ↔ (1 ≤ l ∧ l ≤ 8) ∧ 1 ≤ n ∧ n ≤ 4 := by
  unfold okB; rw [Bool.and_eq_true, rightB_iff, Bool.and_eq_true, decide_eq_true_eq, decide_eq_true_eq]
/-- A text's shard, and why there is none. -/
def sh (s : ByteArray) (n : Int) : Int := if okB s.size n then (weight s : Int) % n else 0
def er (s : ByteArray) (n : Int) : Int := if okB s.size n then 0 else 1
theorem sh_ok {s : ByteArray} {n : Int} (h : okB s.size n = true) : sh s n = (weight s : Int) % n ∧ er s n = 0 := by simp [sh, er, h]
theorem sh_no {s : ByteArray} {n : Int} (h : okB s.size n = false) : sh s n = 0 ∧ er s n = 1 := by simp [sh, er, h]
theorem okB_right {l : Nat} {n : Int} (h : rightB l = false) : okB l n = false := by simp [okB, h]
theorem okB_n {l : Nat} {n : Int} (h : ¬ (1 ≤ n ∧ n ≤ 4)) : okB l n = false := by
  cases e : okB l n
  · rfl
  · exact absurd (okB_iff.1 e).2 h
theorem okB_yes {l : Nat} {n : Int} (h : rightB l = true) (h1 : 1 ≤ n) (h2 : n ≤ 4) : okB l n = true := okB_iff.2 ⟨rightB_iff.1 h, h1, h2⟩
end M

theorem two (b : Bool) : b = true ∨ b = false := by cases b <;> simp

set_option maxHeartbeats 1000000 in
theorem shard_any (s : ByteArray) (n : Int) (w : World) : Calls Try.prog 27 #[.string s, .int .i64 n] w fun e w' => e = .returned (.tuple #[.int .i64 (M.sh s n), .int .i64 (M.er s n)]) ∧ Below w.heap.size w w' := by
  rcases two (M.rightB s.size) with hr | hr
  · by_cases h1 : 1 ≤ n
    · by_cases h2 : n ≤ 4
      · obtain ⟨e1, e2⟩ := M.sh_ok (M.okB_yes hr h1 h2)
        have H1 := Lib.hid e1
        have H2 := Lib.hid e2
        have hs := (M.rightB_iff.1 hr).2
        have hw := M.weight_le s (by omega)
        clear e1 e2
        go_enter Try.func27, Try.ntmps27
        go_wp2_with (go_at_call 49; refine (right_any _ _).mono ?_; rintro e w' ⟨rfl, rfl⟩)
        refine (weight_any s _ (by omega)).mono ?_
        rintro e w1 ⟨rfl, hb⟩
        have HB := Lib.hid hb
        clear hb
        go_wp2
        go_ret2
        exact ⟨ret_two H1.out.symm H2.out.symm, HB.out⟩
      · obtain ⟨e1, e2⟩ := M.sh_no (s := s) (M.okB_n (l := s.size) (n := n) (by omega))
        have H1 := Lib.hid e1
        have H2 := Lib.hid e2
        clear e1 e2
        go_enter Try.func27, Try.ntmps27
        go_wp2_with (go_at_call 49; refine (right_any _ _).mono ?_; rintro e w' ⟨rfl, rfl⟩)
        go_ret2
        exact ⟨ret_two H1.out.symm H2.out.symm, Below.refl _ _⟩
    · obtain ⟨e1, e2⟩ := M.sh_no (s := s) (M.okB_n (l := s.size) (n := n) (by omega))
      have H1 := Lib.hid e1
      have H2 := Lib.hid e2
      clear e1 e2
      go_enter Try.func27, Try.ntmps27
      go_wp2_with (go_at_call 49; refine (right_any _ _).mono ?_; rintro e w' ⟨rfl, rfl⟩)
      go_ret2
      exact ⟨ret_two H1.out.symm H2.out.symm, Below.refl _ _⟩
  · obtain ⟨e1, e2⟩ := M.sh_no (M.okB_right (n := n) hr)
    have H1 := Lib.hid e1
    have H2 := Lib.hid e2
    clear e1 e2
    go_enter Try.func27, Try.ntmps27
    go_wp2_with (go_at_call 49; refine (right_any _ _).mono ?_; rintro e w' ⟨rfl, rfl⟩)
    go_ret2
    exact ⟨ret_two H1.out.symm H2.out.symm, Below.refl _ _⟩

theorem sub_div (a n : Int) : a - a / n * n = a % n := by rw [Int.emod_def, Int.mul_comm n]

theorem wrap_id {a : Int} (h0 : 0 ≤ a) (h1 : a ≤ 1000000000000000) : wrap64 a = a := by unfold wrap64; omega
theorem rem_wrap {a n : Int} (h0 : 0 ≤ a) (h1 : a ≤ 1000000000000000) (hn : 1 ≤ n) : wrap64 (a - wrap64 (wrap64 (a / n) * n)) = a - a / n * n := by
  have hq : 0 ≤ a / n := Int.ediv_nonneg h0 (by omega)
  have hq1 : a / n ≤ a := Int.ediv_le_self _ h0
  have hq2 : a / n * n ≤ a := Int.ediv_mul_le _ (by omega)
  have hq3 : 0 ≤ a / n * n := Int.mul_nonneg hq (by omega)
  rw [wrap_id hq (by omega), wrap_id hq3 (by omega), wrap_id (by omega) (by omega)]

set_option maxHeartbeats 1000000 in
theorem dshard_any (s : ByteArray) (n : Int) (w : World) : Calls Try.prog 33 #[.string s, .int .i64 n] w fun e w' => e = .returned (.tuple #[.int .i64 (M.sh s n), .int .i64 (M.er s n)]) ∧ Below w.heap.size w w' := by
  rcases two (M.rightB s.size) with hr | hr
  · by_cases h1 : 1 ≤ n
    · by_cases h2 : n ≤ 4
      · obtain ⟨e1, e2⟩ := M.sh_ok (M.okB_yes hr h1 h2)
        have H1 := Lib.hid e1
        have H2 := Lib.hid e2
        have hs := (M.rightB_iff.1 hr).2
        have hw := M.weight_le s (by omega)
        clear e1 e2
        go_enter Try.func33, Try.ntmps33
        go_wp2_with (go_at_call 53; refine (dright_any _ _).mono ?_; rintro e w' ⟨rfl, rfl⟩)
        refine (dweight_any s _ (by omega)).mono ?_
        rintro e w1 ⟨rfl, hb⟩
        have HB := Lib.hid hb
        clear hb
        go_wp2
        go_ret2
        refine ⟨ret_two ?_ H2.out.symm, HB.out⟩
        rw [H1.out, ← sub_div]
        exact rem_wrap (by omega) (by omega) h1
      · obtain ⟨e1, e2⟩ := M.sh_no (s := s) (M.okB_n (l := s.size) (n := n) (by omega))
        have H1 := Lib.hid e1
        have H2 := Lib.hid e2
        clear e1 e2
        go_enter Try.func33, Try.ntmps33
        go_wp2_with (go_at_call 53; refine (dright_any _ _).mono ?_; rintro e w' ⟨rfl, rfl⟩)
        go_ret2
        exact ⟨ret_two H1.out.symm H2.out.symm, Below.refl _ _⟩
    · obtain ⟨e1, e2⟩ := M.sh_no (s := s) (M.okB_n (l := s.size) (n := n) (by omega))
      have H1 := Lib.hid e1
      have H2 := Lib.hid e2
      clear e1 e2
      go_enter Try.func33, Try.ntmps33
      go_wp2_with (go_at_call 53; refine (dright_any _ _).mono ?_; rintro e w' ⟨rfl, rfl⟩)
      go_ret2
      exact ⟨ret_two H1.out.symm H2.out.symm, Below.refl _ _⟩
  · obtain ⟨e1, e2⟩ := M.sh_no (M.okB_right (n := n) hr)
    have H1 := Lib.hid e1
    have H2 := Lib.hid e2
    clear e1 e2
    go_enter Try.func33, Try.ntmps33
    go_wp2_with (go_at_call 53; refine (dright_any _ _).mono ?_; rintro e w' ⟨rfl, rfl⟩)
    go_ret2
    exact ⟨ret_two H1.out.symm H2.out.symm, Below.refl _ _⟩

end Go.Proofs.Ytacieiddhkkahaa
