/- What each function of quorum and of the document's answers does to a world in which the table of counts reads as the text lays it: the contracts that the statements' proofs use; no further conditions. -/
import Derived.Test.YtglnpdcmaamcfaaDoorRows
import Derived.Test.YtglnpdcmaamcfaaDoorMath
import Derived.WalkKit
import Derived.WalkSpells
import Derived.Lib.Hide
namespace Go.Proofs.YtglnpdcmaamcfaaDoor
open Go.RowKit

/-- The table's cells, row by row, behind its row for no shard. -/
def Tab (w : World) : Prop :=
  (w.cell? ⟨0, 3, none⟩ = some (.int .i64 3) ∧ w.cell? ⟨0, 4, none⟩ = some (.int .i64 2) ∧ w.cell? ⟨0, 5, none⟩ = some (.int .i64 2)) ∧
  (w.cell? ⟨0, 6, none⟩ = some (.int .i64 5) ∧ w.cell? ⟨0, 7, none⟩ = some (.int .i64 3) ∧ w.cell? ⟨0, 8, none⟩ = some (.int .i64 4)) ∧
  (w.cell? ⟨0, 9, none⟩ = some (.int .i64 7) ∧ w.cell? ⟨0, 10, none⟩ = some (.int .i64 4) ∧ w.cell? ⟨0, 11, none⟩ = some (.int .i64 6))

theorem wrap_eq (n : Int) : wrap64 n = IntKind.i64.wrap n := (IntWalk.i64_left n).symm
theorem ret_int {k : IntKind} {a b : Int} (h : a = b) : Ending.returned (.int k a) = .returned (.int k b) := by rw [h]
theorem ret_bool {a b : Bool} (h : a = b) : Ending.returned (.bool a) = .returned (.bool b) := by rw [h]

set_option maxHeartbeats 400000 in
theorem isShard_any (f : Int) (w : World) :
    Calls Tryd.prog 30 #[.int .i64 f] w fun e w' => e = .returned (.bool (M.shardB f)) ∧ w = w' := by
  by_cases h1 : 1 ≤ f
  · by_cases h2 : f ≤ 3
    · have hb : M.shardB f = true := by simp [M.shardB, h1, h2]
      rw [hb]
      go_enter Tryd.func30, Tryd.ntmps30
      go_wp2
      go_ret
      exact ⟨rfl, rfl⟩
    · have hb : M.shardB f = false := by simp [M.shardB]; omega
      rw [hb]
      go_enter Tryd.func30, Tryd.ntmps30
      go_wp2
      go_ret
      exact ⟨rfl, rfl⟩
  · have hb : M.shardB f = false := by simp [M.shardB]; omega
    rw [hb]
    go_enter Tryd.func30, Tryd.ntmps30
    go_wp2
    go_ret
    exact ⟨rfl, rfl⟩

set_option maxHeartbeats 400000 in
theorem isReplica_any (k : Int) (w : World) :
    Calls Tryd.prog 31 #[.int .i64 k] w fun e w' => e = .returned (.bool (M.repB k)) ∧ w = w' := by
  by_cases h1 : 0 ≤ k
  · by_cases h2 : k < 7
    · have hb : M.repB k = true := by simp [M.repB, h1, h2]
      rw [hb]
      go_enter Tryd.func31, Tryd.ntmps31
      go_wp2
      go_ret
      exact ⟨rfl, rfl⟩
    · have hb : M.repB k = false := by simp [M.repB]; omega
      rw [hb]
      go_enter Tryd.func31, Tryd.ntmps31
      go_wp2
      go_ret
      exact ⟨rfl, rfl⟩
  · have hb : M.repB k = false := by simp [M.repB]; omega
    rw [hb]
    go_enter Tryd.func31, Tryd.ntmps31
    go_wp2
    go_ret
    exact ⟨rfl, rfl⟩

set_option maxHeartbeats 400000 in
theorem size_any (f : Int) (w : World) (hT : Tab w) :
    Calls Tryd.prog 10 #[.int .i64 f] w fun e w' => e = .returned (.int .i64 (M.sizeOf f)) ∧ w = w' := by
  obtain ⟨⟨h10, h11, h12⟩, ⟨h20, h21, h22⟩, ⟨h30, h31, h32⟩⟩ := hT
  by_cases e1 : f = 1
  · subst e1
    go_enter Tryd.func10, Tryd.ntmps10
    go_wp2
    go_ret
    exact ⟨rfl, rfl⟩
  · by_cases e2 : f = 2
    · subst e2
      go_enter Tryd.func10, Tryd.ntmps10
      go_wp2
      go_ret
      exact ⟨rfl, rfl⟩
    · by_cases e3 : f = 3
      · subst e3
        go_enter Tryd.func10, Tryd.ntmps10
        go_wp2
        go_ret
        exact ⟨rfl, rfl⟩
      · have hb : M.shardB f = false := by simp [M.shardB]; omega
        have hs : M.sizeOf f = 0 := by simp [M.sizeOf, e1, e2, e3]
        rw [hs]
        clear h10 h11 h12 h20 h21 h22 h30 h31 h32 e1 e2 e3 hs
        go_enter Tryd.func10, Tryd.ntmps10
        go_wp2_with (go_at_call 30; refine (isShard_any _ _).mono ?_; rintro e w' ⟨rfl, rfl⟩)
        go_ret
        exact ⟨rfl, rfl⟩

set_option maxHeartbeats 400000 in
theorem slow_any (f : Int) (w : World) (hT : Tab w) :
    Calls Tryd.prog 11 #[.int .i64 f] w fun e w' => e = .returned (.int .i64 (M.slowOf f)) ∧ w = w' := by
  obtain ⟨⟨h10, h11, h12⟩, ⟨h20, h21, h22⟩, ⟨h30, h31, h32⟩⟩ := hT
  by_cases e1 : f = 1
  · subst e1
    go_enter Tryd.func11, Tryd.ntmps11
    go_wp2
    go_ret
    exact ⟨rfl, rfl⟩
  · by_cases e2 : f = 2
    · subst e2
      go_enter Tryd.func11, Tryd.ntmps11
      go_wp2
      go_ret
      exact ⟨rfl, rfl⟩
    · by_cases e3 : f = 3
      · subst e3
        go_enter Tryd.func11, Tryd.ntmps11
        go_wp2
        go_ret
        exact ⟨rfl, rfl⟩
      · have hb : M.shardB f = false := by simp [M.shardB]; omega
        have hs : M.slowOf f = 0 := by simp [M.slowOf, e1, e2, e3]
        rw [hs]
        clear h10 h11 h12 h20 h21 h22 h30 h31 h32 e1 e2 e3 hs
        go_enter Tryd.func11, Tryd.ntmps11
        go_wp2_with (go_at_call 30; refine (isShard_any _ _).mono ?_; rintro e w' ⟨rfl, rfl⟩)
        go_ret
        exact ⟨rfl, rfl⟩

set_option maxHeartbeats 400000 in
theorem fast_any (f : Int) (w : World) (hT : Tab w) :
    Calls Tryd.prog 12 #[.int .i64 f] w fun e w' => e = .returned (.int .i64 (M.fastOf f)) ∧ w = w' := by
  obtain ⟨⟨h10, h11, h12⟩, ⟨h20, h21, h22⟩, ⟨h30, h31, h32⟩⟩ := hT
  by_cases e1 : f = 1
  · subst e1
    go_enter Tryd.func12, Tryd.ntmps12
    go_wp2
    go_ret
    exact ⟨rfl, rfl⟩
  · by_cases e2 : f = 2
    · subst e2
      go_enter Tryd.func12, Tryd.ntmps12
      go_wp2
      go_ret
      exact ⟨rfl, rfl⟩
    · by_cases e3 : f = 3
      · subst e3
        go_enter Tryd.func12, Tryd.ntmps12
        go_wp2
        go_ret
        exact ⟨rfl, rfl⟩
      · have hb : M.shardB f = false := by simp [M.shardB]; omega
        have hs : M.fastOf f = 0 := by simp [M.fastOf, e1, e2, e3]
        rw [hs]
        clear h10 h11 h12 h20 h21 h22 h30 h31 h32 e1 e2 e3 hs
        go_enter Tryd.func12, Tryd.ntmps12
        go_wp2_with (go_at_call 30; refine (isShard_any _ _).mono ?_; rintro e w' ⟨rfl, rfl⟩)
        go_ret
        exact ⟨rfl, rfl⟩

set_option maxHeartbeats 400000 in
theorem has_any (s k : Int) (w : World) :
    Calls Tryd.prog 21 #[.int .i64 s, .int .i64 k] w fun e w' => e = .returned (.bool (M.hasB s k)) ∧ w = w' := by
  cases hb : M.repB k
  · have hh : M.hasB s k = false := by simp [M.hasB, hb]
    rw [hh]
    clear hh
    go_enter Tryd.func21, Tryd.ntmps21
    go_wp2_with (go_at_call 31; refine (isReplica_any _ _).mono ?_; rintro e w' ⟨rfl, rfl⟩)
    go_ret
    exact ⟨rfl, rfl⟩
  · obtain ⟨h1, h2⟩ := M.rep_iff.1 hb
    have hh := M.has_eq s k h1 h2
    have H := Lib.hid hh
    clear hh
    go_enter Tryd.func21, Tryd.ntmps21
    go_wp2_with (go_at_call 31; refine (isReplica_any _ _).mono ?_; rintro e w' ⟨rfl, rfl⟩)
    go_ret
    exact ⟨ret_bool (by rw [wrap_eq]; exact H.out), rfl⟩

set_option maxHeartbeats 400000 in
theorem with_any (s k : Int) (w : World) :
    Calls Tryd.prog 23 #[.int .i64 s, .int .i64 k] w fun e w' => e = .returned (.int .i64 (M.withOf s k)) ∧ w = w' := by
  cases hb : M.repB k
  · have hh : M.withOf s k = s := by simp [M.withOf, hb]
    rw [hh]
    clear hh
    go_enter Tryd.func23, Tryd.ntmps23
    go_wp2_with (go_at_call 31; refine (isReplica_any _ _).mono ?_; rintro e w' ⟨rfl, rfl⟩)
    go_ret
    exact ⟨rfl, rfl⟩
  · obtain ⟨h1, h2⟩ := M.rep_iff.1 hb
    have H := Lib.hid (M.wrap_pow k.toNat (by omega))
    have H2 := Lib.hid hb
    go_enter Tryd.func23, Tryd.ntmps23
    go_wp2_with (go_at_call 31; refine (isReplica_any _ _).mono ?_; rintro e w' ⟨rfl, rfl⟩)
    go_ret
    exact ⟨ret_int (by unfold M.withOf; rw [H2.out, if_pos rfl]; rw [wrap_eq, H.out]), rfl⟩

set_option maxHeartbeats 400000 in
theorem without_any (s k : Int) (w : World) :
    Calls Tryd.prog 25 #[.int .i64 s, .int .i64 k] w fun e w' => e = .returned (.int .i64 (M.withoutOf s k)) ∧ w = w' := by
  cases hb : M.repB k
  · have hh : M.withoutOf s k = s := by simp [M.withoutOf, hb]
    rw [hh]
    clear hh
    go_enter Tryd.func25, Tryd.ntmps25
    go_wp2_with (go_at_call 31; refine (isReplica_any _ _).mono ?_; rintro e w' ⟨rfl, rfl⟩)
    go_ret
    exact ⟨rfl, rfl⟩
  · obtain ⟨h1, h2⟩ := M.rep_iff.1 hb
    have H := Lib.hid (M.wrap_pow k.toNat (by omega))
    have H2 := Lib.hid hb
    go_enter Tryd.func25, Tryd.ntmps25
    go_wp2_with (go_at_call 31; refine (isReplica_any _ _).mono ?_; rintro e w' ⟨rfl, rfl⟩)
    go_ret
    exact ⟨ret_int (by unfold M.withoutOf; rw [H2.out, if_pos rfl]; rw [wrap_eq, H.out]), rfl⟩

set_option maxHeartbeats 400000 in
theorem count_any (s : Int) (w : World) :
    Calls Tryd.prog 16 #[.int .i64 s] w fun e w' => e = .returned (.int .i64 (M.cnt s)) ∧ w = w' := by
  go_enter Tryd.func16, Tryd.ntmps16
  go_wp2
  go_loop [3, 5] (fun n i => ∃ k : Nat, k ≤ 7 ∧ i = .int .i64 k ∧ n = .int .i64 (M.cntTo s k)) (fun _ i => 7 - (intOf i).toNat)
  case atStart => exact ⟨0, Nat.zero_le _, rfl, rfl⟩
  case round =>
    obtain ⟨k, hk, rfl, rfl⟩ := hrel
    have hd := M.cntTo_bd s k
    by_cases hlt : k < 7
    · have hsn : M.cntTo s (k + 1) = M.cntTo s k + M.bt s k := rfl
      have HS := Lib.hid hsn
      clear hsn
      have hb01 := M.bt_01 s k
      cases hb : M.hasB s (k : Int)
      · have hz : M.bt s k = 0 := by
          have hr : M.repB (k : Int) = true := M.rep_iff.2 ⟨by omega, by omega⟩
          simp [M.hasB, hr] at hb
          omega
        have HZ := Lib.hid hz
        clear hz
        go_wp2_with (go_at_call 21; refine (has_any _ _ _).mono ?_; rintro e w' ⟨rfl, rfl⟩)
        go_round
        case rel => exact ⟨k + 1, by omega, by go_num, by rw [HS.out, HZ.out]; go_num⟩
        case measure => simp [intOf]; omega
      · have hz : M.bt s k = 1 := by
          have hr : M.repB (k : Int) = true := M.rep_iff.2 ⟨by omega, by omega⟩
          simp [M.hasB, hr] at hb
          omega
        have HZ := Lib.hid hz
        clear hz
        go_wp2_with (go_at_call 21; refine (has_any _ _ _).mono ?_; rintro e w' ⟨rfl, rfl⟩)
        go_round
        case rel => exact ⟨k + 1, by omega, by go_num, by rw [HS.out, HZ.out]⟩
        case measure => simp [intOf]; omega
    · go_wp2
      go_ret
      exact ⟨ret_int (by rw [show k = 7 by omega, M.cntTo_seven]), rfl⟩
end Go.Proofs.YtglnpdcmaamcfaaDoor
