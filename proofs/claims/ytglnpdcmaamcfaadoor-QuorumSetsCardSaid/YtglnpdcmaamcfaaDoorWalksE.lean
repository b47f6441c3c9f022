/- Contracts of Members and of the document's own Has, power, With, Without, Members, Count and Major; what they make lies in new memory, and nothing that was there changes; conditions: a set is an int. -/
import Derived.Test.YtglnpdcmaamcfaaDoorWalksB
namespace Go.Proofs.YtglnpdcmaamcfaaDoor
open Go.RowKit

namespace M
/-- The replicas below k that are in a set, in order. -/
def mem (s : Int) : Nat → List Int
  | 0 => []
  | k + 1 => mem s k ++ (if bt s k = 1 then [(k : Int)] else [])
theorem mem_hit (s : Int) (k : Nat) (h : bt s k = 1) : mem s (k + 1) = mem s k ++ [(k : Int)] := by simp [mem, h]
theorem mem_miss (s : Int) (k : Nat) (h : bt s k = 0) : mem s (k + 1) = mem s k := by simp [mem, h]
theorem mem_len (s : Int) : ∀ k, ((mem s k).length : Int) = cntTo s k
  | 0 => rfl
  | k + 1 => by
    have ih := mem_len s k
    have h01 := bt_01 s k
    have : bt s k = 0 ∨ bt s k = 1 := by omega
    rcases this with h | h
    · rw [mem_miss s k h, cntTo, h]; omega
    · rw [mem_hit s k h, cntTo, h, List.length_append]; simp; omega
theorem mem_le (s : Int) (k : Nat) : (mem s k).length ≤ k := by have := mem_len s k; have := cntTo_bd s k; omega
theorem mem_in (s : Int) : ∀ k, k ≤ 7 → ∀ x ∈ mem s k, hasB s x = true
  | 0, _ => by intro x h; cases h
  | k + 1, hk => by
    intro x h
    have h01 := bt_01 s k
    have : bt s k = 0 ∨ bt s k = 1 := by omega
    rcases this with hb | hb
    · rw [mem_miss s k hb] at h; exact mem_in s k (by omega) x h
    · rw [mem_hit s k hb] at h
      rcases List.mem_append.1 h with h | h
      · exact mem_in s k (by omega) x h
      · simp at h
        subst h
        unfold hasB
        rw [rep_iff.2 ⟨by omega, by omega⟩]
        simpa using hb
theorem has_bt (s : Int) (k : Nat) (hk : k < 7) (h : hasB s (k : Int) = true) : bt s k = 1 := by
  have hr : repB (k : Int) = true := rep_iff.2 ⟨by omega, by omega⟩
  simp [hasB, hr] at h
  exact h
theorem has_bt0 (s : Int) (k : Nat) (hk : k < 7) (h : hasB s (k : Int) = false) : bt s k = 0 := by
  have hr : repB (k : Int) = true := rep_iff.2 ⟨by omega, by omega⟩
  have h01 := bt_01 s k
  simp [hasB, hr] at h
  omega
end M

theorem info3 : (Tryd.prog.info? 3).map (fun i => (i.zero, i.size, i.bytes)) = some (some (.int .i64 0), 1, 8) := by kernel_rfl

/-- A list of a set's replicas has been laid in new memory, and nothing that was there has changed. -/
def Lists (s : Int) (w : World) (e : Ending) (w' : World) : Prop :=
  ∃ v, e = .returned v ∧ w'.ownsRow w.heap.size 3 1 v (M.mem s 7).length ((M.mem s 7).map (Value.int .i64)) ∧ Below w.heap.size w w'

theorem rel_keep {s : Int} {k : Nat} {w wr w1 : World} {u v' : Value} {o : Obj} (hb : M.bt s k = 1) (hB : w.heap.size ≤ wr.heap.size)
    (hown : wr.ownsRow w.heap.size 3 1 u (M.mem s k).length ((M.mem s k).map (Value.int .i64))) (hnx : Below w.heap.size w wr)
    (hown' : w1.ownsRow w.heap.size 3 1 v' ((M.mem s k).length + 1) ((M.mem s k).map (Value.int .i64) ++ [.int .i64 (k : Int)])) (hgrow : (wr.alloc o).grownBy w1 u.ownBlock) :
    w1.ownsRow w.heap.size 3 1 v' (M.mem s (k + 1)).length ((M.mem s (k + 1)).map (Value.int .i64)) ∧ Below w.heap.size w w1 := by
  refine ⟨by rw [M.mem_hit s k hb]; simpa using hown', (hnx.alloc hB o).grown hgrow (by simp; omega) (fun j hj => (hown.lt j hj).1)⟩

set_option maxHeartbeats 1000000 in
theorem members_any (s : Int) (w : World) : Calls Tryd.prog 19 #[.int .i64 s] w (Lists s w) := by
  obtain ⟨i0, hi, hz0, hz1, hz2⟩ := info_parts info3
  go_enter Tryd.func19, Tryd.ntmps19
  go_wp2
  go_loopw [3, 5] (fun v i wr => ∃ k : Nat, k ≤ 7 ∧ i = .int .i64 k ∧ wr.ownsRow w.heap.size 3 1 v (M.mem s k).length ((M.mem s k).map (Value.int .i64)) ∧ Below w.heap.size w wr)
    (fun _ i _ => 7 - (intOf i).toNat)
  case atStart => exact ⟨0, Nat.zero_le _, rfl, World.ownsRow_nil _ _ _ _, Below.refl _ _⟩
  case round =>
    obtain ⟨k, hk, rfl, hown, hnx⟩ := hrel
    by_cases hlt : k < 7
    · cases hb : M.hasB s (k : Int)
      · have HZ := Lib.hid (M.has_bt0 s k hlt hb)
        go_wp2_with (go_at_call 21; refine (has_any _ _ _).mono ?_; rintro e w' ⟨rfl, rfl⟩)
        go_roundw
        case rel => exact ⟨k + 1, by omega, by go_num, by rw [M.mem_miss s k HZ.out]; exact hown, hnx⟩
        case measure => simp [intOf]; omega
      · have HZ := Lib.hid (M.has_bt s k hlt hb)
        have hle := M.mem_le s k
        go_wp2_with (first
          | (at_builtin; refine wpList_append_own _ rfl _ _ 25 rfl w.heap.size 3 i0 (.int .i64 0) 1 8 Tryd.underlying25 hi hz0 hz1 hz2 rfl (by decide) _ _ _ rfl (hown.alloc _) ⟨wr.heap.size, 0, none⟩ 1 1 [.int .i64 (k : Int)] rfl rfl ?c1 ?c2 ?c3 ?c4 ?c5 ?_)
          | (go_at_call 21; refine (has_any _ _ _).mono ?_; rintro e w' ⟨rfl, rfl⟩))
        case c1 =>
          intro j u hj
          match j, hj with
          | 0, hj => simp at hj; subst hj; simp [Addr.add]
        case c2 => intro u hu; simp at hu; subst hu; rfl
        case c3 => unfold maxLen; omega
        case c4 => omega
        case c5 => have := hnx.size; simp; omega
        · intro v' w1 hown' hgrow _
          have R := rel_keep HZ.out hnx.size hown hnx hown' hgrow
          clear hown' hgrow hown
          go_wp2
          go_roundw
          case rel => exact ⟨k + 1, by omega, by go_num, R.1, R.2⟩
          case measure => simp [intOf]; omega
    · obtain rfl : k = 7 := by omega
      go_wp2
      go_ret
      exact ⟨_, rfl, hown, hnx⟩

end Go.Proofs.YtglnpdcmaamcfaaDoor
