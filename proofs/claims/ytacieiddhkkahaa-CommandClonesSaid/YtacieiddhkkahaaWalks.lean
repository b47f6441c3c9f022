/- Contracts of keys.Right and keys.Weight and of the document's Right; no conditions but the lengths that they name. -/
import Derived.Test.YtacieiddhkkahaaRows
import Derived.Test.YtacieiddhkkahaaMath
import Derived.WalkKit
import Derived.WalkSpells
import Derived.Lib.Hide
import Derived.Lib.OthersKept
import Derived.BigCall
namespace Go.Proofs.Ytacieiddhkkahaa
open Go.RowKit

theorem ret_int {k : IntKind} {a b : Int} (h : a = b) : Ending.returned (.int k a) = .returned (.int k b) := by rw [h]
theorem ret_bool {a b : Bool} (h : a = b) : Ending.returned (.bool a) = .returned (.bool b) := by rw [h]
/-- One stretch behind another. -/
theorem below_on {a b c : World} (h : Below a.heap.size a b) (k : Below b.heap.size b c) : Below a.heap.size a c := h.trans (k.mono h.size)
/-- A new block. -/
theorem below_new {a b : World} {o : Obj} (h : Below a.heap.size a b) : Below a.heap.size a (b.alloc o) := h.alloc h.size _

theorem rb_one {n : Nat} (h : 1 ≤ n) : decide ((n : Int) ≤ 8) = M.rightB n := by
  rw [Bool.eq_iff_iff, M.rightB_iff, decide_eq_true_eq]; omega
theorem rb_two {n : Nat} (h : 0 < n) : decide ((n : Int) < 9) = M.rightB n := by
  rw [Bool.eq_iff_iff, M.rightB_iff, decide_eq_true_eq]; omega
theorem rb_no {n : Nat} (h : ¬ 1 ≤ n) : false = M.rightB n := by
  cases e : M.rightB n
  · rfl
  · exact absurd (M.rightB_iff.1 e).1 h

set_option maxHeartbeats 400000 in
theorem right_any (s : ByteArray) (w : World) : Calls Try.prog 49 #[.string s] w fun e w' => e = .returned (.bool (M.rightB s.size)) ∧ w = w' := by
  by_cases h1 : 1 ≤ s.size
  · go_enter Try.func49, Try.ntmps49
    go_wp2
    go_ret
    exact ⟨ret_bool (rb_one h1), rfl⟩
  · go_enter Try.func49, Try.ntmps49
    go_wp2
    go_ret
    exact ⟨ret_bool (rb_no h1), rfl⟩

set_option maxHeartbeats 400000 in
theorem dright_any (s : ByteArray) (w : World) : Calls Try.prog 53 #[.string s] w fun e w' => e = .returned (.bool (M.rightB s.size)) ∧ w = w' := by
  by_cases h1 : 0 < s.size
  · go_enter Try.func53, Try.ntmps53
    go_wp2
    go_ret
    exact ⟨ret_bool (rb_two h1), rfl⟩
  · go_enter Try.func53, Try.ntmps53
    go_wp2
    go_ret
    exact ⟨ret_bool (rb_no (by omega)), rfl⟩

theorem wrap_small {n : Nat} (h : n ≤ 1000000000000000) : wrap64 (n : Int) = (n : Int) := by
  unfold wrap64; omega
theorem weigh_wrap (l : List Nat) (r : Nat) (hl : l.length ≤ 2000) (hr : r ≤ 1114111) (hw : M.weigh 0 l ≤ 4456444000000) :
    wrap64 ((M.weigh 0 l : Int) + wrap64 (((l.length : Int) + 1) * (r : Int))) = ((M.weigh 0 (l ++ [r]) : Nat) : Int) := by
  have h1 : (l.length + 1) * r ≤ 2001 * 1114111 := Nat.mul_le_mul (by omega) hr
  have e : ((l.length : Int) + 1) * (r : Int) = (((l.length + 1) * r : Nat) : Int) := by rw [Int.natCast_mul, Int.natCast_add, Int.natCast_one]
  rw [e, wrap_small (by omega), ← Int.natCast_add, wrap_small (by omega), M.weigh_snoc]

theorem len_split {l m : List Nat} {s : ByteArray} (h : l ++ m = M.runes s) : l.length ≤ s.size := by
  have h1 := M.runes_len s
  rw [← h] at h1
  simp at h1
  omega
theorem le_split {l m : List Nat} {s : ByteArray} (h : l ++ m = M.runes s) : ∀ r ∈ l, r ≤ 1114111 := fun r hr => M.runes_le s r (by rw [← h]; simp [hr])

set_option maxHeartbeats 1000000 in
set_option maxRecDepth 100000 in
theorem weight_any (s : ByteArray) (w : World) (hs : s.size ≤ 2000) : Calls Try.prog 50 #[.string s] w fun e w' => e = .returned (.int .i64 (M.weight s : Nat)) ∧ Below w.heap.size w w' := by
  go_enter Try.func50, Try.ntmps50
  go_wp2
  go_loopw [3, 4] (fun wt ps wr => ∃ (pos fuel : Nat) (acc : List Nat), wr.heap[w.heap.size]? = some (.stringIter s pos) ∧ Below w.heap.size w wr ∧ acc ++ M.runesFrom s fuel pos = M.runes s ∧ s.size ≤ pos + fuel ∧ wt = .int .i64 (M.weigh 0 acc : Nat) ∧ ps = .int .i64 (acc.length : Nat)) (fun _ _ wr => s.size - wr.iterPos w.heap.size)
  case atStart =>
    exact ⟨0, s.size, [], World.iter_heap w s 0, (Below.refl _ w).alloc (Nat.le_refl _) _, rfl, by omega, rfl, rfl⟩
  case round =>
    obtain ⟨pos, fuel, acc, hit, hbw, hacc, hfu, rfl, rfl⟩ := hrel
    have hl := len_split hacc
    have hsz : w.heap.size < wr.heap.size := (Array.getElem?_eq_some_iff.1 hit).1
    by_cases hp : pos < s.size
    · have hnx : ∀ ty, (Instr.next (.pointer (some ⟨w.heap.size, 0, none⟩)) true ty).run Try.prog wr = .ok (.tuple #[.bool true, .int .i64 pos, .int .i32 (M.rn s pos : Nat)]) (wr.iterAt w.heap.size s (pos + M.wd s pos)) := fun ty => Lib.run_next_any_at wr w.heap.size s pos ty hit hp
      have hw1 := M.wd_pos s pos hp
      have hr1 := M.rn_le s pos
      obtain ⟨f, rfl⟩ : ∃ f, fuel = f + 1 := ⟨fuel - 1, by omega⟩
      rw [M.runesFrom_step s f pos hp] at hacc
      have hacc2 : (acc ++ [M.rn s pos]) ++ M.runesFrom s f (pos + M.wd s pos) = M.runes s := by simpa using hacc
      have hb1 := M.weigh_small acc (le_split hacc2 · |> fun h r => h (by simp [r])) (by omega)
      have H1 := Lib.hid hacc2
      have H2 := Lib.hid hit
      have H3 := Lib.hid hbw
      clear hacc hacc2 hit hbw
      go_wp2
      go_roundw
      case rel => exact ⟨pos + M.wd s pos, f, acc ++ [M.rn s pos], Lib.iterAt_heap wr _ s pos _ H2.out, Lib.below_iterAt H3.out (Nat.le_refl _) s _, H1.out, by omega, by rw [weigh_wrap acc _ (by omega) hr1 hb1], by simp⟩
      case measure =>
        simp only [World.iterPos, Lib.iterAt_heap wr _ s pos (pos + M.wd s pos) H2.out, H2.out]
        omega
    · have hnx : ∀ ty, (Instr.next (.pointer (some ⟨w.heap.size, 0, none⟩)) true ty).run Try.prog wr = .ok (.tuple #[.bool false]) wr := fun ty => Lib.run_next_end_at wr w.heap.size s pos ty hit hp
      have H2 := Lib.hid hacc
      have H3 := Lib.hid hbw
      clear hacc hit hbw
      go_wp2
      go_ret
      refine ⟨ret_int ?_, H3.out⟩
      have := H2.out
      rw [M.runesFrom_end s fuel pos hp, List.append_nil] at this
      rw [this]; rfl
end Go.Proofs.Ytacieiddhkkahaa
