/- Sorting nothing; the instances of content that has no map; conditions: none. -/
import Derived.Test.YtdachohcjpjblaaGreatDoorItr
namespace Go.Proofs.YtdachohcjpjblaaGreatDoor
open Go.ChangeShapes Go.WideShapes Go.ChangeAt Go.RowKit
open Di (Keeps In below_on below_new)
open Wi (Hold)

open Go.Proofs Go.Maps Go.Shelf Go.Sort
namespace It
set_option maxRecDepth 100000 in
set_option maxHeartbeats 4000000 in
theorem len0 (w : World) : Calls Tryz.prog 113 #[.int .u64 0] w fun e w' => (∃ z, e = .returned (.int .i64 z)) ∧ w' = w := by
  go_enter Tryz.func113, Tryz.ntmps113
  go_wp2
  go_ret
  exact ⟨⟨_, rfl⟩, rfl⟩
set_option maxRecDepth 100000 in
set_option maxHeartbeats 4000000 in
theorem ins0 (A : Option Addr) (c : Nat) (v : Value) (w : World) : Calls Tryz.prog 125 #[.slice A 0 c, .int .i64 0, .int .i64 0, v] w fun e w' => e = .returned (.tuple #[]) ∧ w' = w := by
  go_enter Tryz.func125, Tryz.ntmps125
  go_wp2
  go_loopw [8] (fun o wr => o = .int .i64 1 ∧ wr = w) (fun _ _ => 0)
  case atStart => exact ⟨rfl, rfl⟩
  case round =>
    obtain ⟨rfl, rfl⟩ := hrel
    go_wp2
    go_end0
    exact ⟨rfl, rfl⟩
set_option maxRecDepth 100000 in
set_option maxHeartbeats 8000000 in
theorem pdq0 (A : Option Addr) (c : Nat) (z : Int) (v : Value) (w : World) : Calls Tryz.prog 112 #[.slice A 0 c, .int .i64 0, .int .i64 0, .int .i64 z, v] w fun e w' => e = .returned (.tuple #[]) ∧ w' = w := by
  go_enter Tryz.func112, Tryz.ntmps112
  go_wp2
  go_loopw [1, 2, 3, 10, 11] (fun a b c d f wr => a = .int .i64 0 ∧ b = .int .i64 0 ∧ wr = w) (fun _ _ _ _ _ _ => 0)
  case atStart => exact ⟨rfl, rfl, rfl⟩
  case round =>
    obtain ⟨rfl, rfl, rfl⟩ := hrel
    go_wp2_with (go_at_call 125; refine (ins0 _ _ _ _).mono ?_; rintro e w' ⟨rfl, rfl⟩)
    refine bodyPost_ret (results_none rfl _ _ _) rfl ?_
    exact ⟨rfl, rfl⟩
set_option maxRecDepth 100000 in
set_option maxHeartbeats 8000000 in
theorem sort0 (A : Option Addr) (c : Nat) (v : Value) (w : World) : Calls Tryz.prog 92 #[.slice A 0 c, v] w fun e w' => e = .returned (.tuple #[]) ∧ w' = w := by
  go_enter Tryz.func92, Tryz.ntmps92
  go_wp2_with (first
    | (go_at_call 113; refine (len0 _).mono ?_; rintro e w' ⟨⟨z, rfl⟩, rfl⟩)
    | (go_at_call 112; refine (pdq0 _ _ _ _ _).mono ?_; rintro e w' ⟨rfl, rfl⟩))
  go_end0
  exact ⟨rfl, rfl⟩
set_option maxHeartbeats 8000000 in
theorem sorted0 {w : World} {b : Nat} (h : SeqStops Fence.wide 3 Tryz.prog 93 #[.pointer (some ⟨b, 0, none⟩)] kv (fun xs : List Ky => xs = []) (fun _ => False) 0 w) : Calls Tryz.prog 66 #[.func (.func 93) #[] #[.pointer (some ⟨b, 0, none⟩)], .func (.func 68) #[] #[]] w fun e w' => ∃ A c, e = .returned (.slice A 0 c) ∧ RowKit.Below w.heap.size w w' := by
  have HC := callsIn_wide.1 (collect Fence.wide 5 trivial trivial rfl (by omega) 93 _ trivial (enters_of Tryz.func93 (by kernel_rfl) rfl) _ _ 0 (by omega) w h)
  go_enter Tryz.func66, Tryz.ntmps66
  go_wp2_with (fail)
  refine HC.mono ?_
  rintro e w1 ⟨v, ks, rfl, rfl, hrow, hb⟩
  obtain ⟨A, c, rfl⟩ : ∃ A c, v = .slice A 0 c := by
    rcases hrow.2 with ⟨rfl, -⟩ | ⟨g, cap, cur, rfl, -⟩
    · exact ⟨_, _, rfl⟩
    · exact ⟨_, _, rfl⟩
  go_wp2_with (fail)
  refine (sort0 _ _ _ _).mono ?_
  rintro e w2 ⟨rfl, rfl⟩
  go_wp2
  go_ret
  exact ⟨_, _, rfl, hb⟩
/-- The sorted keys of a map that is not there. -/
theorem insts0 {w : World} {g : Nat} (h : w.cell? ⟨g, 4, none⟩ = some (.map none)) : Calls Tryz.prog 46 #[.pointer (some ⟨g, 0, none⟩)] w fun e w' => ∃ A c, e = .returned (.slice A 0 c) ∧ RowKit.Below w.heap.size w w' := by
  go_enter Tryz.func46, Tryz.ntmps46
  go_wp2_with (fail)
  refine (keys_any none _).mono ?_
  rintro e w1 ⟨rfl, rfl⟩
  go_wp2_with (fail)
  have HS : SeqStops Fence.wide 3 Tryz.prog 93 #[.pointer (some ⟨w.heap.size, 0, none⟩)] kv (fun xs : List Ky => xs = []) (fun _ => False) 0 (w.alloc (.cells #[.map none] 73)) := keys_nil _ _ trivial rfl _ _ (by simp) (Boxed.new w 73 (.map none)).cell
  refine (sorted0 HS).mono ?_
  rintro e w2 ⟨A, c, rfl, hb⟩
  go_wp2
  go_ret
  exact ⟨A, c, rfl, below_on ((RowKit.Below.refl _ w).alloc (Nat.le_refl _) _) hb⟩
end It
end Go.Proofs.YtdachohcjpjblaaGreatDoor
