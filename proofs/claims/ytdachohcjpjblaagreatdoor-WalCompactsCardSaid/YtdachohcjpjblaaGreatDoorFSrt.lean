/- Sorting nothing; the instances of content that has no map; conditions: none. -/
import Derived.Test.YtdachohcjpjblaaGreatDoorFItr
set_option maxHeartbeats 8000000
set_option maxRecDepth 100000
namespace Go.Proofs.YtdachohcjpjblaaGreatDoor
open Go.ChangeShapes Go.WideShapes Go.ChangeAt Go.RowKit
open Di (Keeps In below_on below_new)
open Wi (Hold)
open Go.Proofs Go.Maps Go.Shelf Go.Sort
namespace It
theorem len0 (w : World) : Calls Tryz.prog 113 #[.int .u64 0] w fun e w' => (∃ z, e = .returned (.int .i64 z)) ∧ w' = w := by
 go_enter Tryz.func113, Tryz.ntmps113
 go_wp2
 go_ret
 exact ⟨⟨_, rfl⟩, rfl⟩
theorem ins0 (A : Option Addr) (c : Nat) (v : Value) (w : World) : Calls Tryz.prog 125 #[.slice A 0 c,.int .i64 0,.int .i64 0, v] w fun e w' => e = .returned (.tuple #[]) ∧ w' = w := by
 go_enter Tryz.func125, Tryz.ntmps125
 go_wp2
 go_loopw [8] (fun o wr => o = .int .i64 1 ∧ wr = w) (fun _ _ => 0)
 case atStart => exact ⟨rfl, rfl⟩
 case round =>
  obtain ⟨rfl, rfl⟩ := hrel
  go_wp2
  go_end0
  exact ⟨rfl, rfl⟩
theorem pdq0 (A : Option Addr) (c : Nat) (z : Int) (v : Value) (w : World) : Calls Tryz.prog 112 #[.slice A 0 c,.int .i64 0,.int .i64 0,.int .i64 z, v] w fun e w' => e = .returned (.tuple #[]) ∧ w' = w := by
 go_enter Tryz.func112, Tryz.ntmps112
 go_wp2
 go_loopw [1, 2, 3, 10, 11] (fun a b c d f wr => a = .int .i64 0 ∧ b = .int .i64 0 ∧ wr = w) (fun _ _ _ _ _ _ => 0)
 case atStart => exact ⟨rfl, rfl, rfl⟩
 case round =>
  obtain ⟨rfl, rfl, rfl⟩ := hrel
  go_wp2_with (go_at_call 125; refine (ins0 _ _ _ _).mono ?_; rintro e w' ⟨rfl, rfl⟩)
  refine bodyPost_ret (results_none rfl _ _ _) rfl ?_
  exact ⟨rfl, rfl⟩
theorem sort0 (A : Option Addr) (c : Nat) (v : Value) (w : World) : Calls Tryz.prog 92 #[.slice A 0 c, v] w fun e w' => e = .returned (.tuple #[]) ∧ w' = w := by
 go_enter Tryz.func92, Tryz.ntmps92
 go_wp2_with (first
  | (go_at_call 113; refine (len0 _).mono ?_; rintro e w' ⟨⟨z, rfl⟩, rfl⟩)
  | (go_at_call 112; refine (pdq0 _ _ _ _ _).mono ?_; rintro e w' ⟨rfl, rfl⟩))
 go_end0
 exact ⟨rfl, rfl⟩
end It
end Go.Proofs.YtdachohcjpjblaaGreatDoor
