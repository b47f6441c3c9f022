/- How instances are compared; no conditions. -/
import Derived.Test.YtdachohcjpjblaaGreatDoorFItr
import Derived.Shelf.SlSortCmp.NoneTotal
set_option maxHeartbeats 8000000
set_option maxRecDepth 100000
namespace Go.Proofs.YtdachohcjpjblaaGreatDoor
open Go.ChangeShapes Go.WideShapes Go.ChangeAt Go.RowKit
open Di (Keeps In below_on below_new)
open Wi (Hold)
open Go.Proofs Go.Maps Go.Shelf Go.Sort Go.Lib
namespace Cm
def cmpI (x y : Ky) : Int := if x = y then 0 else if x.1 = y.1 then (if x.2 < y.2 then -1 else 1) else (if x.1 < y.1 then -1 else 1)
theorem side_any (b : Bool) (w : World) : Calls Tryz.prog 94 #[.bool b] w fun e w' => e = .returned (.int .i64 (if b = true then -1 else 1)) ∧ w' = w := by
 cases b
 all_goals
  go_enter Tryz.func94, Tryz.ntmps94
  go_wp2
  go_ret
  exact ⟨rfl, rfl⟩
theorem cmp_any (x y : Ky) (w : World) : Calls Tryz.prog 68 #[.agg #[.int .i64 x.1,.int .i64 x.2],.agg #[.int .i64 y.1,.int .i64 y.2]] w fun e w' => e = .returned (.int .i64 (cmpI x y)) ∧ ∃ q os', w' = grow (w.drewN q) os' := by
 obtain ⟨a, b⟩ := x
 obtain ⟨c, d⟩ := y
 dsimp only
 by_cases h1 : a = c
 ·subst h1
  by_cases h2 : b = d
  ·subst h2
   have e0 : cmpI (a, b) (a, b) = 0 := by simp [cmpI]
   rw [e0]
   go_enter Tryz.func68, Tryz.ntmps68
   go_wp2
   go_ret
   exact ⟨rfl, 0, _, by rw [alloc_eq_grow, alloc_eq_grow, grow_grow]; rfl⟩
  ·rcases Int.lt_or_le b d with hlt | hle
   ·have e0 : cmpI (a, b) (a, d) = -1 := by simp [cmpI, h2, hlt]
    rw [e0]
    go_enter Tryz.func68, Tryz.ntmps68
    go_wp2_with (go_at_call 94; refine (side_any true _).mono ?_; rintro e w' ⟨rfl, rfl⟩)
    go_ret
    exact ⟨rfl, 0, _, by rw [alloc_eq_grow, alloc_eq_grow, grow_grow]; rfl⟩
   ·have e0 : cmpI (a, b) (a, d) = 1 := by simp [cmpI, h2, Int.not_lt.2 hle]
    have hn : ¬ b < d := Int.not_lt.2 hle
    rw [e0]
    go_enter Tryz.func68, Tryz.ntmps68
    go_wp2_with (go_at_call 94; refine (side_any false _).mono ?_; rintro e w' ⟨rfl, rfl⟩)
    go_ret
    exact ⟨rfl, 0, _, by rw [alloc_eq_grow, alloc_eq_grow, grow_grow]; rfl⟩
 ·rcases Int.lt_or_le a c with hlt | hle
  ·have e0 : cmpI (a, b) (c, d) = -1 := by simp [cmpI, h1, hlt]
   rw [e0]
   go_enter Tryz.func68, Tryz.ntmps68
   go_wp2_with (go_at_call 94; refine (side_any true _).mono ?_; rintro e w' ⟨rfl, rfl⟩)
   go_ret
   exact ⟨rfl, 0, _, by rw [alloc_eq_grow, alloc_eq_grow, grow_grow]; rfl⟩
  ·have e0 : cmpI (a, b) (c, d) = 1 := by simp [cmpI, h1, Int.not_lt.2 hle]
   have hn : ¬ a < c := Int.not_lt.2 hle
   rw [e0]
   go_enter Tryz.func68, Tryz.ntmps68
   go_wp2_with (go_at_call 94; refine (side_any false _).mono ?_; rintro e w' ⟨rfl, rfl⟩)
   go_ret
   exact ⟨rfl, 0, _, by rw [alloc_eq_grow, alloc_eq_grow, grow_grow]; rfl⟩
theorem cmpI_lt (x y : Ky) : cmpI x y < 0 ↔ x.1 < y.1 ∨ (x.1 = y.1 ∧ x.2 < y.2) := by
 obtain ⟨a, b⟩ := x
 obtain ⟨c, d⟩ := y
 unfold cmpI
 simp only [Prod.mk.injEq]
 split
 ·rename_i h; omega
 ·split
  ·split <;> omega
  ·split <;> omega
theorem swo : SWO (ltOf cmpI) := ⟨fun x => by
 simp only [ltOf, decide_eq_false_iff_not, cmpI_lt]; omega, fun x y z h1 h2 => by
 simp only [ltOf, decide_eq_true_eq, cmpI_lt] at *; omega, fun x y z h1 h2 => by
 simp only [ltOf, decide_eq_false_iff_not, cmpI_lt] at *; omega⟩
theorem lays (blk off size : Nat) (w : World) : CmpLays Tryz.prog 68 #[] It.kc 2 cmpI blk off size w := fun _ _ _ _ x y => cmp_any x y _
end Cm
end Go.Proofs.YtdachohcjpjblaaGreatDoor
