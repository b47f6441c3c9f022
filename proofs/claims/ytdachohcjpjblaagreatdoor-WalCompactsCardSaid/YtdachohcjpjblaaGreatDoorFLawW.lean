/- WalWhole: the law's walk; conditions: the table of sixteen, arguments that read as records. -/
import Derived.Test.YtdachohcjpjblaaGreatDoorFAwk
import Derived.Test.YtdachohcjpjblaaGreatDoorFFew
set_option maxHeartbeats 8000000
set_option maxRecDepth 100000
namespace Go.Proofs.YtdachohcjpjblaaGreatDoor
open Go.ChangeShapes Go.WideShapes Go.ChangeAt Go.RowKit
open Di (Keeps In below_on below_new)
open Wi (Hold)
theorem K.ap_z {s : Di.M.St} {X : List Rv} : (K.apS X s).z = s.z := by
 unfold K.apS Di.M.app
 split
 ·split <;> rfl
 ·rfl
theorem modX_iff {X : List Rv} (h : modX X = true) : ∀ x ∈ X, Wi.M.Mod x.r.c := fun x hx => Wi.M.modB_iff.1 (List.all_eq_true.1 h x hx)
end Go.Proofs.YtdachohcjpjblaaGreatDoor
