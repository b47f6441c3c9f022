/- Contract: records in two rows are the same; how many bytes records have; no conditions but those that they name. -/
import Derived.Test.YtdachohcjpjblaaGreatDoorLMet
import Derived.Test.YtdachohcjpjblaaGreatDoorWiG
import Derived.Test.YtdachohcjpjblaaGreatDoorWiD
set_option maxHeartbeats 8000000
set_option maxRecDepth 100000
namespace Go.Proofs.YtdachohcjpjblaaGreatDoor
open Go.ChangeShapes Go.WideShapes Go.ChangeAt Go.RowKit
open Di (Keeps In below_on below_new)
open Wi (Hold)
theorem sameRec_refl (r : K.Rec) : Wi.M.sameRec r r = true := by
 simp [Wi.M.sameRec, Wi.M.eq2, Wi.M.sameC, Wi.M.sameR, Wi.M.sameW, Wi.V7.same7]
end Go.Proofs.YtdachohcjpjblaaGreatDoor
