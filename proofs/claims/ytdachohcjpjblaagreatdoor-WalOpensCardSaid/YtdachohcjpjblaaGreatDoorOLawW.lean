/- WalWhole: the law's walk; conditions: the table of sixteen, arguments that read as records. -/
import Derived.Test.YtdachohcjpjblaaGreatDoorOAwk
import Derived.Test.YtdachohcjpjblaaGreatDoorOFew
set_option maxHeartbeats 8000000
set_option maxRecDepth 100000
namespace Go.Proofs.YtdachohcjpjblaaGreatDoor
open Go.ChangeShapes Go.WideShapes Go.ChangeAt Go.RowKit
open Di (Keeps In below_on below_new)
open Wi (Hold)
theorem rows_len {w : World} {v : Value} {X : List Rv} (h : Rows w v X) : ∃ A c, v = .slice A X.length c := rowN_sliceOf h.row
end Go.Proofs.YtdachohcjpjblaaGreatDoor
