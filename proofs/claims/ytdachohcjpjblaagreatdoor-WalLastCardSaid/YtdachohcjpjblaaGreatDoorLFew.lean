/- Contract of the law's few: may steps be gone through; no conditions but those that it names. -/
import Derived.Test.YtdachohcjpjblaaGreatDoorLFrs
set_option maxHeartbeats 8000000
set_option maxRecDepth 100000
namespace Go.Proofs.YtdachohcjpjblaaGreatDoor
open Go.ChangeShapes Go.WideShapes Go.ChangeAt Go.RowKit
open Di (Keeps In below_on below_new)
open Wi (Hold)
structure Dv where
 vb : Int
 n : Int
 ps : Int
 msk : UInt8
 X : List Rv
 rv : Value
def Dv.cells (d : Dv) : List Value := [.int .i64 d.vb,.int .i64 d.n,.int .i64 d.ps,.int .u8 (d.msk.toNat : Int), d.rv]
def modX (X : List Rv) : Bool := X.all fun x => Wi.M.modB x.r.c
def Dv.fewB (d : Dv) : Bool := decide (d.X.length ≤ 4) && modX d.X
def fewB (z : Int) (D : List Dv) : Bool := D.all Dv.fewB && (decide (D.length ≤ 30) && (decide (0 ≤ z) && decide (z ≤ 1048576)))
structure DoRows (w : World) (v : Value) (D : List Dv) : Prop where
 row : Wi.RowN 5 w v D.length (D.flatMap Dv.cells)
 tx : ∀ d ∈ D, Rows w d.rv d.X
end Go.Proofs.YtdachohcjpjblaaGreatDoor
