/- A slice of texts as an argument: opened to its list; no conditions. -/
import Derived.Test.YtagngbdlpdilnaaWalksD
import Derived.ProofKit
import Derived.OpenShut
import Derived.Carry
import Derived.SliceStrings
import Derived.ChangeMaps5
import Derived.Sort.EncStr
namespace Go.Proofs.Ytagngbdlpdilnaa
open Go.ChangeShapes Go.WideShapes Go.ChangeAt Go.RowKit

theorem own : ownKnob Try.prog.godebug = none := by kernel_rfl
theorem laidOut : laidOutB Try.prog = true := by kernel_rfl
theorem cells9 : Try.prog.cellsOf 9 = 1 := by kernel_rfl

/-- A slice of texts. -/
def Words (w : World) (v : Value) (ss : List (List UInt8)) : Prop := Row w v (ss.map encStr)
theorem Words.below {w w' : World} {v : Value} {ss : List (List UInt8)} (h : Words w v ss) (hb : Below w.heap.size w w') : Words w' v ss := Row.below h hb
theorem enc_of (s : ByteArray) : encStr s.data.toList = .string s := by cases s; simp [encStr]

end Go.Proofs.Ytagngbdlpdilnaa
