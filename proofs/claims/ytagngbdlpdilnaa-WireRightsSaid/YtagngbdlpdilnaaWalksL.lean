/- Contract of the library's Concat at two lists of texts; no conditions but the lengths that it names. -/
import Derived.Test.YtagngbdlpdilnaaWalksK
namespace Go.Proofs.Ytagngbdlpdilnaa
open Go.ChangeShapes Go.WideShapes Go.ChangeAt Go.RowKit

/-- One of three places. -/
def At3 (i : Value) (P0 P1 P2 : Prop) : Prop := (i = .int .i64 0 ∧ P0) ∨ (i = .int .i64 1 ∧ P1) ∨ (i = .int .i64 2 ∧ P2)

theorem Made.words {l : List (List UInt8)} {w' : World} {base : Nat} {v : Value} (h : w'.ownsRow base 9 1 v l.length (l.map encStr)) : Words w' v l := Row.of_owns h

end Go.Proofs.Ytagngbdlpdilnaa
