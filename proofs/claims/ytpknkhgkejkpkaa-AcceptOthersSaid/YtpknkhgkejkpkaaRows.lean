/-
  No cell of these rows narrows 'for every input' (looked for: loops, veiled, ifaces, maps, wideKeys, modest, calm, conditions, laid).
  DERIVED. THE GIVEN ROWS OF THIS SEAT. 2 by the template 'for every input the law returns true; each argument reads behind the call as it read before'; 0 by the template 'total and deterministic' (their statements: YtpknkhgkejkpkaaTotals.lean).
  GIVEN WITH THE SEED: the statements are not yours to turn. If you find one false, say at which input.
  Laid BY PROGRAM, IN A SANDBOX (cutbox-rows.mjs): the forced cells as the released guide's own fill.sh prints them over the translation 37c8cf3356b5bfc8… (all of the seat's roots in one cut). By AI agents, Wed Nov 11 2026. No macro, syntax, notation, axiom, sorry.
-/
import Derived.Test.YtpknkhgkejkpkaaChecked
import GoSem.Claim
import GoSem.ClaimJoined
import GoSem.ClaimMapViews
import Derived.JoinedTies
import Derived.KernelRfl
namespace Go.Proofs.Ytpknkhgkejkpkaa
/- THE CELL 'sum', in the pinned program and in every row, IS THE sha256 OF THE DUMP (.gsa) THAT YtpknkhgkejkpkaaProg.lean LOADS. Nothing in Lean hashes anything: it is a label: what it is worth is what the hold of that sum in a sandbox is worth. -/
noncomputable def Try.pinned : Pinned := { name := "ytpknkhgkejkpkaa", sum := "37c8cf3356b5bfc875891ccb914dc85fe7b056d3137448ab708bad19d99d2120", checked := Try.checked }
namespace Rows
def none {H : Type} : Left H := { results := [], args := [] }

/-- 'althinglaw12.AcceptAfter': WHATEVER THE INPUT: true; the input reads as it did. -/
def acceptAfterSpec : ChangeSpec := { name := "acceptAfter", fn := fun _ => fun
  | [d1, d2, d3, d4] => { results := [.lit (.bool true)], args := [d1, d2, d3, d4] }
  | _ => none }
def acceptAfterRow : OpenClaim := { program := "ytpknkhgkejkpkaa", sum := "37c8cf3356b5bfc875891ccb914dc85fe7b056d3137448ab708bad19d99d2120", func := "althing/althinglaw12.AcceptAfter", spec := "acceptAfter", unfollowed := true, recurses := true, plainKeys := false, apart := false }
def AcceptAfterSaid : Prop := acceptAfterRow.holds Try.pinned (OpenSpec.ofChange acceptAfterSpec)

/-- ITS FALSE NEIGHBOUR: 'it returns false'. Refute it at one input. -/
def acceptAfterWrong : ChangeSpec := { name := "acceptAfter", fn := fun _ => fun
  | [d1, d2, d3, d4] => { results := [.lit (.bool false)], args := [d1, d2, d3, d4] }
  | _ => none }
def AcceptAfterWrongFalsely : Prop := acceptAfterRow.holds Try.pinned (OpenSpec.ofChange acceptAfterWrong)

/-- 'althinglaw12.AcceptOthers': WHATEVER THE INPUT: true; the input reads as it did. -/
def acceptOthersSpec : ChangeSpec := { name := "acceptOthers", fn := fun _ => fun
  | [d1, d2, d3, d4] => { results := [.lit (.bool true)], args := [d1, d2, d3, d4] }
  | _ => none }
def acceptOthersRow : OpenClaim := { program := "ytpknkhgkejkpkaa", sum := "37c8cf3356b5bfc875891ccb914dc85fe7b056d3137448ab708bad19d99d2120", func := "althing/althinglaw12.AcceptOthers", spec := "acceptOthers", unfollowed := true, recurses := true, plainKeys := false, apart := false }
def AcceptOthersSaid : Prop := acceptOthersRow.holds Try.pinned (OpenSpec.ofChange acceptOthersSpec)

/-- ITS FALSE NEIGHBOUR: 'it returns false'. Refute it at one input. -/
def acceptOthersWrong : ChangeSpec := { name := "acceptOthers", fn := fun _ => fun
  | [d1, d2, d3, d4] => { results := [.lit (.bool false)], args := [d1, d2, d3, d4] }
  | _ => none }
def AcceptOthersWrongFalsely : Prop := acceptOthersRow.holds Try.pinned (OpenSpec.ofChange acceptOthersWrong)

/- THE SECOND FORM. 'bulk': how many values and letters a reading holds, each counted each time it is reached (what is shared counts as often as it is met; a slice's spare places count too). A statement '..UptoSaid' is the law's where the arguments, and the package variables that the reading takes, are together of bulk at most 1048576: NARROWER than '..Said'. Prove '..Said' where nothing that the law and all that it calls make is longer than what came in: it says more and counts as full. Else prove '..UptoSaid'. A law counts once. -/
mutual
def uptoBulk {H : Type} : DataW H → Nat
  | .lit (.string bytes) => bytes.length + 1
  | .lit _ => 1
  | .nil => 1
  | .ptr d => uptoBulk d + 1
  | .slice elems spare => uptoBulkAll elems + uptoBulkAll spare + 1
  | .agg parts => uptoBulkAll parts + 1
  | .iface _ d => uptoBulk d + 1
  | .map entries => uptoBulkEntries entries + 1
  | .held _ => 1
def uptoBulkAll {H : Type} : List (DataW H) → Nat
  | [] => 0
  | d :: r => uptoBulk d + uptoBulkAll r
def uptoBulkEntries {H : Type} : List (Lit × DataW H) → Nat
  | [] => 0
  | x :: r => uptoBulkEntry x + uptoBulkEntries r
def uptoBulkEntry {H : Type} : Lit × DataW H → Nat
  | (.string bytes, d) => bytes.length + uptoBulk d + 1
  | (_, d) => uptoBulk d + 1
 end
def uptoSmall : (H : Type) → List (DataW H) → Bool := fun _ ds => decide (uptoBulkAll ds ≤ 1048576)
def OpenSpec.upto (s : _root_.Go.ChangeSpec) : _root_.Go.OpenSpec := { _root_.Go.OpenSpec.ofChange s with cond := some uptoSmall }

/-- 'althinglaw12.AcceptAfter', WHERE WHAT IT READS IS OF BULK AT MOST 1048576: true; the input reads as it did. -/
def acceptAfterUptoRow : OpenClaim := { program := "ytpknkhgkejkpkaa", sum := "37c8cf3356b5bfc875891ccb914dc85fe7b056d3137448ab708bad19d99d2120", func := "althing/althinglaw12.AcceptAfter", spec := "acceptAfter", unfollowed := true, recurses := true, plainKeys := false, apart := false, narrowed := true }
def AcceptAfterUptoSaid : Prop := acceptAfterUptoRow.holds Try.pinned (OpenSpec.upto acceptAfterSpec)

/-- 'althinglaw12.AcceptOthers', WHERE WHAT IT READS IS OF BULK AT MOST 1048576: true; the input reads as it did. -/
def acceptOthersUptoRow : OpenClaim := { program := "ytpknkhgkejkpkaa", sum := "37c8cf3356b5bfc875891ccb914dc85fe7b056d3137448ab708bad19d99d2120", func := "althing/althinglaw12.AcceptOthers", spec := "acceptOthers", unfollowed := true, recurses := true, plainKeys := false, apart := false, narrowed := true }
def AcceptOthersUptoSaid : Prop := acceptOthersUptoRow.holds Try.pinned (OpenSpec.upto acceptOthersSpec)

end Rows
end Go.Proofs.Ytpknkhgkejkpkaa
