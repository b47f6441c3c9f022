/-
  No cell of these rows narrows 'for every input' (looked for: loops, veiled, ifaces, maps, wideKeys, modest, calm, conditions, laid).
  DERIVED. THE GIVEN ROWS OF THIS SEAT. 5 by the template 'for every input the law returns true; each argument reads behind the call as it read before'; 0 by the template 'total and deterministic' (their statements: YtpknkhgkejkpkaaGreatTotals.lean).
  GIVEN WITH THE SEED: the statements are not yours to turn. If you find one false, say at which input.
  Laid BY PROGRAM, IN A SANDBOX (cutbox-rows.mjs): the forced cells as the released guide's own fill.sh prints them over the translation 32bf58907301ecb5… (all of the seat's roots in one cut). By AI agents, Wed Nov 11 2026. No macro, syntax, notation, axiom, sorry.
-/
import Derived.Test.YtpknkhgkejkpkaaGreatChecked
import GoSem.Claim
import GoSem.ClaimJoined
import GoSem.ClaimMapViews
import Derived.JoinedTies
import Derived.KernelRfl
namespace Go.Proofs.YtpknkhgkejkpkaaGreat
/- THE CELL 'sum', in the pinned program and in every row, IS THE sha256 OF THE DUMP (.gsa) THAT YtpknkhgkejkpkaaGreatProg.lean LOADS. Nothing in Lean hashes anything: it is a label: what it is worth is what the hold of that sum in a sandbox is worth. -/
noncomputable def Tryz.pinned : Pinned := { name := "ytpknkhgkejkpkaagreat", sum := "32bf58907301ecb54c2e5340c18b2d34e01f279cf02da6a178e536c2d17aa40b", checked := Tryz.checked }
namespace Rows
def none {H : Type} : Left H := { results := [], args := [] }

/-- 'althinglaw12.AcceptBegins': WHATEVER THE INPUT: true; the input reads as it did. -/
def acceptBeginsSpec : ChangeSpec := { name := "acceptBegins", fn := fun _ => fun
  | [d1, d2, d3, d4] => { results := [.lit (.bool true)], args := [d1, d2, d3, d4] }
  | _ => none }
def acceptBeginsRow : OpenClaim := { program := "ytpknkhgkejkpkaagreat", sum := "32bf58907301ecb54c2e5340c18b2d34e01f279cf02da6a178e536c2d17aa40b", func := "althing/althinglaw12.AcceptBegins", spec := "acceptBegins", unfollowed := true, recurses := true, plainKeys := false, apart := false }
def AcceptBeginsSaid : Prop := acceptBeginsRow.holds Tryz.pinned (OpenSpec.ofChange acceptBeginsSpec)

/-- ITS FALSE NEIGHBOUR: 'it returns false'. Refute it at one input. -/
def acceptBeginsWrong : ChangeSpec := { name := "acceptBegins", fn := fun _ => fun
  | [d1, d2, d3, d4] => { results := [.lit (.bool false)], args := [d1, d2, d3, d4] }
  | _ => none }
def AcceptBeginsWrongFalsely : Prop := acceptBeginsRow.holds Tryz.pinned (OpenSpec.ofChange acceptBeginsWrong)

/-- 'althinglaw12.AcceptKeeps': WHATEVER THE INPUT: true; the input reads as it did. -/
def acceptKeepsSpec : ChangeSpec := { name := "acceptKeeps", fn := fun _ => fun
  | [d1, d2, d3] => { results := [.lit (.bool true)], args := [d1, d2, d3] }
  | _ => none }
def acceptKeepsRow : OpenClaim := { program := "ytpknkhgkejkpkaagreat", sum := "32bf58907301ecb54c2e5340c18b2d34e01f279cf02da6a178e536c2d17aa40b", func := "althing/althinglaw12.AcceptKeeps", spec := "acceptKeeps", unfollowed := true, recurses := true, plainKeys := false, apart := false }
def AcceptKeepsSaid : Prop := acceptKeepsRow.holds Tryz.pinned (OpenSpec.ofChange acceptKeepsSpec)

/-- ITS FALSE NEIGHBOUR: 'it returns false'. Refute it at one input. -/
def acceptKeepsWrong : ChangeSpec := { name := "acceptKeeps", fn := fun _ => fun
  | [d1, d2, d3] => { results := [.lit (.bool false)], args := [d1, d2, d3] }
  | _ => none }
def AcceptKeepsWrongFalsely : Prop := acceptKeepsRow.holds Tryz.pinned (OpenSpec.ofChange acceptKeepsWrong)

/-- 'althinglaw12.AcceptAgain': WHATEVER THE INPUT: true; the input reads as it did. -/
def acceptAgainSpec : ChangeSpec := { name := "acceptAgain", fn := fun _ => fun
  | [d1, d2, d3] => { results := [.lit (.bool true)], args := [d1, d2, d3] }
  | _ => none }
def acceptAgainRow : OpenClaim := { program := "ytpknkhgkejkpkaagreat", sum := "32bf58907301ecb54c2e5340c18b2d34e01f279cf02da6a178e536c2d17aa40b", func := "althing/althinglaw12.AcceptAgain", spec := "acceptAgain", unfollowed := true, recurses := true, plainKeys := false, apart := false }
def AcceptAgainSaid : Prop := acceptAgainRow.holds Tryz.pinned (OpenSpec.ofChange acceptAgainSpec)

/-- ITS FALSE NEIGHBOUR: 'it returns false'. Refute it at one input. -/
def acceptAgainWrong : ChangeSpec := { name := "acceptAgain", fn := fun _ => fun
  | [d1, d2, d3] => { results := [.lit (.bool false)], args := [d1, d2, d3] }
  | _ => none }
def AcceptAgainWrongFalsely : Prop := acceptAgainRow.holds Tryz.pinned (OpenSpec.ofChange acceptAgainWrong)

/-- 'althinglaw12.AcceptOrders': WHATEVER THE INPUT: true; the input reads as it did. -/
def acceptOrdersSpec : ChangeSpec := { name := "acceptOrders", fn := fun _ => fun
  | [d1, d2, d3] => { results := [.lit (.bool true)], args := [d1, d2, d3] }
  | _ => none }
def acceptOrdersRow : OpenClaim := { program := "ytpknkhgkejkpkaagreat", sum := "32bf58907301ecb54c2e5340c18b2d34e01f279cf02da6a178e536c2d17aa40b", func := "althing/althinglaw12.AcceptOrders", spec := "acceptOrders", unfollowed := true, recurses := true, plainKeys := false, apart := false }
def AcceptOrdersSaid : Prop := acceptOrdersRow.holds Tryz.pinned (OpenSpec.ofChange acceptOrdersSpec)

/-- ITS FALSE NEIGHBOUR: 'it returns false'. Refute it at one input. -/
def acceptOrdersWrong : ChangeSpec := { name := "acceptOrders", fn := fun _ => fun
  | [d1, d2, d3] => { results := [.lit (.bool false)], args := [d1, d2, d3] }
  | _ => none }
def AcceptOrdersWrongFalsely : Prop := acceptOrdersRow.holds Tryz.pinned (OpenSpec.ofChange acceptOrdersWrong)

/-- 'althinglaw12.AcceptOwn': WHATEVER THE INPUT: true; the input reads as it did. -/
def acceptOwnSpec : ChangeSpec := { name := "acceptOwn", fn := fun _ => fun
  | [d1, d2, d3] => { results := [.lit (.bool true)], args := [d1, d2, d3] }
  | _ => none }
def acceptOwnRow : OpenClaim := { program := "ytpknkhgkejkpkaagreat", sum := "32bf58907301ecb54c2e5340c18b2d34e01f279cf02da6a178e536c2d17aa40b", func := "althing/althinglaw12.AcceptOwn", spec := "acceptOwn", unfollowed := true, recurses := true, plainKeys := false, apart := false }
def AcceptOwnSaid : Prop := acceptOwnRow.holds Tryz.pinned (OpenSpec.ofChange acceptOwnSpec)

/-- ITS FALSE NEIGHBOUR: 'it returns false'. Refute it at one input. -/
def acceptOwnWrong : ChangeSpec := { name := "acceptOwn", fn := fun _ => fun
  | [d1, d2, d3] => { results := [.lit (.bool false)], args := [d1, d2, d3] }
  | _ => none }
def AcceptOwnWrongFalsely : Prop := acceptOwnRow.holds Tryz.pinned (OpenSpec.ofChange acceptOwnWrong)

/- THE SECOND FORM. 'bulk': how many values and letters a reading holds, each counted each time it is reached (what is shared counts as often as it is met; a slice's spare places count too). A statement '..UptoSaid' is the law's where the arguments, and the package variables that the reading takes, are together of bulk at most 1048576: NARROWER than '..Said'. Prove '..Said' where nothing that the law and all that it calls make is longer than what came in: it says more and counts as full. Else prove '..UptoSaid'. A law counts once. -/
mutual
def uptoBulk {H : Type} : DataW H → Nat
  | .lit (.string bytes) => bytes.length + 1
  | .lit _ => 1
  | .nil => 1
  | .ptr d => uptoBulk d + 1
  | .slice elems spare => uptoBulkAll elems + uptoBulkAll spare + 1
  | .agg parts => uptoBulkAll parts + 1
  | .iface _ d => uptoBulk d + 1
  | .map entries => uptoBulkEntries entries + 1
  | .held _ => 1
def uptoBulkAll {H : Type} : List (DataW H) → Nat
  | [] => 0
  | d :: r => uptoBulk d + uptoBulkAll r
def uptoBulkEntries {H : Type} : List (Lit × DataW H) → Nat
  | [] => 0
  | x :: r => uptoBulkEntry x + uptoBulkEntries r
def uptoBulkEntry {H : Type} : Lit × DataW H → Nat
  | (.string bytes, d) => bytes.length + uptoBulk d + 1
  | (_, d) => uptoBulk d + 1
 end
def uptoSmall : (H : Type) → List (DataW H) → Bool := fun _ ds => decide (uptoBulkAll ds ≤ 1048576)
def OpenSpec.upto (s : _root_.Go.ChangeSpec) : _root_.Go.OpenSpec := { _root_.Go.OpenSpec.ofChange s with cond := some uptoSmall }

/-- 'althinglaw12.AcceptBegins', WHERE WHAT IT READS IS OF BULK AT MOST 1048576: true; the input reads as it did. -/
def acceptBeginsUptoRow : OpenClaim := { program := "ytpknkhgkejkpkaagreat", sum := "32bf58907301ecb54c2e5340c18b2d34e01f279cf02da6a178e536c2d17aa40b", func := "althing/althinglaw12.AcceptBegins", spec := "acceptBegins", unfollowed := true, recurses := true, plainKeys := false, apart := false, narrowed := true }
def AcceptBeginsUptoSaid : Prop := acceptBeginsUptoRow.holds Tryz.pinned (OpenSpec.upto acceptBeginsSpec)

/-- 'althinglaw12.AcceptKeeps', WHERE WHAT IT READS IS OF BULK AT MOST 1048576: true; the input reads as it did. -/
def acceptKeepsUptoRow : OpenClaim := { program := "ytpknkhgkejkpkaagreat", sum := "32bf58907301ecb54c2e5340c18b2d34e01f279cf02da6a178e536c2d17aa40b", func := "althing/althinglaw12.AcceptKeeps", spec := "acceptKeeps", unfollowed := true, recurses := true, plainKeys := false, apart := false, narrowed := true }
def AcceptKeepsUptoSaid : Prop := acceptKeepsUptoRow.holds Tryz.pinned (OpenSpec.upto acceptKeepsSpec)

/-- 'althinglaw12.AcceptAgain', WHERE WHAT IT READS IS OF BULK AT MOST 1048576: true; the input reads as it did. -/
def acceptAgainUptoRow : OpenClaim := { program := "ytpknkhgkejkpkaagreat", sum := "32bf58907301ecb54c2e5340c18b2d34e01f279cf02da6a178e536c2d17aa40b", func := "althing/althinglaw12.AcceptAgain", spec := "acceptAgain", unfollowed := true, recurses := true, plainKeys := false, apart := false, narrowed := true }
def AcceptAgainUptoSaid : Prop := acceptAgainUptoRow.holds Tryz.pinned (OpenSpec.upto acceptAgainSpec)

/-- 'althinglaw12.AcceptOrders', WHERE WHAT IT READS IS OF BULK AT MOST 1048576: true; the input reads as it did. -/
def acceptOrdersUptoRow : OpenClaim := { program := "ytpknkhgkejkpkaagreat", sum := "32bf58907301ecb54c2e5340c18b2d34e01f279cf02da6a178e536c2d17aa40b", func := "althing/althinglaw12.AcceptOrders", spec := "acceptOrders", unfollowed := true, recurses := true, plainKeys := false, apart := false, narrowed := true }
def AcceptOrdersUptoSaid : Prop := acceptOrdersUptoRow.holds Tryz.pinned (OpenSpec.upto acceptOrdersSpec)

/-- 'althinglaw12.AcceptOwn', WHERE WHAT IT READS IS OF BULK AT MOST 1048576: true; the input reads as it did. -/
def acceptOwnUptoRow : OpenClaim := { program := "ytpknkhgkejkpkaagreat", sum := "32bf58907301ecb54c2e5340c18b2d34e01f279cf02da6a178e536c2d17aa40b", func := "althing/althinglaw12.AcceptOwn", spec := "acceptOwn", unfollowed := true, recurses := true, plainKeys := false, apart := false, narrowed := true }
def AcceptOwnUptoSaid : Prop := acceptOwnUptoRow.holds Tryz.pinned (OpenSpec.upto acceptOwnSpec)

end Rows
end Go.Proofs.YtpknkhgkejkpkaaGreat
