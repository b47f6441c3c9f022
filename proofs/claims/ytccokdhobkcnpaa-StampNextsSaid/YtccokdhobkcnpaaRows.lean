/-
  No cell of these rows narrows 'for every input' (looked for: loops, veiled, ifaces, maps, wideKeys, modest, calm, conditions, laid).
  DERIVED. THE GIVEN ROWS OF THIS SEAT. 7 by the template 'for every input the law returns true; each argument reads behind the call as it read before'; 0 by the template 'total and deterministic' (their statements: YtccokdhobkcnpaaTotals.lean).
  GIVEN WITH THE SEED: the statements are not yours to turn. If you find one false, say at which input.
  Laid BY PROGRAM, IN A SANDBOX (cutbox-rows.mjs): the forced cells as the released guide's own fill.sh prints them over the translation 41aae30ac71dfe3a… (all of the seat's roots in one cut). By AI agents, Wed Nov 11 2026. No macro, syntax, notation, axiom, sorry.
-/
import Derived.Test.YtccokdhobkcnpaaChecked
import GoSem.Claim
import GoSem.ClaimJoined
import GoSem.ClaimMapViews
import Derived.JoinedTies
import Derived.KernelRfl
namespace Go.Proofs.Ytccokdhobkcnpaa
/- THE CELL 'sum', in the pinned program and in every row, IS THE sha256 OF THE DUMP (.gsa) THAT YtccokdhobkcnpaaProg.lean LOADS. Nothing in Lean hashes anything: it is a label: what it is worth is what the hold of that sum in a sandbox is worth. -/
noncomputable def Try.pinned : Pinned := { name := "ytccokdhobkcnpaa", sum := "41aae30ac71dfe3ad13e4f9346ef4f0942f5ca675a2274be9bcc28c4d666fc16", checked := Try.checked }
namespace Rows
def none {H : Type} : Left H := { results := [], args := [] }

/-- 'althinglaw02.StampRights': WHATEVER THE INPUT: true; the input reads as it did. -/
def stampRightsSpec : ChangeSpec := { name := "stampRights", fn := fun _ => fun
  | [d1, d2, d3, d4] => { results := [.lit (.bool true)], args := [d1, d2, d3, d4] }
  | _ => none }
def stampRightsRow : OpenClaim := { program := "ytccokdhobkcnpaa", sum := "41aae30ac71dfe3ad13e4f9346ef4f0942f5ca675a2274be9bcc28c4d666fc16", func := "althing/althinglaw02.StampRights", spec := "stampRights", apart := false }
def StampRightsSaid : Prop := stampRightsRow.holds Try.pinned (OpenSpec.ofChange stampRightsSpec)

/-- ITS FALSE NEIGHBOUR: 'it returns false'. Refute it at one input. -/
def stampRightsWrong : ChangeSpec := { name := "stampRights", fn := fun _ => fun
  | [d1, d2, d3, d4] => { results := [.lit (.bool false)], args := [d1, d2, d3, d4] }
  | _ => none }
def StampRightsWrongFalsely : Prop := stampRightsRow.holds Try.pinned (OpenSpec.ofChange stampRightsWrong)

/-- 'althinglaw02.StampOrders': WHATEVER THE INPUT: true; the input reads as it did. -/
def stampOrdersSpec : ChangeSpec := { name := "stampOrders", fn := fun _ => fun
  | [d1, d2, d3, d4] => { results := [.lit (.bool true)], args := [d1, d2, d3, d4] }
  | _ => none }
def stampOrdersRow : OpenClaim := { program := "ytccokdhobkcnpaa", sum := "41aae30ac71dfe3ad13e4f9346ef4f0942f5ca675a2274be9bcc28c4d666fc16", func := "althing/althinglaw02.StampOrders", spec := "stampOrders", apart := false }
def StampOrdersSaid : Prop := stampOrdersRow.holds Try.pinned (OpenSpec.ofChange stampOrdersSpec)

/-- ITS FALSE NEIGHBOUR: 'it returns false'. Refute it at one input. -/
def stampOrdersWrong : ChangeSpec := { name := "stampOrders", fn := fun _ => fun
  | [d1, d2, d3, d4] => { results := [.lit (.bool false)], args := [d1, d2, d3, d4] }
  | _ => none }
def StampOrdersWrongFalsely : Prop := stampOrdersRow.holds Try.pinned (OpenSpec.ofChange stampOrdersWrong)

/-- 'althinglaw02.StampLine': WHATEVER THE INPUT: true; the input reads as it did. -/
def stampLineSpec : ChangeSpec := { name := "stampLine", fn := fun _ => fun
  | [d1, d2, d3] => { results := [.lit (.bool true)], args := [d1, d2, d3] }
  | _ => none }
def stampLineRow : OpenClaim := { program := "ytccokdhobkcnpaa", sum := "41aae30ac71dfe3ad13e4f9346ef4f0942f5ca675a2274be9bcc28c4d666fc16", func := "althing/althinglaw02.StampLine", spec := "stampLine", apart := false }
def StampLineSaid : Prop := stampLineRow.holds Try.pinned (OpenSpec.ofChange stampLineSpec)

/-- ITS FALSE NEIGHBOUR: 'it returns false'. Refute it at one input. -/
def stampLineWrong : ChangeSpec := { name := "stampLine", fn := fun _ => fun
  | [d1, d2, d3] => { results := [.lit (.bool false)], args := [d1, d2, d3] }
  | _ => none }
def StampLineWrongFalsely : Prop := stampLineRow.holds Try.pinned (OpenSpec.ofChange stampLineWrong)

/-- 'althinglaw02.StampNexts': WHATEVER THE INPUT: true; the input reads as it did. -/
def stampNextsSpec : ChangeSpec := { name := "stampNexts", fn := fun _ => fun
  | [d1, d2, d3] => { results := [.lit (.bool true)], args := [d1, d2, d3] }
  | _ => none }
def stampNextsRow : OpenClaim := { program := "ytccokdhobkcnpaa", sum := "41aae30ac71dfe3ad13e4f9346ef4f0942f5ca675a2274be9bcc28c4d666fc16", func := "althing/althinglaw02.StampNexts", spec := "stampNexts", apart := false }
def StampNextsSaid : Prop := stampNextsRow.holds Try.pinned (OpenSpec.ofChange stampNextsSpec)

/-- ITS FALSE NEIGHBOUR: 'it returns false'. Refute it at one input. -/
def stampNextsWrong : ChangeSpec := { name := "stampNexts", fn := fun _ => fun
  | [d1, d2, d3] => { results := [.lit (.bool false)], args := [d1, d2, d3] }
  | _ => none }
def StampNextsWrongFalsely : Prop := stampNextsRow.holds Try.pinned (OpenSpec.ofChange stampNextsWrong)

/-- 'althinglaw02.StampBehind': WHATEVER THE INPUT: true; the input reads as it did. -/
def stampBehindSpec : ChangeSpec := { name := "stampBehind", fn := fun _ => fun
  | [d1, d2, d3, d4] => { results := [.lit (.bool true)], args := [d1, d2, d3, d4] }
  | _ => none }
def stampBehindRow : OpenClaim := { program := "ytccokdhobkcnpaa", sum := "41aae30ac71dfe3ad13e4f9346ef4f0942f5ca675a2274be9bcc28c4d666fc16", func := "althing/althinglaw02.StampBehind", spec := "stampBehind", apart := false }
def StampBehindSaid : Prop := stampBehindRow.holds Try.pinned (OpenSpec.ofChange stampBehindSpec)

/-- ITS FALSE NEIGHBOUR: 'it returns false'. Refute it at one input. -/
def stampBehindWrong : ChangeSpec := { name := "stampBehind", fn := fun _ => fun
  | [d1, d2, d3, d4] => { results := [.lit (.bool false)], args := [d1, d2, d3, d4] }
  | _ => none }
def StampBehindWrongFalsely : Prop := stampBehindRow.holds Try.pinned (OpenSpec.ofChange stampBehindWrong)

/-- 'althinglaw02.StampBallots': WHATEVER THE INPUT: true; the input reads as it did. -/
def stampBallotsSpec : ChangeSpec := { name := "stampBallots", fn := fun _ => fun
  | [d1, d2] => { results := [.lit (.bool true)], args := [d1, d2] }
  | _ => none }
def stampBallotsRow : OpenClaim := { program := "ytccokdhobkcnpaa", sum := "41aae30ac71dfe3ad13e4f9346ef4f0942f5ca675a2274be9bcc28c4d666fc16", func := "althing/althinglaw02.StampBallots", spec := "stampBallots", apart := false }
def StampBallotsSaid : Prop := stampBallotsRow.holds Try.pinned (OpenSpec.ofChange stampBallotsSpec)

/-- ITS FALSE NEIGHBOUR: 'it returns false'. Refute it at one input. -/
def stampBallotsWrong : ChangeSpec := { name := "stampBallots", fn := fun _ => fun
  | [d1, d2] => { results := [.lit (.bool false)], args := [d1, d2] }
  | _ => none }
def StampBallotsWrongFalsely : Prop := stampBallotsRow.holds Try.pinned (OpenSpec.ofChange stampBallotsWrong)

/-- 'althinglaw02.StampSteps': WHATEVER THE INPUT: true; the input reads as it did. -/
def stampStepsSpec : ChangeSpec := { name := "stampSteps", fn := fun _ => fun
  | [d1, d2, d3] => { results := [.lit (.bool true)], args := [d1, d2, d3] }
  | _ => none }
def stampStepsRow : OpenClaim := { program := "ytccokdhobkcnpaa", sum := "41aae30ac71dfe3ad13e4f9346ef4f0942f5ca675a2274be9bcc28c4d666fc16", func := "althing/althinglaw02.StampSteps", spec := "stampSteps", apart := false }
def StampStepsSaid : Prop := stampStepsRow.holds Try.pinned (OpenSpec.ofChange stampStepsSpec)

/-- ITS FALSE NEIGHBOUR: 'it returns false'. Refute it at one input. -/
def stampStepsWrong : ChangeSpec := { name := "stampSteps", fn := fun _ => fun
  | [d1, d2, d3] => { results := [.lit (.bool false)], args := [d1, d2, d3] }
  | _ => none }
def StampStepsWrongFalsely : Prop := stampStepsRow.holds Try.pinned (OpenSpec.ofChange stampStepsWrong)

/- THE SECOND FORM. 'bulk': how many values and letters a reading holds, each counted each time it is reached (what is shared counts as often as it is met; a slice's spare places count too). A statement '..UptoSaid' is the law's where the arguments, and the package variables that the reading takes, are together of bulk at most 1048576: NARROWER than '..Said'. Prove '..Said' where nothing that the law and all that it calls make is longer than what came in: it says more and counts as full. Else prove '..UptoSaid'. A law counts once. -/
mutual
def uptoBulk {H : Type} : DataW H → Nat
  | .lit (.string bytes) => bytes.length + 1
  | .lit _ => 1
  | .nil => 1
  | .ptr d => uptoBulk d + 1
  | .slice elems spare => uptoBulkAll elems + uptoBulkAll spare + 1
  | .agg parts => uptoBulkAll parts + 1
  | .iface _ d => uptoBulk d + 1
  | .map entries => uptoBulkEntries entries + 1
  | .held _ => 1
def uptoBulkAll {H : Type} : List (DataW H) → Nat
  | [] => 0
  | d :: r => uptoBulk d + uptoBulkAll r
def uptoBulkEntries {H : Type} : List (Lit × DataW H) → Nat
  | [] => 0
  | x :: r => uptoBulkEntry x + uptoBulkEntries r
def uptoBulkEntry {H : Type} : Lit × DataW H → Nat
  | (.string bytes, d) => bytes.length + uptoBulk d + 1
  | (_, d) => uptoBulk d + 1
 end
def uptoSmall : (H : Type) → List (DataW H) → Bool := fun _ ds => decide (uptoBulkAll ds ≤ 1048576)
def OpenSpec.upto (s : _root_.Go.ChangeSpec) : _root_.Go.OpenSpec := { _root_.Go.OpenSpec.ofChange s with cond := some uptoSmall }

/-- 'althinglaw02.StampRights', WHERE WHAT IT READS IS OF BULK AT MOST 1048576: true; the input reads as it did. -/
def stampRightsUptoRow : OpenClaim := { program := "ytccokdhobkcnpaa", sum := "41aae30ac71dfe3ad13e4f9346ef4f0942f5ca675a2274be9bcc28c4d666fc16", func := "althing/althinglaw02.StampRights", spec := "stampRights", apart := false, narrowed := true }
def StampRightsUptoSaid : Prop := stampRightsUptoRow.holds Try.pinned (OpenSpec.upto stampRightsSpec)

/-- 'althinglaw02.StampOrders', WHERE WHAT IT READS IS OF BULK AT MOST 1048576: true; the input reads as it did. -/
def stampOrdersUptoRow : OpenClaim := { program := "ytccokdhobkcnpaa", sum := "41aae30ac71dfe3ad13e4f9346ef4f0942f5ca675a2274be9bcc28c4d666fc16", func := "althing/althinglaw02.StampOrders", spec := "stampOrders", apart := false, narrowed := true }
def StampOrdersUptoSaid : Prop := stampOrdersUptoRow.holds Try.pinned (OpenSpec.upto stampOrdersSpec)

/-- 'althinglaw02.StampLine', WHERE WHAT IT READS IS OF BULK AT MOST 1048576: true; the input reads as it did. -/
def stampLineUptoRow : OpenClaim := { program := "ytccokdhobkcnpaa", sum := "41aae30ac71dfe3ad13e4f9346ef4f0942f5ca675a2274be9bcc28c4d666fc16", func := "althing/althinglaw02.StampLine", spec := "stampLine", apart := false, narrowed := true }
def StampLineUptoSaid : Prop := stampLineUptoRow.holds Try.pinned (OpenSpec.upto stampLineSpec)

/-- 'althinglaw02.StampNexts', WHERE WHAT IT READS IS OF BULK AT MOST 1048576: true; the input reads as it did. -/
def stampNextsUptoRow : OpenClaim := { program := "ytccokdhobkcnpaa", sum := "41aae30ac71dfe3ad13e4f9346ef4f0942f5ca675a2274be9bcc28c4d666fc16", func := "althing/althinglaw02.StampNexts", spec := "stampNexts", apart := false, narrowed := true }
def StampNextsUptoSaid : Prop := stampNextsUptoRow.holds Try.pinned (OpenSpec.upto stampNextsSpec)

/-- 'althinglaw02.StampBehind', WHERE WHAT IT READS IS OF BULK AT MOST 1048576: true; the input reads as it did. -/
def stampBehindUptoRow : OpenClaim := { program := "ytccokdhobkcnpaa", sum := "41aae30ac71dfe3ad13e4f9346ef4f0942f5ca675a2274be9bcc28c4d666fc16", func := "althing/althinglaw02.StampBehind", spec := "stampBehind", apart := false, narrowed := true }
def StampBehindUptoSaid : Prop := stampBehindUptoRow.holds Try.pinned (OpenSpec.upto stampBehindSpec)

/-- 'althinglaw02.StampBallots', WHERE WHAT IT READS IS OF BULK AT MOST 1048576: true; the input reads as it did. -/
def stampBallotsUptoRow : OpenClaim := { program := "ytccokdhobkcnpaa", sum := "41aae30ac71dfe3ad13e4f9346ef4f0942f5ca675a2274be9bcc28c4d666fc16", func := "althing/althinglaw02.StampBallots", spec := "stampBallots", apart := false, narrowed := true }
def StampBallotsUptoSaid : Prop := stampBallotsUptoRow.holds Try.pinned (OpenSpec.upto stampBallotsSpec)

/-- 'althinglaw02.StampSteps', WHERE WHAT IT READS IS OF BULK AT MOST 1048576: true; the input reads as it did. -/
def stampStepsUptoRow : OpenClaim := { program := "ytccokdhobkcnpaa", sum := "41aae30ac71dfe3ad13e4f9346ef4f0942f5ca675a2274be9bcc28c4d666fc16", func := "althing/althinglaw02.StampSteps", spec := "stampSteps", apart := false, narrowed := true }
def StampStepsUptoSaid : Prop := stampStepsUptoRow.holds Try.pinned (OpenSpec.upto stampStepsSpec)

end Rows
end Go.Proofs.Ytccokdhobkcnpaa
