/-
  NARROWER THAN 'FOR EVERY INPUT', by the rows' own cells (each row's printed sentence says how): QuorumSizes: laid · QuorumSets: laid · QuorumMeet: laid · QuorumFast: laid · QuorumPuts: laid · QuorumParts: laid · QuorumGrows: laid.
  DERIVED. THE GIVEN ROWS OF THIS SEAT. 7 by the template 'for every input the law returns true; each argument reads behind the call as it read before'; 0 by the template 'total and deterministic' (their statements: YtglnpdcmaamcfaaDoorTotals.lean).
  GIVEN WITH THE SEED: the statements are not yours to turn. If you find one false, say at which input.
  Laid BY PROGRAM, IN A SANDBOX (cutbox-rows.mjs): the forced cells as the released guide's own fill.sh prints them over the translation 0a511a99d60e56bc… (all of the seat's roots in one cut). By AI agents, Wed Nov 11 2026. No macro, syntax, notation, axiom, sorry.
-/
import Derived.Test.YtglnpdcmaamcfaaDoorChecked
import GoSem.Claim
import GoSem.ClaimJoined
import GoSem.ClaimMapViews
import Derived.JoinedTies
import Derived.KernelRfl
namespace Go.Proofs.YtglnpdcmaamcfaaDoor
/- THE CELL 'sum', in the pinned program and in every row, IS THE sha256 OF THE DUMP (.gsa) THAT YtglnpdcmaamcfaaDoorProg.lean LOADS. Nothing in Lean hashes anything: it is a label: what it is worth is what the hold of that sum in a sandbox is worth. -/
noncomputable def Tryd.pinned : Pinned := { name := "ytglnpdcmaamcfaadoor", sum := "0a511a99d60e56bca5cb758cc2527adadba52dc916d5c7b58b78ed2f5984c795", checked := Tryd.checked }
namespace Rows
def none {H : Type} : Left H := { results := [], args := [] }

/- WHAT THE LISTED PACKAGE-LEVEL VARIABLES READ AS WHEN THE CALL BEGINS. Each datum BY PROGRAM (the guide's laid-datum.mjs) off the statement by which the dump's own 'gosem.cut.vars' lays the variable. In a bare row this is a premise. The card (YtglnpdcmaamcfaaDoorCards.lean) ties it to the program's text. -/
def laid_althing_quorum_countsOf {H : Type} : DataW H := .agg [.agg [.lit (.int .i64 0), .lit (.int .i64 0), .lit (.int .i64 0)], .agg [.lit (.int .i64 3), .lit (.int .i64 2), .lit (.int .i64 2)], .agg [.lit (.int .i64 5), .lit (.int .i64 3), .lit (.int .i64 4)], .agg [.lit (.int .i64 7), .lit (.int .i64 4), .lit (.int .i64 6)]]

/-- 'althinglaw01.QuorumSizes': WHATEVER THE INPUT: true; the input reads as it did. -/
def quorumSizesSpec : ChangeSpec := { name := "quorumSizes", fn := fun _ => fun
  | [d] => { results := [.lit (.bool true)], args := [d] }
  | _ => none }
def quorumSizesRow : OpenClaim := { program := "ytglnpdcmaamcfaadoor", sum := "0a511a99d60e56bca5cb758cc2527adadba52dc916d5c7b58b78ed2f5984c795", func := "althing/althinglaw01.QuorumSizes", spec := "quorumSizes", named := ["althing/quorum.countsOf"], apart := false, laid := [("althing/quorum.countsOf", laid_althing_quorum_countsOf)] }
def QuorumSizesSaid : Prop := quorumSizesRow.holds Tryd.pinned (OpenSpec.ofChange quorumSizesSpec)

/-- ITS FALSE NEIGHBOUR: 'it returns false'. Refute it at one input. -/
def quorumSizesWrong : ChangeSpec := { name := "quorumSizes", fn := fun _ => fun
  | [d] => { results := [.lit (.bool false)], args := [d] }
  | _ => none }
def QuorumSizesWrongFalsely : Prop := quorumSizesRow.holds Tryd.pinned (OpenSpec.ofChange quorumSizesWrong)

/-- 'althinglaw01.QuorumSets': WHATEVER THE INPUT: true; the input reads as it did. -/
def quorumSetsSpec : ChangeSpec := { name := "quorumSets", fn := fun _ => fun
  | [d1, d2, d3] => { results := [.lit (.bool true)], args := [d1, d2, d3] }
  | _ => none }
def quorumSetsRow : OpenClaim := { program := "ytglnpdcmaamcfaadoor", sum := "0a511a99d60e56bca5cb758cc2527adadba52dc916d5c7b58b78ed2f5984c795", func := "althing/althinglaw01.QuorumSets", spec := "quorumSets", named := ["althing/quorum.countsOf"], apart := false, laid := [("althing/quorum.countsOf", laid_althing_quorum_countsOf)] }
def QuorumSetsSaid : Prop := quorumSetsRow.holds Tryd.pinned (OpenSpec.ofChange quorumSetsSpec)

/-- ITS FALSE NEIGHBOUR: 'it returns false'. Refute it at one input. -/
def quorumSetsWrong : ChangeSpec := { name := "quorumSets", fn := fun _ => fun
  | [d1, d2, d3] => { results := [.lit (.bool false)], args := [d1, d2, d3] }
  | _ => none }
def QuorumSetsWrongFalsely : Prop := quorumSetsRow.holds Tryd.pinned (OpenSpec.ofChange quorumSetsWrong)

/-- 'althinglaw01.QuorumMeet': WHATEVER THE INPUT: true; the input reads as it did. -/
def quorumMeetSpec : ChangeSpec := { name := "quorumMeet", fn := fun _ => fun
  | [d1, d2, d3] => { results := [.lit (.bool true)], args := [d1, d2, d3] }
  | _ => none }
def quorumMeetRow : OpenClaim := { program := "ytglnpdcmaamcfaadoor", sum := "0a511a99d60e56bca5cb758cc2527adadba52dc916d5c7b58b78ed2f5984c795", func := "althing/althinglaw01.QuorumMeet", spec := "quorumMeet", named := ["althing/quorum.countsOf"], apart := false, laid := [("althing/quorum.countsOf", laid_althing_quorum_countsOf)] }
def QuorumMeetSaid : Prop := quorumMeetRow.holds Tryd.pinned (OpenSpec.ofChange quorumMeetSpec)

/-- ITS FALSE NEIGHBOUR: 'it returns false'. Refute it at one input. -/
def quorumMeetWrong : ChangeSpec := { name := "quorumMeet", fn := fun _ => fun
  | [d1, d2, d3] => { results := [.lit (.bool false)], args := [d1, d2, d3] }
  | _ => none }
def QuorumMeetWrongFalsely : Prop := quorumMeetRow.holds Tryd.pinned (OpenSpec.ofChange quorumMeetWrong)

/-- 'althinglaw01.QuorumFast': WHATEVER THE INPUT: true; the input reads as it did. -/
def quorumFastSpec : ChangeSpec := { name := "quorumFast", fn := fun _ => fun
  | [d1, d2, d3, d4] => { results := [.lit (.bool true)], args := [d1, d2, d3, d4] }
  | _ => none }
def quorumFastRow : OpenClaim := { program := "ytglnpdcmaamcfaadoor", sum := "0a511a99d60e56bca5cb758cc2527adadba52dc916d5c7b58b78ed2f5984c795", func := "althing/althinglaw01.QuorumFast", spec := "quorumFast", named := ["althing/quorum.countsOf"], apart := false, laid := [("althing/quorum.countsOf", laid_althing_quorum_countsOf)] }
def QuorumFastSaid : Prop := quorumFastRow.holds Tryd.pinned (OpenSpec.ofChange quorumFastSpec)

/-- ITS FALSE NEIGHBOUR: 'it returns false'. Refute it at one input. -/
def quorumFastWrong : ChangeSpec := { name := "quorumFast", fn := fun _ => fun
  | [d1, d2, d3, d4] => { results := [.lit (.bool false)], args := [d1, d2, d3, d4] }
  | _ => none }
def QuorumFastWrongFalsely : Prop := quorumFastRow.holds Tryd.pinned (OpenSpec.ofChange quorumFastWrong)

/-- 'althinglaw01.QuorumPuts': WHATEVER THE INPUT: true; the input reads as it did. -/
def quorumPutsSpec : ChangeSpec := { name := "quorumPuts", fn := fun _ => fun
  | [d1, d2, d3] => { results := [.lit (.bool true)], args := [d1, d2, d3] }
  | _ => none }
def quorumPutsRow : OpenClaim := { program := "ytglnpdcmaamcfaadoor", sum := "0a511a99d60e56bca5cb758cc2527adadba52dc916d5c7b58b78ed2f5984c795", func := "althing/althinglaw01.QuorumPuts", spec := "quorumPuts", named := ["althing/quorum.countsOf"], apart := false, laid := [("althing/quorum.countsOf", laid_althing_quorum_countsOf)] }
def QuorumPutsSaid : Prop := quorumPutsRow.holds Tryd.pinned (OpenSpec.ofChange quorumPutsSpec)

/-- ITS FALSE NEIGHBOUR: 'it returns false'. Refute it at one input. -/
def quorumPutsWrong : ChangeSpec := { name := "quorumPuts", fn := fun _ => fun
  | [d1, d2, d3] => { results := [.lit (.bool false)], args := [d1, d2, d3] }
  | _ => none }
def QuorumPutsWrongFalsely : Prop := quorumPutsRow.holds Tryd.pinned (OpenSpec.ofChange quorumPutsWrong)

/-- 'althinglaw01.QuorumParts': WHATEVER THE INPUT: true; the input reads as it did. -/
def quorumPartsSpec : ChangeSpec := { name := "quorumParts", fn := fun _ => fun
  | [d1, d2] => { results := [.lit (.bool true)], args := [d1, d2] }
  | _ => none }
def quorumPartsRow : OpenClaim := { program := "ytglnpdcmaamcfaadoor", sum := "0a511a99d60e56bca5cb758cc2527adadba52dc916d5c7b58b78ed2f5984c795", func := "althing/althinglaw01.QuorumParts", spec := "quorumParts", named := ["althing/quorum.countsOf"], apart := false, laid := [("althing/quorum.countsOf", laid_althing_quorum_countsOf)] }
def QuorumPartsSaid : Prop := quorumPartsRow.holds Tryd.pinned (OpenSpec.ofChange quorumPartsSpec)

/-- ITS FALSE NEIGHBOUR: 'it returns false'. Refute it at one input. -/
def quorumPartsWrong : ChangeSpec := { name := "quorumParts", fn := fun _ => fun
  | [d1, d2] => { results := [.lit (.bool false)], args := [d1, d2] }
  | _ => none }
def QuorumPartsWrongFalsely : Prop := quorumPartsRow.holds Tryd.pinned (OpenSpec.ofChange quorumPartsWrong)

/-- 'althinglaw01.QuorumGrows': WHATEVER THE INPUT: true; the input reads as it did. -/
def quorumGrowsSpec : ChangeSpec := { name := "quorumGrows", fn := fun _ => fun
  | [d1, d2, d3] => { results := [.lit (.bool true)], args := [d1, d2, d3] }
  | _ => none }
def quorumGrowsRow : OpenClaim := { program := "ytglnpdcmaamcfaadoor", sum := "0a511a99d60e56bca5cb758cc2527adadba52dc916d5c7b58b78ed2f5984c795", func := "althing/althinglaw01.QuorumGrows", spec := "quorumGrows", named := ["althing/quorum.countsOf"], apart := false, laid := [("althing/quorum.countsOf", laid_althing_quorum_countsOf)] }
def QuorumGrowsSaid : Prop := quorumGrowsRow.holds Tryd.pinned (OpenSpec.ofChange quorumGrowsSpec)

/-- ITS FALSE NEIGHBOUR: 'it returns false'. Refute it at one input. -/
def quorumGrowsWrong : ChangeSpec := { name := "quorumGrows", fn := fun _ => fun
  | [d1, d2, d3] => { results := [.lit (.bool false)], args := [d1, d2, d3] }
  | _ => none }
def QuorumGrowsWrongFalsely : Prop := quorumGrowsRow.holds Tryd.pinned (OpenSpec.ofChange quorumGrowsWrong)

/- THE SECOND FORM. 'bulk': how many values and letters a reading holds, each counted each time it is reached (what is shared counts as often as it is met; a slice's spare places count too). A statement '..UptoSaid' is the law's where the arguments, and the package variables that the reading takes, are together of bulk at most 1048576: NARROWER than '..Said'. Prove '..Said' where nothing that the law and all that it calls make is longer than what came in: it says more and counts as full. Else prove '..UptoSaid'. A law counts once. -/
mutual
def uptoBulk {H : Type} : DataW H → Nat
  | .lit (.string bytes) => bytes.length + 1
  | .lit _ => 1
  | .nil => 1
  | .ptr d => uptoBulk d + 1
  | .slice elems spare => uptoBulkAll elems + uptoBulkAll spare + 1
  | .agg parts => uptoBulkAll parts + 1
  | .iface _ d => uptoBulk d + 1
  | .map entries => uptoBulkEntries entries + 1
  | .held _ => 1
def uptoBulkAll {H : Type} : List (DataW H) → Nat
  | [] => 0
  | d :: r => uptoBulk d + uptoBulkAll r
def uptoBulkEntries {H : Type} : List (Lit × DataW H) → Nat
  | [] => 0
  | x :: r => uptoBulkEntry x + uptoBulkEntries r
def uptoBulkEntry {H : Type} : Lit × DataW H → Nat
  | (.string bytes, d) => bytes.length + uptoBulk d + 1
  | (_, d) => uptoBulk d + 1
 end
def uptoSmall : (H : Type) → List (DataW H) → Bool := fun _ ds => decide (uptoBulkAll ds ≤ 1048576)
def OpenSpec.upto (s : _root_.Go.ChangeSpec) : _root_.Go.OpenSpec := { _root_.Go.OpenSpec.ofChange s with cond := some uptoSmall }

/-- 'althinglaw01.QuorumSizes', WHERE WHAT IT READS IS OF BULK AT MOST 1048576: true; the input reads as it did. -/
def quorumSizesUptoRow : OpenClaim := { program := "ytglnpdcmaamcfaadoor", sum := "0a511a99d60e56bca5cb758cc2527adadba52dc916d5c7b58b78ed2f5984c795", func := "althing/althinglaw01.QuorumSizes", spec := "quorumSizes", named := ["althing/quorum.countsOf"], apart := false, laid := [("althing/quorum.countsOf", laid_althing_quorum_countsOf)], narrowed := true }
def QuorumSizesUptoSaid : Prop := quorumSizesUptoRow.holds Tryd.pinned (OpenSpec.upto quorumSizesSpec)

/-- 'althinglaw01.QuorumSets', WHERE WHAT IT READS IS OF BULK AT MOST 1048576: true; the input reads as it did. -/
def quorumSetsUptoRow : OpenClaim := { program := "ytglnpdcmaamcfaadoor", sum := "0a511a99d60e56bca5cb758cc2527adadba52dc916d5c7b58b78ed2f5984c795", func := "althing/althinglaw01.QuorumSets", spec := "quorumSets", named := ["althing/quorum.countsOf"], apart := false, laid := [("althing/quorum.countsOf", laid_althing_quorum_countsOf)], narrowed := true }
def QuorumSetsUptoSaid : Prop := quorumSetsUptoRow.holds Tryd.pinned (OpenSpec.upto quorumSetsSpec)

/-- 'althinglaw01.QuorumMeet', WHERE WHAT IT READS IS OF BULK AT MOST 1048576: true; the input reads as it did. -/
def quorumMeetUptoRow : OpenClaim := { program := "ytglnpdcmaamcfaadoor", sum := "0a511a99d60e56bca5cb758cc2527adadba52dc916d5c7b58b78ed2f5984c795", func := "althing/althinglaw01.QuorumMeet", spec := "quorumMeet", named := ["althing/quorum.countsOf"], apart := false, laid := [("althing/quorum.countsOf", laid_althing_quorum_countsOf)], narrowed := true }
def QuorumMeetUptoSaid : Prop := quorumMeetUptoRow.holds Tryd.pinned (OpenSpec.upto quorumMeetSpec)

/-- 'althinglaw01.QuorumFast', WHERE WHAT IT READS IS OF BULK AT MOST 1048576: true; the input reads as it did. -/
def quorumFastUptoRow : OpenClaim := { program := "ytglnpdcmaamcfaadoor", sum := "0a511a99d60e56bca5cb758cc2527adadba52dc916d5c7b58b78ed2f5984c795", func := "althing/althinglaw01.QuorumFast", spec := "quorumFast", named := ["althing/quorum.countsOf"], apart := false, laid := [("althing/quorum.countsOf", laid_althing_quorum_countsOf)], narrowed := true }
def QuorumFastUptoSaid : Prop := quorumFastUptoRow.holds Tryd.pinned (OpenSpec.upto quorumFastSpec)

/-- 'althinglaw01.QuorumPuts', WHERE WHAT IT READS IS OF BULK AT MOST 1048576: true; the input reads as it did. -/
def quorumPutsUptoRow : OpenClaim := { program := "ytglnpdcmaamcfaadoor", sum := "0a511a99d60e56bca5cb758cc2527adadba52dc916d5c7b58b78ed2f5984c795", func := "althing/althinglaw01.QuorumPuts", spec := "quorumPuts", named := ["althing/quorum.countsOf"], apart := false, laid := [("althing/quorum.countsOf", laid_althing_quorum_countsOf)], narrowed := true }
def QuorumPutsUptoSaid : Prop := quorumPutsUptoRow.holds Tryd.pinned (OpenSpec.upto quorumPutsSpec)

/-- 'althinglaw01.QuorumParts', WHERE WHAT IT READS IS OF BULK AT MOST 1048576: true; the input reads as it did. -/
def quorumPartsUptoRow : OpenClaim := { program := "ytglnpdcmaamcfaadoor", sum := "0a511a99d60e56bca5cb758cc2527adadba52dc916d5c7b58b78ed2f5984c795", func := "althing/althinglaw01.QuorumParts", spec := "quorumParts", named := ["althing/quorum.countsOf"], apart := false, laid := [("althing/quorum.countsOf", laid_althing_quorum_countsOf)], narrowed := true }
def QuorumPartsUptoSaid : Prop := quorumPartsUptoRow.holds Tryd.pinned (OpenSpec.upto quorumPartsSpec)

/-- 'althinglaw01.QuorumGrows', WHERE WHAT IT READS IS OF BULK AT MOST 1048576: true; the input reads as it did. -/
def quorumGrowsUptoRow : OpenClaim := { program := "ytglnpdcmaamcfaadoor", sum := "0a511a99d60e56bca5cb758cc2527adadba52dc916d5c7b58b78ed2f5984c795", func := "althing/althinglaw01.QuorumGrows", spec := "quorumGrows", named := ["althing/quorum.countsOf"], apart := false, laid := [("althing/quorum.countsOf", laid_althing_quorum_countsOf)], narrowed := true }
def QuorumGrowsUptoSaid : Prop := quorumGrowsUptoRow.holds Tryd.pinned (OpenSpec.upto quorumGrowsSpec)

end Rows
end Go.Proofs.YtglnpdcmaamcfaaDoor
