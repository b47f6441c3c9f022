/-
  No cell of these rows narrows 'for every input' (looked for: loops, veiled, ifaces, maps, wideKeys, modest, calm, conditions, laid).
  DERIVED. THE GIVEN ROWS OF THIS SEAT. 7 by the template 'for every input the law returns true; each argument reads behind the call as it read before'; 0 by the template 'total and deterministic' (their statements: YtgaglcfoodbcfaaTotals.lean).
  GIVEN WITH THE SEED: the statements are not yours to turn. If you find one false, say at which input.
  Laid BY PROGRAM, IN A SANDBOX (cutbox-rows.mjs): the forced cells as the released guide's own fill.sh prints them over the translation bf070927df11a880… (all of the seat's roots in one cut). By AI agents, Wed Nov 11 2026. No macro, syntax, notation, axiom, sorry.
-/
import Derived.Test.YtgaglcfoodbcfaaChecked
import GoSem.Claim
import GoSem.ClaimJoined
import GoSem.ClaimMapViews
import Derived.JoinedTies
import Derived.KernelRfl
namespace Go.Proofs.Ytgaglcfoodbcfaa
/- THE CELL 'sum', in the pinned program and in every row, IS THE sha256 OF THE DUMP (.gsa) THAT YtgaglcfoodbcfaaProg.lean LOADS. Nothing in Lean hashes anything: it is a label: what it is worth is what the hold of that sum in a sandbox is worth. -/
noncomputable def Try.pinned : Pinned := { name := "ytgaglcfoodbcfaa", sum := "bf070927df11a8809af3a416482336729cbd91940a35126a9997b35c4c2b9239", checked := Try.checked }
namespace Rows
def none {H : Type} : Left H := { results := [], args := [] }

/-- 'althinglaw11.IndexKnows': WHATEVER THE INPUT: true; the input reads as it did. -/
def indexKnowsSpec : ChangeSpec := { name := "indexKnows", fn := fun _ => fun
  | [d1, d2, d3] => { results := [.lit (.bool true)], args := [d1, d2, d3] }
  | _ => none }
def indexKnowsRow : OpenClaim := { program := "ytgaglcfoodbcfaa", sum := "bf070927df11a8809af3a416482336729cbd91940a35126a9997b35c4c2b9239", func := "althing/althinglaw11.IndexKnows", spec := "indexKnows", unfollowed := true, recurses := true, plainKeys := false, apart := false }
def IndexKnowsSaid : Prop := indexKnowsRow.holds Try.pinned (OpenSpec.ofChange indexKnowsSpec)

/-- ITS FALSE NEIGHBOUR: 'it returns false'. Refute it at one input. -/
def indexKnowsWrong : ChangeSpec := { name := "indexKnows", fn := fun _ => fun
  | [d1, d2, d3] => { results := [.lit (.bool false)], args := [d1, d2, d3] }
  | _ => none }
def IndexKnowsWrongFalsely : Prop := indexKnowsRow.holds Try.pinned (OpenSpec.ofChange indexKnowsWrong)

/-- 'althinglaw11.IndexAttrs': WHATEVER THE INPUT: true; the input reads as it did. -/
def indexAttrsSpec : ChangeSpec := { name := "indexAttrs", fn := fun _ => fun
  | [d1, d2, d3, d4, d5] => { results := [.lit (.bool true)], args := [d1, d2, d3, d4, d5] }
  | _ => none }
def indexAttrsRow : OpenClaim := { program := "ytgaglcfoodbcfaa", sum := "bf070927df11a8809af3a416482336729cbd91940a35126a9997b35c4c2b9239", func := "althing/althinglaw11.IndexAttrs", spec := "indexAttrs", unfollowed := true, recurses := true, plainKeys := false, apart := false }
def IndexAttrsSaid : Prop := indexAttrsRow.holds Try.pinned (OpenSpec.ofChange indexAttrsSpec)

/-- ITS FALSE NEIGHBOUR: 'it returns false'. Refute it at one input. -/
def indexAttrsWrong : ChangeSpec := { name := "indexAttrs", fn := fun _ => fun
  | [d1, d2, d3, d4, d5] => { results := [.lit (.bool false)], args := [d1, d2, d3, d4, d5] }
  | _ => none }
def IndexAttrsWrongFalsely : Prop := indexAttrsRow.holds Try.pinned (OpenSpec.ofChange indexAttrsWrong)

/-- 'althinglaw11.IndexStays': WHATEVER THE INPUT: true; the input reads as it did. -/
def indexStaysSpec : ChangeSpec := { name := "indexStays", fn := fun _ => fun
  | [d1, d2, d3, d4, d5, d6] => { results := [.lit (.bool true)], args := [d1, d2, d3, d4, d5, d6] }
  | _ => none }
def indexStaysRow : OpenClaim := { program := "ytgaglcfoodbcfaa", sum := "bf070927df11a8809af3a416482336729cbd91940a35126a9997b35c4c2b9239", func := "althing/althinglaw11.IndexStays", spec := "indexStays", unfollowed := true, recurses := true, plainKeys := false, apart := false }
def IndexStaysSaid : Prop := indexStaysRow.holds Try.pinned (OpenSpec.ofChange indexStaysSpec)

/-- ITS FALSE NEIGHBOUR: 'it returns false'. Refute it at one input. -/
def indexStaysWrong : ChangeSpec := { name := "indexStays", fn := fun _ => fun
  | [d1, d2, d3, d4, d5, d6] => { results := [.lit (.bool false)], args := [d1, d2, d3, d4, d5, d6] }
  | _ => none }
def IndexStaysWrongFalsely : Prop := indexStaysRow.holds Try.pinned (OpenSpec.ofChange indexStaysWrong)

/-- 'althinglaw11.IndexOrders': WHATEVER THE INPUT: true; the input reads as it did. -/
def indexOrdersSpec : ChangeSpec := { name := "indexOrders", fn := fun _ => fun
  | [d1, d2, d3] => { results := [.lit (.bool true)], args := [d1, d2, d3] }
  | _ => none }
def indexOrdersRow : OpenClaim := { program := "ytgaglcfoodbcfaa", sum := "bf070927df11a8809af3a416482336729cbd91940a35126a9997b35c4c2b9239", func := "althing/althinglaw11.IndexOrders", spec := "indexOrders", unfollowed := true, recurses := true, plainKeys := false, apart := false }
def IndexOrdersSaid : Prop := indexOrdersRow.holds Try.pinned (OpenSpec.ofChange indexOrdersSpec)

/-- ITS FALSE NEIGHBOUR: 'it returns false'. Refute it at one input. -/
def indexOrdersWrong : ChangeSpec := { name := "indexOrders", fn := fun _ => fun
  | [d1, d2, d3] => { results := [.lit (.bool false)], args := [d1, d2, d3] }
  | _ => none }
def IndexOrdersWrongFalsely : Prop := indexOrdersRow.holds Try.pinned (OpenSpec.ofChange indexOrdersWrong)

/-- 'althinglaw11.IndexOrdered': WHATEVER THE INPUT: true; the input reads as it did. -/
def indexOrderedSpec : ChangeSpec := { name := "indexOrdered", fn := fun _ => fun
  | [d1, d2] => { results := [.lit (.bool true)], args := [d1, d2] }
  | _ => none }
def indexOrderedRow : OpenClaim := { program := "ytgaglcfoodbcfaa", sum := "bf070927df11a8809af3a416482336729cbd91940a35126a9997b35c4c2b9239", func := "althing/althinglaw11.IndexOrdered", spec := "indexOrdered", unfollowed := true, recurses := true, plainKeys := false, apart := false }
def IndexOrderedSaid : Prop := indexOrderedRow.holds Try.pinned (OpenSpec.ofChange indexOrderedSpec)

/-- ITS FALSE NEIGHBOUR: 'it returns false'. Refute it at one input. -/
def indexOrderedWrong : ChangeSpec := { name := "indexOrdered", fn := fun _ => fun
  | [d1, d2] => { results := [.lit (.bool false)], args := [d1, d2] }
  | _ => none }
def IndexOrderedWrongFalsely : Prop := indexOrderedRow.holds Try.pinned (OpenSpec.ofChange indexOrderedWrong)

/-- 'althinglaw11.IndexSlots': WHATEVER THE INPUT: true; the input reads as it did. -/
def indexSlotsSpec : ChangeSpec := { name := "indexSlots", fn := fun _ => fun
  | [d1, d2, d3] => { results := [.lit (.bool true)], args := [d1, d2, d3] }
  | _ => none }
def indexSlotsRow : OpenClaim := { program := "ytgaglcfoodbcfaa", sum := "bf070927df11a8809af3a416482336729cbd91940a35126a9997b35c4c2b9239", func := "althing/althinglaw11.IndexSlots", spec := "indexSlots", unfollowed := true, recurses := true, plainKeys := false, apart := false }
def IndexSlotsSaid : Prop := indexSlotsRow.holds Try.pinned (OpenSpec.ofChange indexSlotsSpec)

/-- ITS FALSE NEIGHBOUR: 'it returns false'. Refute it at one input. -/
def indexSlotsWrong : ChangeSpec := { name := "indexSlots", fn := fun _ => fun
  | [d1, d2, d3] => { results := [.lit (.bool false)], args := [d1, d2, d3] }
  | _ => none }
def IndexSlotsWrongFalsely : Prop := indexSlotsRow.holds Try.pinned (OpenSpec.ofChange indexSlotsWrong)

/-- 'althinglaw11.IndexNoops': WHATEVER THE INPUT: true; the input reads as it did. -/
def indexNoopsSpec : ChangeSpec := { name := "indexNoops", fn := fun _ => fun
  | [d1, d2, d3, d4, d5] => { results := [.lit (.bool true)], args := [d1, d2, d3, d4, d5] }
  | _ => none }
def indexNoopsRow : OpenClaim := { program := "ytgaglcfoodbcfaa", sum := "bf070927df11a8809af3a416482336729cbd91940a35126a9997b35c4c2b9239", func := "althing/althinglaw11.IndexNoops", spec := "indexNoops", unfollowed := true, recurses := true, plainKeys := false, apart := false }
def IndexNoopsSaid : Prop := indexNoopsRow.holds Try.pinned (OpenSpec.ofChange indexNoopsSpec)

/-- ITS FALSE NEIGHBOUR: 'it returns false'. Refute it at one input. -/
def indexNoopsWrong : ChangeSpec := { name := "indexNoops", fn := fun _ => fun
  | [d1, d2, d3, d4, d5] => { results := [.lit (.bool false)], args := [d1, d2, d3, d4, d5] }
  | _ => none }
def IndexNoopsWrongFalsely : Prop := indexNoopsRow.holds Try.pinned (OpenSpec.ofChange indexNoopsWrong)

/- THE SECOND FORM. 'bulk': how many values and letters a reading holds, each counted each time it is reached (what is shared counts as often as it is met; a slice's spare places count too). A statement '..UptoSaid' is the law's where the arguments, and the package variables that the reading takes, are together of bulk at most 1048576: NARROWER than '..Said'. Prove '..Said' where nothing that the law and all that it calls make is longer than what came in: it says more and counts as full. Else prove '..UptoSaid'. A law counts once. -/
mutual
def uptoBulk {H : Type} : DataW H → Nat
  | .lit (.string bytes) => bytes.length + 1
  | .lit _ => 1
  | .nil => 1
  | .ptr d => uptoBulk d + 1
  | .slice elems spare => uptoBulkAll elems + uptoBulkAll spare + 1
  | .agg parts => uptoBulkAll parts + 1
  | .iface _ d => uptoBulk d + 1
  | .map entries => uptoBulkEntries entries + 1
  | .held _ => 1
def uptoBulkAll {H : Type} : List (DataW H) → Nat
  | [] => 0
  | d :: r => uptoBulk d + uptoBulkAll r
def uptoBulkEntries {H : Type} : List (Lit × DataW H) → Nat
  | [] => 0
  | x :: r => uptoBulkEntry x + uptoBulkEntries r
def uptoBulkEntry {H : Type} : Lit × DataW H → Nat
  | (.string bytes, d) => bytes.length + uptoBulk d + 1
  | (_, d) => uptoBulk d + 1
 end
def uptoSmall : (H : Type) → List (DataW H) → Bool := fun _ ds => decide (uptoBulkAll ds ≤ 1048576)
def OpenSpec.upto (s : _root_.Go.ChangeSpec) : _root_.Go.OpenSpec := { _root_.Go.OpenSpec.ofChange s with cond := some uptoSmall }

/-- 'althinglaw11.IndexKnows', WHERE WHAT IT READS IS OF BULK AT MOST 1048576: true; the input reads as it did. -/
def indexKnowsUptoRow : OpenClaim := { program := "ytgaglcfoodbcfaa", sum := "bf070927df11a8809af3a416482336729cbd91940a35126a9997b35c4c2b9239", func := "althing/althinglaw11.IndexKnows", spec := "indexKnows", unfollowed := true, recurses := true, plainKeys := false, apart := false, narrowed := true }
def IndexKnowsUptoSaid : Prop := indexKnowsUptoRow.holds Try.pinned (OpenSpec.upto indexKnowsSpec)

/-- 'althinglaw11.IndexAttrs', WHERE WHAT IT READS IS OF BULK AT MOST 1048576: true; the input reads as it did. -/
def indexAttrsUptoRow : OpenClaim := { program := "ytgaglcfoodbcfaa", sum := "bf070927df11a8809af3a416482336729cbd91940a35126a9997b35c4c2b9239", func := "althing/althinglaw11.IndexAttrs", spec := "indexAttrs", unfollowed := true, recurses := true, plainKeys := false, apart := false, narrowed := true }
def IndexAttrsUptoSaid : Prop := indexAttrsUptoRow.holds Try.pinned (OpenSpec.upto indexAttrsSpec)

/-- 'althinglaw11.IndexStays', WHERE WHAT IT READS IS OF BULK AT MOST 1048576: true; the input reads as it did. -/
def indexStaysUptoRow : OpenClaim := { program := "ytgaglcfoodbcfaa", sum := "bf070927df11a8809af3a416482336729cbd91940a35126a9997b35c4c2b9239", func := "althing/althinglaw11.IndexStays", spec := "indexStays", unfollowed := true, recurses := true, plainKeys := false, apart := false, narrowed := true }
def IndexStaysUptoSaid : Prop := indexStaysUptoRow.holds Try.pinned (OpenSpec.upto indexStaysSpec)

/-- 'althinglaw11.IndexOrders', WHERE WHAT IT READS IS OF BULK AT MOST 1048576: true; the input reads as it did. -/
def indexOrdersUptoRow : OpenClaim := { program := "ytgaglcfoodbcfaa", sum := "bf070927df11a8809af3a416482336729cbd91940a35126a9997b35c4c2b9239", func := "althing/althinglaw11.IndexOrders", spec := "indexOrders", unfollowed := true, recurses := true, plainKeys := false, apart := false, narrowed := true }
def IndexOrdersUptoSaid : Prop := indexOrdersUptoRow.holds Try.pinned (OpenSpec.upto indexOrdersSpec)

/-- 'althinglaw11.IndexOrdered', WHERE WHAT IT READS IS OF BULK AT MOST 1048576: true; the input reads as it did. -/
def indexOrderedUptoRow : OpenClaim := { program := "ytgaglcfoodbcfaa", sum := "bf070927df11a8809af3a416482336729cbd91940a35126a9997b35c4c2b9239", func := "althing/althinglaw11.IndexOrdered", spec := "indexOrdered", unfollowed := true, recurses := true, plainKeys := false, apart := false, narrowed := true }
def IndexOrderedUptoSaid : Prop := indexOrderedUptoRow.holds Try.pinned (OpenSpec.upto indexOrderedSpec)

/-- 'althinglaw11.IndexSlots', WHERE WHAT IT READS IS OF BULK AT MOST 1048576: true; the input reads as it did. -/
def indexSlotsUptoRow : OpenClaim := { program := "ytgaglcfoodbcfaa", sum := "bf070927df11a8809af3a416482336729cbd91940a35126a9997b35c4c2b9239", func := "althing/althinglaw11.IndexSlots", spec := "indexSlots", unfollowed := true, recurses := true, plainKeys := false, apart := false, narrowed := true }
def IndexSlotsUptoSaid : Prop := indexSlotsUptoRow.holds Try.pinned (OpenSpec.upto indexSlotsSpec)

/-- 'althinglaw11.IndexNoops', WHERE WHAT IT READS IS OF BULK AT MOST 1048576: true; the input reads as it did. -/
def indexNoopsUptoRow : OpenClaim := { program := "ytgaglcfoodbcfaa", sum := "bf070927df11a8809af3a416482336729cbd91940a35126a9997b35c4c2b9239", func := "althing/althinglaw11.IndexNoops", spec := "indexNoops", unfollowed := true, recurses := true, plainKeys := false, apart := false, narrowed := true }
def IndexNoopsUptoSaid : Prop := indexNoopsUptoRow.holds Try.pinned (OpenSpec.upto indexNoopsSpec)

end Rows
end Go.Proofs.Ytgaglcfoodbcfaa
