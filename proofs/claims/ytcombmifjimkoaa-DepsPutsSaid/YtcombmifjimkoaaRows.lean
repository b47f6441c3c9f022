/-
  No cell of these rows narrows 'for every input' (looked for: loops, veiled, ifaces, maps, wideKeys, modest, calm, conditions, laid).
  DERIVED. THE GIVEN ROWS OF THIS SEAT. 6 by the template 'for every input the law returns true; each argument reads behind the call as it read before'; 0 by the template 'total and deterministic' (their statements: YtcombmifjimkoaaTotals.lean).
  GIVEN WITH THE SEED: the statements are not yours to turn. If you find one false, say at which input.
  Laid BY PROGRAM, IN A SANDBOX (cutbox-rows.mjs): the forced cells as the released guide's own fill.sh prints them over the translation e72a10ffafde7524… (all of the seat's roots in one cut). By AI agents, Wed Nov 11 2026. No macro, syntax, notation, axiom, sorry.
-/
import Derived.Test.YtcombmifjimkoaaChecked
import GoSem.Claim
import GoSem.ClaimJoined
import GoSem.ClaimMapViews
import Derived.JoinedTies
import Derived.KernelRfl
namespace Go.Proofs.Ytcombmifjimkoaa
/- THE CELL 'sum', in the pinned program and in every row, IS THE sha256 OF THE DUMP (.gsa) THAT YtcombmifjimkoaaProg.lean LOADS. Nothing in Lean hashes anything: it is a label: what it is worth is what the hold of that sum in a sandbox is worth. -/
noncomputable def Try.pinned : Pinned := { name := "ytcombmifjimkoaa", sum := "e72a10ffafde75240007a1e092df78bdf37967e5f4400e3f498264fcfbfb5e2e", checked := Try.checked }
namespace Rows
def none {H : Type} : Left H := { results := [], args := [] }

/-- 'althinglaw03.DepsWords': WHATEVER THE INPUT: true; the input reads as it did. -/
def depsWordsSpec : ChangeSpec := { name := "depsWords", fn := fun _ => fun
  | [d1, d2, d3] => { results := [.lit (.bool true)], args := [d1, d2, d3] }
  | _ => none }
def depsWordsRow : OpenClaim := { program := "ytcombmifjimkoaa", sum := "e72a10ffafde75240007a1e092df78bdf37967e5f4400e3f498264fcfbfb5e2e", func := "althing/althinglaw03.DepsWords", spec := "depsWords", apart := false }
def DepsWordsSaid : Prop := depsWordsRow.holds Try.pinned (OpenSpec.ofChange depsWordsSpec)

/-- ITS FALSE NEIGHBOUR: 'it returns false'. Refute it at one input. -/
def depsWordsWrong : ChangeSpec := { name := "depsWords", fn := fun _ => fun
  | [d1, d2, d3] => { results := [.lit (.bool false)], args := [d1, d2, d3] }
  | _ => none }
def DepsWordsWrongFalsely : Prop := depsWordsRow.holds Try.pinned (OpenSpec.ofChange depsWordsWrong)

/-- 'althinglaw03.DepsLists': WHATEVER THE INPUT: true; the input reads as it did. -/
def depsListsSpec : ChangeSpec := { name := "depsLists", fn := fun _ => fun
  | [d1, d2] => { results := [.lit (.bool true)], args := [d1, d2] }
  | _ => none }
def depsListsRow : OpenClaim := { program := "ytcombmifjimkoaa", sum := "e72a10ffafde75240007a1e092df78bdf37967e5f4400e3f498264fcfbfb5e2e", func := "althing/althinglaw03.DepsLists", spec := "depsLists", apart := false }
def DepsListsSaid : Prop := depsListsRow.holds Try.pinned (OpenSpec.ofChange depsListsSpec)

/-- ITS FALSE NEIGHBOUR: 'it returns false'. Refute it at one input. -/
def depsListsWrong : ChangeSpec := { name := "depsLists", fn := fun _ => fun
  | [d1, d2] => { results := [.lit (.bool false)], args := [d1, d2] }
  | _ => none }
def DepsListsWrongFalsely : Prop := depsListsRow.holds Try.pinned (OpenSpec.ofChange depsListsWrong)

/-- 'althinglaw03.DepsJoins': WHATEVER THE INPUT: true; the input reads as it did. -/
def depsJoinsSpec : ChangeSpec := { name := "depsJoins", fn := fun _ => fun
  | [d1, d2, d3, d4] => { results := [.lit (.bool true)], args := [d1, d2, d3, d4] }
  | _ => none }
def depsJoinsRow : OpenClaim := { program := "ytcombmifjimkoaa", sum := "e72a10ffafde75240007a1e092df78bdf37967e5f4400e3f498264fcfbfb5e2e", func := "althing/althinglaw03.DepsJoins", spec := "depsJoins", apart := false }
def DepsJoinsSaid : Prop := depsJoinsRow.holds Try.pinned (OpenSpec.ofChange depsJoinsSpec)

/-- ITS FALSE NEIGHBOUR: 'it returns false'. Refute it at one input. -/
def depsJoinsWrong : ChangeSpec := { name := "depsJoins", fn := fun _ => fun
  | [d1, d2, d3, d4] => { results := [.lit (.bool false)], args := [d1, d2, d3, d4] }
  | _ => none }
def DepsJoinsWrongFalsely : Prop := depsJoinsRow.holds Try.pinned (OpenSpec.ofChange depsJoinsWrong)

/-- 'althinglaw03.DepsPuts': WHATEVER THE INPUT: true; the input reads as it did. -/
def depsPutsSpec : ChangeSpec := { name := "depsPuts", fn := fun _ => fun
  | [d1, d2] => { results := [.lit (.bool true)], args := [d1, d2] }
  | _ => none }
def depsPutsRow : OpenClaim := { program := "ytcombmifjimkoaa", sum := "e72a10ffafde75240007a1e092df78bdf37967e5f4400e3f498264fcfbfb5e2e", func := "althing/althinglaw03.DepsPuts", spec := "depsPuts", apart := false }
def DepsPutsSaid : Prop := depsPutsRow.holds Try.pinned (OpenSpec.ofChange depsPutsSpec)

/-- ITS FALSE NEIGHBOUR: 'it returns false'. Refute it at one input. -/
def depsPutsWrong : ChangeSpec := { name := "depsPuts", fn := fun _ => fun
  | [d1, d2] => { results := [.lit (.bool false)], args := [d1, d2] }
  | _ => none }
def DepsPutsWrongFalsely : Prop := depsPutsRow.holds Try.pinned (OpenSpec.ofChange depsPutsWrong)

/-- 'althinglaw03.DepsOver': WHATEVER THE INPUT: true; the input reads as it did. -/
def depsOverSpec : ChangeSpec := { name := "depsOver", fn := fun _ => fun
  | [d1, d2, d3] => { results := [.lit (.bool true)], args := [d1, d2, d3] }
  | _ => none }
def depsOverRow : OpenClaim := { program := "ytcombmifjimkoaa", sum := "e72a10ffafde75240007a1e092df78bdf37967e5f4400e3f498264fcfbfb5e2e", func := "althing/althinglaw03.DepsOver", spec := "depsOver", apart := false }
def DepsOverSaid : Prop := depsOverRow.holds Try.pinned (OpenSpec.ofChange depsOverSpec)

/-- ITS FALSE NEIGHBOUR: 'it returns false'. Refute it at one input. -/
def depsOverWrong : ChangeSpec := { name := "depsOver", fn := fun _ => fun
  | [d1, d2, d3] => { results := [.lit (.bool false)], args := [d1, d2, d3] }
  | _ => none }
def DepsOverWrongFalsely : Prop := depsOverRow.holds Try.pinned (OpenSpec.ofChange depsOverWrong)

/-- 'althinglaw03.DepsGrow': WHATEVER THE INPUT: true; the input reads as it did. -/
def depsGrowSpec : ChangeSpec := { name := "depsGrow", fn := fun _ => fun
  | [d1, d2, d3] => { results := [.lit (.bool true)], args := [d1, d2, d3] }
  | _ => none }
def depsGrowRow : OpenClaim := { program := "ytcombmifjimkoaa", sum := "e72a10ffafde75240007a1e092df78bdf37967e5f4400e3f498264fcfbfb5e2e", func := "althing/althinglaw03.DepsGrow", spec := "depsGrow", apart := false }
def DepsGrowSaid : Prop := depsGrowRow.holds Try.pinned (OpenSpec.ofChange depsGrowSpec)

/-- ITS FALSE NEIGHBOUR: 'it returns false'. Refute it at one input. -/
def depsGrowWrong : ChangeSpec := { name := "depsGrow", fn := fun _ => fun
  | [d1, d2, d3] => { results := [.lit (.bool false)], args := [d1, d2, d3] }
  | _ => none }
def DepsGrowWrongFalsely : Prop := depsGrowRow.holds Try.pinned (OpenSpec.ofChange depsGrowWrong)

/- THE SECOND FORM. 'bulk': how many values and letters a reading holds, each counted each time it is reached (what is shared counts as often as it is met; a slice's spare places count too). A statement '..UptoSaid' is the law's where the arguments, and the package variables that the reading takes, are together of bulk at most 1048576: NARROWER than '..Said'. Prove '..Said' where nothing that the law and all that it calls make is longer than what came in: it says more and counts as full. Else prove '..UptoSaid'. A law counts once. -/
mutual
def uptoBulk {H : Type} : DataW H → Nat
  | .lit (.string bytes) => bytes.length + 1
  | .lit _ => 1
  | .nil => 1
  | .ptr d => uptoBulk d + 1
  | .slice elems spare => uptoBulkAll elems + uptoBulkAll spare + 1
  | .agg parts => uptoBulkAll parts + 1
  | .iface _ d => uptoBulk d + 1
  | .map entries => uptoBulkEntries entries + 1
  | .held _ => 1
def uptoBulkAll {H : Type} : List (DataW H) → Nat
  | [] => 0
  | d :: r => uptoBulk d + uptoBulkAll r
def uptoBulkEntries {H : Type} : List (Lit × DataW H) → Nat
  | [] => 0
  | x :: r => uptoBulkEntry x + uptoBulkEntries r
def uptoBulkEntry {H : Type} : Lit × DataW H → Nat
  | (.string bytes, d) => bytes.length + uptoBulk d + 1
  | (_, d) => uptoBulk d + 1
 end
def uptoSmall : (H : Type) → List (DataW H) → Bool := fun _ ds => decide (uptoBulkAll ds ≤ 1048576)
def OpenSpec.upto (s : _root_.Go.ChangeSpec) : _root_.Go.OpenSpec := { _root_.Go.OpenSpec.ofChange s with cond := some uptoSmall }

/-- 'althinglaw03.DepsWords', WHERE WHAT IT READS IS OF BULK AT MOST 1048576: true; the input reads as it did. -/
def depsWordsUptoRow : OpenClaim := { program := "ytcombmifjimkoaa", sum := "e72a10ffafde75240007a1e092df78bdf37967e5f4400e3f498264fcfbfb5e2e", func := "althing/althinglaw03.DepsWords", spec := "depsWords", apart := false, narrowed := true }
def DepsWordsUptoSaid : Prop := depsWordsUptoRow.holds Try.pinned (OpenSpec.upto depsWordsSpec)

/-- 'althinglaw03.DepsLists', WHERE WHAT IT READS IS OF BULK AT MOST 1048576: true; the input reads as it did. -/
def depsListsUptoRow : OpenClaim := { program := "ytcombmifjimkoaa", sum := "e72a10ffafde75240007a1e092df78bdf37967e5f4400e3f498264fcfbfb5e2e", func := "althing/althinglaw03.DepsLists", spec := "depsLists", apart := false, narrowed := true }
def DepsListsUptoSaid : Prop := depsListsUptoRow.holds Try.pinned (OpenSpec.upto depsListsSpec)

/-- 'althinglaw03.DepsJoins', WHERE WHAT IT READS IS OF BULK AT MOST 1048576: true; the input reads as it did. -/
def depsJoinsUptoRow : OpenClaim := { program := "ytcombmifjimkoaa", sum := "e72a10ffafde75240007a1e092df78bdf37967e5f4400e3f498264fcfbfb5e2e", func := "althing/althinglaw03.DepsJoins", spec := "depsJoins", apart := false, narrowed := true }
def DepsJoinsUptoSaid : Prop := depsJoinsUptoRow.holds Try.pinned (OpenSpec.upto depsJoinsSpec)

/-- 'althinglaw03.DepsPuts', WHERE WHAT IT READS IS OF BULK AT MOST 1048576: true; the input reads as it did. -/
def depsPutsUptoRow : OpenClaim := { program := "ytcombmifjimkoaa", sum := "e72a10ffafde75240007a1e092df78bdf37967e5f4400e3f498264fcfbfb5e2e", func := "althing/althinglaw03.DepsPuts", spec := "depsPuts", apart := false, narrowed := true }
def DepsPutsUptoSaid : Prop := depsPutsUptoRow.holds Try.pinned (OpenSpec.upto depsPutsSpec)

/-- 'althinglaw03.DepsOver', WHERE WHAT IT READS IS OF BULK AT MOST 1048576: true; the input reads as it did. -/
def depsOverUptoRow : OpenClaim := { program := "ytcombmifjimkoaa", sum := "e72a10ffafde75240007a1e092df78bdf37967e5f4400e3f498264fcfbfb5e2e", func := "althing/althinglaw03.DepsOver", spec := "depsOver", apart := false, narrowed := true }
def DepsOverUptoSaid : Prop := depsOverUptoRow.holds Try.pinned (OpenSpec.upto depsOverSpec)

/-- 'althinglaw03.DepsGrow', WHERE WHAT IT READS IS OF BULK AT MOST 1048576: true; the input reads as it did. -/
def depsGrowUptoRow : OpenClaim := { program := "ytcombmifjimkoaa", sum := "e72a10ffafde75240007a1e092df78bdf37967e5f4400e3f498264fcfbfb5e2e", func := "althing/althinglaw03.DepsGrow", spec := "depsGrow", apart := false, narrowed := true }
def DepsGrowUptoSaid : Prop := depsGrowUptoRow.holds Try.pinned (OpenSpec.upto depsGrowSpec)

end Rows
end Go.Proofs.Ytcombmifjimkoaa
