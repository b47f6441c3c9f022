/-
  NARROWER THAN 'FOR EVERY INPUT', by the rows' own cells (each row's printed sentence says how): WalOpens: laid · WalSafe: laid · WalCompacts: laid · WalNobody: laid · WalLast: laid · WalWhole: laid.
  DERIVED. THE GIVEN ROWS OF THIS SEAT. 6 by the template 'for every input the law returns true; each argument reads behind the call as it read before'; 0 by the template 'total and deterministic' (their statements: YtdachohcjpjblaaGreatDoorTotals.lean).
  GIVEN WITH THE SEED: the statements are not yours to turn. If you find one false, say at which input.
  Laid BY PROGRAM, IN A SANDBOX (cutbox-rows.mjs): the forced cells as the released guide's own fill.sh prints them over the translation a9c15d03ff5ece61… (all of the seat's roots in one cut). By AI agents, Wed Nov 11 2026. No macro, syntax, notation, axiom, sorry.
-/
import Derived.Test.YtdachohcjpjblaaGreatDoorChecked
import GoSem.Claim
import GoSem.ClaimJoined
import GoSem.ClaimMapViews
import Derived.JoinedTies
import Derived.KernelRfl
namespace Go.Proofs.YtdachohcjpjblaaGreatDoor
/- THE CELL 'sum', in the pinned program and in every row, IS THE sha256 OF THE DUMP (.gsa) THAT YtdachohcjpjblaaGreatDoorProg.lean LOADS. Nothing in Lean hashes anything: it is a label: what it is worth is what the hold of that sum in a sandbox is worth. -/
noncomputable def Tryz.pinned : Pinned := { name := "ytdachohcjpjblaagreatdoor", sum := "a9c15d03ff5ece61d2074241393d5d8d9d64ecbfb58012383a7ed3ac9d4a51f0", checked := Tryz.checked }
namespace Rows
def none {H : Type} : Left H := { results := [], args := [] }

/- WHAT THE LISTED PACKAGE-LEVEL VARIABLES READ AS WHEN THE CALL BEGINS. Each datum BY PROGRAM (the guide's laid-datum.mjs) off the statement by which the dump's own 'gosem.cut.vars' lays the variable. In a bare row this is a premise. The card (YtdachohcjpjblaaGreatDoorCards.lean) ties it to the program's text. -/
def laid_althing_frame_steps {H : Type} : DataW H := .agg [.lit (.int .u32 0), .lit (.int .u32 498536548), .lit (.int .u32 997073096), .lit (.int .u32 651767980), .lit (.int .u32 1994146192), .lit (.int .u32 1802195444), .lit (.int .u32 1303535960), .lit (.int .u32 1342533948), .lit (.int .u32 3988292384), .lit (.int .u32 4027552580), .lit (.int .u32 3604390888), .lit (.int .u32 3412177804), .lit (.int .u32 2607071920), .lit (.int .u32 2262029012), .lit (.int .u32 2685067896), .lit (.int .u32 3183342108)]

/-- 'althinglaw09.WalOpens': WHATEVER THE INPUT: true; the input reads as it did. -/
def walOpensSpec : ChangeSpec := { name := "walOpens", fn := fun _ => fun
  | [d] => { results := [.lit (.bool true)], args := [d] }
  | _ => none }
def walOpensRow : OpenClaim := { program := "ytdachohcjpjblaagreatdoor", sum := "a9c15d03ff5ece61d2074241393d5d8d9d64ecbfb58012383a7ed3ac9d4a51f0", func := "althing/althinglaw09.WalOpens", spec := "walOpens", unfollowed := true, recurses := true, named := ["althing/frame.steps"], plainKeys := false, apart := false, laid := [("althing/frame.steps", laid_althing_frame_steps)] }
def WalOpensSaid : Prop := walOpensRow.holds Tryz.pinned (OpenSpec.ofChange walOpensSpec)

/-- ITS FALSE NEIGHBOUR: 'it returns false'. Refute it at one input. -/
def walOpensWrong : ChangeSpec := { name := "walOpens", fn := fun _ => fun
  | [d] => { results := [.lit (.bool false)], args := [d] }
  | _ => none }
def WalOpensWrongFalsely : Prop := walOpensRow.holds Tryz.pinned (OpenSpec.ofChange walOpensWrong)

/-- 'althinglaw09.WalSafe': WHATEVER THE INPUT: true; the input reads as it did. -/
def walSafeSpec : ChangeSpec := { name := "walSafe", fn := fun _ => fun
  | [d1, d2, d3, d4, d5] => { results := [.lit (.bool true)], args := [d1, d2, d3, d4, d5] }
  | _ => none }
def walSafeRow : OpenClaim := { program := "ytdachohcjpjblaagreatdoor", sum := "a9c15d03ff5ece61d2074241393d5d8d9d64ecbfb58012383a7ed3ac9d4a51f0", func := "althing/althinglaw09.WalSafe", spec := "walSafe", unfollowed := true, recurses := true, named := ["althing/frame.steps"], plainKeys := false, apart := false, laid := [("althing/frame.steps", laid_althing_frame_steps)] }
def WalSafeSaid : Prop := walSafeRow.holds Tryz.pinned (OpenSpec.ofChange walSafeSpec)

/-- ITS FALSE NEIGHBOUR: 'it returns false'. Refute it at one input. -/
def walSafeWrong : ChangeSpec := { name := "walSafe", fn := fun _ => fun
  | [d1, d2, d3, d4, d5] => { results := [.lit (.bool false)], args := [d1, d2, d3, d4, d5] }
  | _ => none }
def WalSafeWrongFalsely : Prop := walSafeRow.holds Tryz.pinned (OpenSpec.ofChange walSafeWrong)

/-- 'althinglaw09.WalCompacts': WHATEVER THE INPUT: true; the input reads as it did. -/
def walCompactsSpec : ChangeSpec := { name := "walCompacts", fn := fun _ => fun
  | [d1, d2] => { results := [.lit (.bool true)], args := [d1, d2] }
  | _ => none }
def walCompactsRow : OpenClaim := { program := "ytdachohcjpjblaagreatdoor", sum := "a9c15d03ff5ece61d2074241393d5d8d9d64ecbfb58012383a7ed3ac9d4a51f0", func := "althing/althinglaw09.WalCompacts", spec := "walCompacts", unfollowed := true, recurses := true, named := ["althing/frame.steps"], plainKeys := false, apart := false, laid := [("althing/frame.steps", laid_althing_frame_steps)] }
def WalCompactsSaid : Prop := walCompactsRow.holds Tryz.pinned (OpenSpec.ofChange walCompactsSpec)

/-- ITS FALSE NEIGHBOUR: 'it returns false'. Refute it at one input. -/
def walCompactsWrong : ChangeSpec := { name := "walCompacts", fn := fun _ => fun
  | [d1, d2] => { results := [.lit (.bool false)], args := [d1, d2] }
  | _ => none }
def WalCompactsWrongFalsely : Prop := walCompactsRow.holds Tryz.pinned (OpenSpec.ofChange walCompactsWrong)

/-- 'althinglaw09.WalNobody': WHATEVER THE INPUT: true; the input reads as it did. -/
def walNobodySpec : ChangeSpec := { name := "walNobody", fn := fun _ => fun
  | [d] => { results := [.lit (.bool true)], args := [d] }
  | _ => none }
def walNobodyRow : OpenClaim := { program := "ytdachohcjpjblaagreatdoor", sum := "a9c15d03ff5ece61d2074241393d5d8d9d64ecbfb58012383a7ed3ac9d4a51f0", func := "althing/althinglaw09.WalNobody", spec := "walNobody", unfollowed := true, recurses := true, named := ["althing/frame.steps"], plainKeys := false, apart := false, laid := [("althing/frame.steps", laid_althing_frame_steps)] }
def WalNobodySaid : Prop := walNobodyRow.holds Tryz.pinned (OpenSpec.ofChange walNobodySpec)

/-- ITS FALSE NEIGHBOUR: 'it returns false'. Refute it at one input. -/
def walNobodyWrong : ChangeSpec := { name := "walNobody", fn := fun _ => fun
  | [d] => { results := [.lit (.bool false)], args := [d] }
  | _ => none }
def WalNobodyWrongFalsely : Prop := walNobodyRow.holds Tryz.pinned (OpenSpec.ofChange walNobodyWrong)

/-- 'althinglaw09.WalLast': WHATEVER THE INPUT: true; the input reads as it did. -/
def walLastSpec : ChangeSpec := { name := "walLast", fn := fun _ => fun
  | [d] => { results := [.lit (.bool true)], args := [d] }
  | _ => none }
def walLastRow : OpenClaim := { program := "ytdachohcjpjblaagreatdoor", sum := "a9c15d03ff5ece61d2074241393d5d8d9d64ecbfb58012383a7ed3ac9d4a51f0", func := "althing/althinglaw09.WalLast", spec := "walLast", unfollowed := true, recurses := true, named := ["althing/frame.steps"], plainKeys := false, apart := false, laid := [("althing/frame.steps", laid_althing_frame_steps)] }
def WalLastSaid : Prop := walLastRow.holds Tryz.pinned (OpenSpec.ofChange walLastSpec)

/-- ITS FALSE NEIGHBOUR: 'it returns false'. Refute it at one input. -/
def walLastWrong : ChangeSpec := { name := "walLast", fn := fun _ => fun
  | [d] => { results := [.lit (.bool false)], args := [d] }
  | _ => none }
def WalLastWrongFalsely : Prop := walLastRow.holds Tryz.pinned (OpenSpec.ofChange walLastWrong)

/-- 'althinglaw09.WalWhole': WHATEVER THE INPUT: true; the input reads as it did. -/
def walWholeSpec : ChangeSpec := { name := "walWhole", fn := fun _ => fun
  | [d1, d2, d3] => { results := [.lit (.bool true)], args := [d1, d2, d3] }
  | _ => none }
def walWholeRow : OpenClaim := { program := "ytdachohcjpjblaagreatdoor", sum := "a9c15d03ff5ece61d2074241393d5d8d9d64ecbfb58012383a7ed3ac9d4a51f0", func := "althing/althinglaw09.WalWhole", spec := "walWhole", unfollowed := true, recurses := true, named := ["althing/frame.steps"], plainKeys := false, apart := false, laid := [("althing/frame.steps", laid_althing_frame_steps)] }
def WalWholeSaid : Prop := walWholeRow.holds Tryz.pinned (OpenSpec.ofChange walWholeSpec)

/-- ITS FALSE NEIGHBOUR: 'it returns false'. Refute it at one input. -/
def walWholeWrong : ChangeSpec := { name := "walWhole", fn := fun _ => fun
  | [d1, d2, d3] => { results := [.lit (.bool false)], args := [d1, d2, d3] }
  | _ => none }
def WalWholeWrongFalsely : Prop := walWholeRow.holds Tryz.pinned (OpenSpec.ofChange walWholeWrong)

/- THE SECOND FORM. 'bulk': how many values and letters a reading holds, each counted each time it is reached (what is shared counts as often as it is met; a slice's spare places count too). A statement '..UptoSaid' is the law's where the arguments, and the package variables that the reading takes, are together of bulk at most 1048576: NARROWER than '..Said'. Prove '..Said' where nothing that the law and all that it calls make is longer than what came in: it says more and counts as full. Else prove '..UptoSaid'. A law counts once. -/
mutual
def uptoBulk {H : Type} : DataW H → Nat
  | .lit (.string bytes) => bytes.length + 1
  | .lit _ => 1
  | .nil => 1
  | .ptr d => uptoBulk d + 1
  | .slice elems spare => uptoBulkAll elems + uptoBulkAll spare + 1
  | .agg parts => uptoBulkAll parts + 1
  | .iface _ d => uptoBulk d + 1
  | .map entries => uptoBulkEntries entries + 1
  | .held _ => 1
def uptoBulkAll {H : Type} : List (DataW H) → Nat
  | [] => 0
  | d :: r => uptoBulk d + uptoBulkAll r
def uptoBulkEntries {H : Type} : List (Lit × DataW H) → Nat
  | [] => 0
  | x :: r => uptoBulkEntry x + uptoBulkEntries r
def uptoBulkEntry {H : Type} : Lit × DataW H → Nat
  | (.string bytes, d) => bytes.length + uptoBulk d + 1
  | (_, d) => uptoBulk d + 1
 end
def uptoSmall : (H : Type) → List (DataW H) → Bool := fun _ ds => decide (uptoBulkAll ds ≤ 1048576)
def OpenSpec.upto (s : _root_.Go.ChangeSpec) : _root_.Go.OpenSpec := { _root_.Go.OpenSpec.ofChange s with cond := some uptoSmall }

/-- 'althinglaw09.WalOpens', WHERE WHAT IT READS IS OF BULK AT MOST 1048576: true; the input reads as it did. -/
def walOpensUptoRow : OpenClaim := { program := "ytdachohcjpjblaagreatdoor", sum := "a9c15d03ff5ece61d2074241393d5d8d9d64ecbfb58012383a7ed3ac9d4a51f0", func := "althing/althinglaw09.WalOpens", spec := "walOpens", unfollowed := true, recurses := true, named := ["althing/frame.steps"], plainKeys := false, apart := false, laid := [("althing/frame.steps", laid_althing_frame_steps)], narrowed := true }
def WalOpensUptoSaid : Prop := walOpensUptoRow.holds Tryz.pinned (OpenSpec.upto walOpensSpec)

/-- 'althinglaw09.WalSafe', WHERE WHAT IT READS IS OF BULK AT MOST 1048576: true; the input reads as it did. -/
def walSafeUptoRow : OpenClaim := { program := "ytdachohcjpjblaagreatdoor", sum := "a9c15d03ff5ece61d2074241393d5d8d9d64ecbfb58012383a7ed3ac9d4a51f0", func := "althing/althinglaw09.WalSafe", spec := "walSafe", unfollowed := true, recurses := true, named := ["althing/frame.steps"], plainKeys := false, apart := false, laid := [("althing/frame.steps", laid_althing_frame_steps)], narrowed := true }
def WalSafeUptoSaid : Prop := walSafeUptoRow.holds Tryz.pinned (OpenSpec.upto walSafeSpec)

/-- 'althinglaw09.WalCompacts', WHERE WHAT IT READS IS OF BULK AT MOST 1048576: true; the input reads as it did. -/
def walCompactsUptoRow : OpenClaim := { program := "ytdachohcjpjblaagreatdoor", sum := "a9c15d03ff5ece61d2074241393d5d8d9d64ecbfb58012383a7ed3ac9d4a51f0", func := "althing/althinglaw09.WalCompacts", spec := "walCompacts", unfollowed := true, recurses := true, named := ["althing/frame.steps"], plainKeys := false, apart := false, laid := [("althing/frame.steps", laid_althing_frame_steps)], narrowed := true }
def WalCompactsUptoSaid : Prop := walCompactsUptoRow.holds Tryz.pinned (OpenSpec.upto walCompactsSpec)

/-- 'althinglaw09.WalNobody', WHERE WHAT IT READS IS OF BULK AT MOST 1048576: true; the input reads as it did. -/
def walNobodyUptoRow : OpenClaim := { program := "ytdachohcjpjblaagreatdoor", sum := "a9c15d03ff5ece61d2074241393d5d8d9d64ecbfb58012383a7ed3ac9d4a51f0", func := "althing/althinglaw09.WalNobody", spec := "walNobody", unfollowed := true, recurses := true, named := ["althing/frame.steps"], plainKeys := false, apart := false, laid := [("althing/frame.steps", laid_althing_frame_steps)], narrowed := true }
def WalNobodyUptoSaid : Prop := walNobodyUptoRow.holds Tryz.pinned (OpenSpec.upto walNobodySpec)

/-- 'althinglaw09.WalLast', WHERE WHAT IT READS IS OF BULK AT MOST 1048576: true; the input reads as it did. -/
def walLastUptoRow : OpenClaim := { program := "ytdachohcjpjblaagreatdoor", sum := "a9c15d03ff5ece61d2074241393d5d8d9d64ecbfb58012383a7ed3ac9d4a51f0", func := "althing/althinglaw09.WalLast", spec := "walLast", unfollowed := true, recurses := true, named := ["althing/frame.steps"], plainKeys := false, apart := false, laid := [("althing/frame.steps", laid_althing_frame_steps)], narrowed := true }
def WalLastUptoSaid : Prop := walLastUptoRow.holds Tryz.pinned (OpenSpec.upto walLastSpec)

/-- 'althinglaw09.WalWhole', WHERE WHAT IT READS IS OF BULK AT MOST 1048576: true; the input reads as it did. -/
def walWholeUptoRow : OpenClaim := { program := "ytdachohcjpjblaagreatdoor", sum := "a9c15d03ff5ece61d2074241393d5d8d9d64ecbfb58012383a7ed3ac9d4a51f0", func := "althing/althinglaw09.WalWhole", spec := "walWhole", unfollowed := true, recurses := true, named := ["althing/frame.steps"], plainKeys := false, apart := false, laid := [("althing/frame.steps", laid_althing_frame_steps)], narrowed := true }
def WalWholeUptoSaid : Prop := walWholeUptoRow.holds Tryz.pinned (OpenSpec.upto walWholeSpec)

end Rows
end Go.Proofs.YtdachohcjpjblaaGreatDoor
