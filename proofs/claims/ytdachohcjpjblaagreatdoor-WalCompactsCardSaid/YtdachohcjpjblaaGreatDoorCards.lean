/-
  DERIVED. GIVEN WITH THE SEED: THE CARDS: each row of YtdachohcjpjblaaGreatDoorRows.lean that lists a variable, with what it lists TIED to the program's text (the seventh form; the later family's looks); each row that meets fmt, with fmt's text TOLD by the authors' own Lean function (tested against real Go, not proved from fmt's source: count such statements apart). THE CARD IS WHAT COUNTS. Prove the row's statement (the work); the ties are given (YtdachohcjpjblaaGreatDoorTie.lean); close each card by the builder's one call (the guide's Derived/Test/ToyasCard.lean, 'card_holds'). Laid BY PROGRAM, IN A SANDBOX (cutbox-door.mjs). By AI agents, Wed Nov 11 2026. No macro, syntax, notation, axiom, sorry.
-/
import Derived.Test.YtdachohcjpjblaaGreatDoorRows
import GoSem.ClaimSeven
namespace Go.Proofs.YtdachohcjpjblaaGreatDoor
namespace Rows

/-- THE TIED CARD OF 'althinglaw09.WalOpens'. -/
def walOpensCard : Claim7 := { stood := { row := walOpensRow, standIns := [], harness := (true, "292f581ef800744f4cab2458e59ac3d91e5e46f52f7c11d8f861b5d3de5e1e63"), looks := true }, kinds := [], alts := [], laidByText := true, laidKinds := [.data], laidTests := true, laidLooks := .later }
def WalOpensCardSaid : Prop := Claim7.holds Tryz.pinned (.plain (OpenSpec.ofChange walOpensSpec)) walOpensCard

/-- THE TIED CARD OF 'althinglaw09.WalSafe'. -/
def walSafeCard : Claim7 := { stood := { row := walSafeRow, standIns := [], harness := (true, "292f581ef800744f4cab2458e59ac3d91e5e46f52f7c11d8f861b5d3de5e1e63"), looks := true }, kinds := [], alts := [], laidByText := true, laidKinds := [.data], laidTests := true, laidLooks := .later }
def WalSafeCardSaid : Prop := Claim7.holds Tryz.pinned (.plain (OpenSpec.ofChange walSafeSpec)) walSafeCard

/-- THE TIED CARD OF 'althinglaw09.WalCompacts'. -/
def walCompactsCard : Claim7 := { stood := { row := walCompactsRow, standIns := [], harness := (true, "292f581ef800744f4cab2458e59ac3d91e5e46f52f7c11d8f861b5d3de5e1e63"), looks := true }, kinds := [], alts := [], laidByText := true, laidKinds := [.data], laidTests := true, laidLooks := .later }
def WalCompactsCardSaid : Prop := Claim7.holds Tryz.pinned (.plain (OpenSpec.ofChange walCompactsSpec)) walCompactsCard

/-- THE TIED CARD OF 'althinglaw09.WalNobody'. -/
def walNobodyCard : Claim7 := { stood := { row := walNobodyRow, standIns := [], harness := (true, "292f581ef800744f4cab2458e59ac3d91e5e46f52f7c11d8f861b5d3de5e1e63"), looks := true }, kinds := [], alts := [], laidByText := true, laidKinds := [.data], laidTests := true, laidLooks := .later }
def WalNobodyCardSaid : Prop := Claim7.holds Tryz.pinned (.plain (OpenSpec.ofChange walNobodySpec)) walNobodyCard

/-- THE TIED CARD OF 'althinglaw09.WalLast'. -/
def walLastCard : Claim7 := { stood := { row := walLastRow, standIns := [], harness := (true, "292f581ef800744f4cab2458e59ac3d91e5e46f52f7c11d8f861b5d3de5e1e63"), looks := true }, kinds := [], alts := [], laidByText := true, laidKinds := [.data], laidTests := true, laidLooks := .later }
def WalLastCardSaid : Prop := Claim7.holds Tryz.pinned (.plain (OpenSpec.ofChange walLastSpec)) walLastCard

/-- THE TIED CARD OF 'althinglaw09.WalWhole'. -/
def walWholeCard : Claim7 := { stood := { row := walWholeRow, standIns := [], harness := (true, "292f581ef800744f4cab2458e59ac3d91e5e46f52f7c11d8f861b5d3de5e1e63"), looks := true }, kinds := [], alts := [], laidByText := true, laidKinds := [.data], laidTests := true, laidLooks := .later }
def WalWholeCardSaid : Prop := Claim7.holds Tryz.pinned (.plain (OpenSpec.ofChange walWholeSpec)) walWholeCard

/-- THE SECOND FORM's CARD OF 'althinglaw09.WalOpens'. -/
def walOpensUptoCard : Claim7 := { stood := { row := walOpensUptoRow, standIns := [], harness := (true, "292f581ef800744f4cab2458e59ac3d91e5e46f52f7c11d8f861b5d3de5e1e63"), looks := true }, kinds := [], alts := [], laidByText := true, laidKinds := [.data], laidTests := true, laidLooks := .later }
def WalOpensUptoCardSaid : Prop := Claim7.holds Tryz.pinned (.plain (OpenSpec.upto walOpensSpec)) walOpensUptoCard

/-- THE SECOND FORM's CARD OF 'althinglaw09.WalSafe'. -/
def walSafeUptoCard : Claim7 := { stood := { row := walSafeUptoRow, standIns := [], harness := (true, "292f581ef800744f4cab2458e59ac3d91e5e46f52f7c11d8f861b5d3de5e1e63"), looks := true }, kinds := [], alts := [], laidByText := true, laidKinds := [.data], laidTests := true, laidLooks := .later }
def WalSafeUptoCardSaid : Prop := Claim7.holds Tryz.pinned (.plain (OpenSpec.upto walSafeSpec)) walSafeUptoCard

/-- THE SECOND FORM's CARD OF 'althinglaw09.WalCompacts'. -/
def walCompactsUptoCard : Claim7 := { stood := { row := walCompactsUptoRow, standIns := [], harness := (true, "292f581ef800744f4cab2458e59ac3d91e5e46f52f7c11d8f861b5d3de5e1e63"), looks := true }, kinds := [], alts := [], laidByText := true, laidKinds := [.data], laidTests := true, laidLooks := .later }
def WalCompactsUptoCardSaid : Prop := Claim7.holds Tryz.pinned (.plain (OpenSpec.upto walCompactsSpec)) walCompactsUptoCard

/-- THE SECOND FORM's CARD OF 'althinglaw09.WalNobody'. -/
def walNobodyUptoCard : Claim7 := { stood := { row := walNobodyUptoRow, standIns := [], harness := (true, "292f581ef800744f4cab2458e59ac3d91e5e46f52f7c11d8f861b5d3de5e1e63"), looks := true }, kinds := [], alts := [], laidByText := true, laidKinds := [.data], laidTests := true, laidLooks := .later }
def WalNobodyUptoCardSaid : Prop := Claim7.holds Tryz.pinned (.plain (OpenSpec.upto walNobodySpec)) walNobodyUptoCard

/-- THE SECOND FORM's CARD OF 'althinglaw09.WalLast'. -/
def walLastUptoCard : Claim7 := { stood := { row := walLastUptoRow, standIns := [], harness := (true, "292f581ef800744f4cab2458e59ac3d91e5e46f52f7c11d8f861b5d3de5e1e63"), looks := true }, kinds := [], alts := [], laidByText := true, laidKinds := [.data], laidTests := true, laidLooks := .later }
def WalLastUptoCardSaid : Prop := Claim7.holds Tryz.pinned (.plain (OpenSpec.upto walLastSpec)) walLastUptoCard

/-- THE SECOND FORM's CARD OF 'althinglaw09.WalWhole'. -/
def walWholeUptoCard : Claim7 := { stood := { row := walWholeUptoRow, standIns := [], harness := (true, "292f581ef800744f4cab2458e59ac3d91e5e46f52f7c11d8f861b5d3de5e1e63"), looks := true }, kinds := [], alts := [], laidByText := true, laidKinds := [.data], laidTests := true, laidLooks := .later }
def WalWholeUptoCardSaid : Prop := Claim7.holds Tryz.pinned (.plain (OpenSpec.upto walWholeSpec)) walWholeUptoCard
end Rows
end Go.Proofs.YtdachohcjpjblaaGreatDoor
