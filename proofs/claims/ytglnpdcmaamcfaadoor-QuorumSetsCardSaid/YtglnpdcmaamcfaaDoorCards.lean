/-
  DERIVED. GIVEN WITH THE SEED: THE CARDS: each row of YtglnpdcmaamcfaaDoorRows.lean that lists a variable, with what it lists TIED to the program's text (the seventh form; the later family's looks); each row that meets fmt, with fmt's text TOLD by the authors' own Lean function (tested against real Go, not proved from fmt's source: count such statements apart). THE CARD IS WHAT COUNTS. Prove the row's statement (the work); the ties are given (YtglnpdcmaamcfaaDoorTie.lean); close each card by the builder's one call (the guide's Derived/Test/ToyasCard.lean, 'card_holds'). Laid BY PROGRAM, IN A SANDBOX (cutbox-door.mjs). By AI agents, Wed Nov 11 2026. No macro, syntax, notation, axiom, sorry.
-/
import Derived.Test.YtglnpdcmaamcfaaDoorRows
import GoSem.ClaimSeven
namespace Go.Proofs.YtglnpdcmaamcfaaDoor
namespace Rows

/-- THE TIED CARD OF 'althinglaw01.QuorumSizes'. -/
def quorumSizesCard : Claim7 := { stood := { row := quorumSizesRow, standIns := [], harness := (true, "707faffd0e132939ca345f2cf1eb25628421bb7db2c9bb3090cd02e37c6748f9"), looks := false }, kinds := [], alts := [], laidByText := true, laidKinds := [.data], laidTests := true, laidLooks := .later }
def QuorumSizesCardSaid : Prop := Claim7.holds Tryd.pinned (.plain (OpenSpec.ofChange quorumSizesSpec)) quorumSizesCard

/-- THE TIED CARD OF 'althinglaw01.QuorumSets'. -/
def quorumSetsCard : Claim7 := { stood := { row := quorumSetsRow, standIns := [], harness := (true, "707faffd0e132939ca345f2cf1eb25628421bb7db2c9bb3090cd02e37c6748f9"), looks := false }, kinds := [], alts := [], laidByText := true, laidKinds := [.data], laidTests := true, laidLooks := .later }
def QuorumSetsCardSaid : Prop := Claim7.holds Tryd.pinned (.plain (OpenSpec.ofChange quorumSetsSpec)) quorumSetsCard

/-- THE TIED CARD OF 'althinglaw01.QuorumMeet'. -/
def quorumMeetCard : Claim7 := { stood := { row := quorumMeetRow, standIns := [], harness := (true, "707faffd0e132939ca345f2cf1eb25628421bb7db2c9bb3090cd02e37c6748f9"), looks := false }, kinds := [], alts := [], laidByText := true, laidKinds := [.data], laidTests := true, laidLooks := .later }
def QuorumMeetCardSaid : Prop := Claim7.holds Tryd.pinned (.plain (OpenSpec.ofChange quorumMeetSpec)) quorumMeetCard

/-- THE TIED CARD OF 'althinglaw01.QuorumFast'. -/
def quorumFastCard : Claim7 := { stood := { row := quorumFastRow, standIns := [], harness := (true, "707faffd0e132939ca345f2cf1eb25628421bb7db2c9bb3090cd02e37c6748f9"), looks := false }, kinds := [], alts := [], laidByText := true, laidKinds := [.data], laidTests := true, laidLooks := .later }
def QuorumFastCardSaid : Prop := Claim7.holds Tryd.pinned (.plain (OpenSpec.ofChange quorumFastSpec)) quorumFastCard

/-- THE TIED CARD OF 'althinglaw01.QuorumPuts'. -/
def quorumPutsCard : Claim7 := { stood := { row := quorumPutsRow, standIns := [], harness := (true, "707faffd0e132939ca345f2cf1eb25628421bb7db2c9bb3090cd02e37c6748f9"), looks := false }, kinds := [], alts := [], laidByText := true, laidKinds := [.data], laidTests := true, laidLooks := .later }
def QuorumPutsCardSaid : Prop := Claim7.holds Tryd.pinned (.plain (OpenSpec.ofChange quorumPutsSpec)) quorumPutsCard

/-- THE TIED CARD OF 'althinglaw01.QuorumParts'. -/
def quorumPartsCard : Claim7 := { stood := { row := quorumPartsRow, standIns := [], harness := (true, "707faffd0e132939ca345f2cf1eb25628421bb7db2c9bb3090cd02e37c6748f9"), looks := false }, kinds := [], alts := [], laidByText := true, laidKinds := [.data], laidTests := true, laidLooks := .later }
def QuorumPartsCardSaid : Prop := Claim7.holds Tryd.pinned (.plain (OpenSpec.ofChange quorumPartsSpec)) quorumPartsCard

/-- THE TIED CARD OF 'althinglaw01.QuorumGrows'. -/
def quorumGrowsCard : Claim7 := { stood := { row := quorumGrowsRow, standIns := [], harness := (true, "707faffd0e132939ca345f2cf1eb25628421bb7db2c9bb3090cd02e37c6748f9"), looks := false }, kinds := [], alts := [], laidByText := true, laidKinds := [.data], laidTests := true, laidLooks := .later }
def QuorumGrowsCardSaid : Prop := Claim7.holds Tryd.pinned (.plain (OpenSpec.ofChange quorumGrowsSpec)) quorumGrowsCard

/-- THE SECOND FORM's CARD OF 'althinglaw01.QuorumSizes'. -/
def quorumSizesUptoCard : Claim7 := { stood := { row := quorumSizesUptoRow, standIns := [], harness := (true, "707faffd0e132939ca345f2cf1eb25628421bb7db2c9bb3090cd02e37c6748f9"), looks := false }, kinds := [], alts := [], laidByText := true, laidKinds := [.data], laidTests := true, laidLooks := .later }
def QuorumSizesUptoCardSaid : Prop := Claim7.holds Tryd.pinned (.plain (OpenSpec.upto quorumSizesSpec)) quorumSizesUptoCard

/-- THE SECOND FORM's CARD OF 'althinglaw01.QuorumSets'. -/
def quorumSetsUptoCard : Claim7 := { stood := { row := quorumSetsUptoRow, standIns := [], harness := (true, "707faffd0e132939ca345f2cf1eb25628421bb7db2c9bb3090cd02e37c6748f9"), looks := false }, kinds := [], alts := [], laidByText := true, laidKinds := [.data], laidTests := true, laidLooks := .later }
def QuorumSetsUptoCardSaid : Prop := Claim7.holds Tryd.pinned (.plain (OpenSpec.upto quorumSetsSpec)) quorumSetsUptoCard

/-- THE SECOND FORM's CARD OF 'althinglaw01.QuorumMeet'. -/
def quorumMeetUptoCard : Claim7 := { stood := { row := quorumMeetUptoRow, standIns := [], harness := (true, "707faffd0e132939ca345f2cf1eb25628421bb7db2c9bb3090cd02e37c6748f9"), looks := false }, kinds := [], alts := [], laidByText := true, laidKinds := [.data], laidTests := true, laidLooks := .later }
def QuorumMeetUptoCardSaid : Prop := Claim7.holds Tryd.pinned (.plain (OpenSpec.upto quorumMeetSpec)) quorumMeetUptoCard

/-- THE SECOND FORM's CARD OF 'althinglaw01.QuorumFast'. -/
def quorumFastUptoCard : Claim7 := { stood := { row := quorumFastUptoRow, standIns := [], harness := (true, "707faffd0e132939ca345f2cf1eb25628421bb7db2c9bb3090cd02e37c6748f9"), looks := false }, kinds := [], alts := [], laidByText := true, laidKinds := [.data], laidTests := true, laidLooks := .later }
def QuorumFastUptoCardSaid : Prop := Claim7.holds Tryd.pinned (.plain (OpenSpec.upto quorumFastSpec)) quorumFastUptoCard

/-- THE SECOND FORM's CARD OF 'althinglaw01.QuorumPuts'. -/
def quorumPutsUptoCard : Claim7 := { stood := { row := quorumPutsUptoRow, standIns := [], harness := (true, "707faffd0e132939ca345f2cf1eb25628421bb7db2c9bb3090cd02e37c6748f9"), looks := false }, kinds := [], alts := [], laidByText := true, laidKinds := [.data], laidTests := true, laidLooks := .later }
def QuorumPutsUptoCardSaid : Prop := Claim7.holds Tryd.pinned (.plain (OpenSpec.upto quorumPutsSpec)) quorumPutsUptoCard

/-- THE SECOND FORM's CARD OF 'althinglaw01.QuorumParts'. -/
def quorumPartsUptoCard : Claim7 := { stood := { row := quorumPartsUptoRow, standIns := [], harness := (true, "707faffd0e132939ca345f2cf1eb25628421bb7db2c9bb3090cd02e37c6748f9"), looks := false }, kinds := [], alts := [], laidByText := true, laidKinds := [.data], laidTests := true, laidLooks := .later }
def QuorumPartsUptoCardSaid : Prop := Claim7.holds Tryd.pinned (.plain (OpenSpec.upto quorumPartsSpec)) quorumPartsUptoCard

/-- THE SECOND FORM's CARD OF 'althinglaw01.QuorumGrows'. -/
def quorumGrowsUptoCard : Claim7 := { stood := { row := quorumGrowsUptoRow, standIns := [], harness := (true, "707faffd0e132939ca345f2cf1eb25628421bb7db2c9bb3090cd02e37c6748f9"), looks := false }, kinds := [], alts := [], laidByText := true, laidKinds := [.data], laidTests := true, laidLooks := .later }
def QuorumGrowsUptoCardSaid : Prop := Claim7.holds Tryd.pinned (.plain (OpenSpec.upto quorumGrowsSpec)) quorumGrowsUptoCard
end Rows
end Go.Proofs.YtglnpdcmaamcfaaDoor
