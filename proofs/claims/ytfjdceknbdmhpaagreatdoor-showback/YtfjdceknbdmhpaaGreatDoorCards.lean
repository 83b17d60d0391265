/-
  DERIVED. GIVEN WITH THE SEED: THE CARDS: each row of YtfjdceknbdmhpaaGreatDoorRows.lean that lists a variable, with what it lists TIED to the program's text (the seventh form; the later family's looks); each row that meets fmt, with fmt's text TOLD by the authors' own Lean function (tested against real Go, not proved from fmt's source: count such statements apart). THE CARD IS WHAT COUNTS. Prove the row's statement (the work); the ties are given (YtfjdceknbdmhpaaGreatDoorTie.lean); close each card by the builder's one call (the guide's Derived/Test/ToyasCard.lean, 'card_holds'). Laid BY PROGRAM, IN A SANDBOX (cutbox-door.mjs). By AI agents, Wed Nov 11 2026. No macro, syntax, notation, axiom, sorry.
-/
import Derived.Test.YtfjdceknbdmhpaaGreatDoorRows
import GoSem.ClaimSeven
namespace Go.Proofs.YtfjdceknbdmhpaaGreatDoor
namespace Rows

/-- THE TIED CARD OF 'tumbrellaw06.ChartSame'. -/
def chartSameCard : Claim7 := { stood := { row := chartSameRow, standIns := [], harness := (true, "7737be8b0cb7d235e881feebbfcfc33eb2e3cd60c3d25aaab49a8636e1a13808"), looks := true }, kinds := [], alts := [], laidByText := true, laidKinds := [.data, .data, .data, .sentinel, .sentinel], laidTests := true, laidLooks := .later }
def ChartSameCardSaid : Prop := Claim7.holds Tryz.pinned (.plain (OpenSpec.ofChange chartSameSpec)) chartSameCard

/-- THE TIED CARD OF 'tumbrellaw07.ShowPrints'. -/
def showPrintsCard : Claim7 := { stood := { row := showPrintsRow, standIns := [], harness := (true, "7737be8b0cb7d235e881feebbfcfc33eb2e3cd60c3d25aaab49a8636e1a13808"), looks := true }, kinds := [], alts := [], laidByText := true, laidKinds := [.data, .data, .data, .data, .pinned], laidTests := true, laidLooks := .later }
def ShowPrintsCardSaid : Prop := Claim7.holds Tryz.pinned (.plain (OpenSpec.ofChange showPrintsSpec)) showPrintsCard

/-- THE TIED CARD OF 'tumbrellaw07.ShowBack'. -/
def showBackCard : Claim7 := { stood := { row := showBackRow, standIns := [], harness := (true, "7737be8b0cb7d235e881feebbfcfc33eb2e3cd60c3d25aaab49a8636e1a13808"), looks := true }, kinds := [], alts := [], laidByText := true, laidKinds := [.data, .data, .data, .sentinel, .sentinel], laidTests := true, laidLooks := .later }
def ShowBackCardSaid : Prop := Claim7.holds Tryz.pinned (.plain (OpenSpec.ofChange showBackSpec)) showBackCard

/-- THE TIED CARD OF 'tumbrellaw07.ShowReads'. -/
def showReadsCard : Claim7 := { stood := { row := showReadsRow, standIns := [], harness := (true, "7737be8b0cb7d235e881feebbfcfc33eb2e3cd60c3d25aaab49a8636e1a13808"), looks := true }, kinds := [], alts := [], laidByText := true, laidKinds := [.data, .data, .data, .sentinel, .sentinel], laidTests := true, laidLooks := .later }
def ShowReadsCardSaid : Prop := Claim7.holds Tryz.pinned (.plain (OpenSpec.ofChange showReadsSpec)) showReadsCard

/-- THE TIED CARD OF 'tumbrellaw08.CheckChecks'. -/
def checkChecksCard : Claim7 := { stood := { row := checkChecksRow, standIns := [], harness := (true, "7737be8b0cb7d235e881feebbfcfc33eb2e3cd60c3d25aaab49a8636e1a13808"), looks := true }, kinds := [], alts := [], laidByText := true, laidKinds := [.data, .data, .data, .data, .sentinel, .sentinel, .pinned], laidTests := true, laidLooks := .later }
def CheckChecksCardSaid : Prop := Claim7.holds Tryz.pinned (.plain (OpenSpec.ofChange checkChecksSpec)) checkChecksCard

/-- THE TIED CARD OF 'tumbrellaw08.CheckCompiles'. -/
def checkCompilesCard : Claim7 := { stood := { row := checkCompilesRow, standIns := [], harness := (true, "7737be8b0cb7d235e881feebbfcfc33eb2e3cd60c3d25aaab49a8636e1a13808"), looks := true }, kinds := [], alts := [], laidByText := true, laidKinds := [.data, .data, .data, .data, .sentinel, .sentinel, .pinned], laidTests := true, laidLooks := .later }
def CheckCompilesCardSaid : Prop := Claim7.holds Tryz.pinned (.plain (OpenSpec.ofChange checkCompilesSpec)) checkCompilesCard

/-- THE SECOND FORM's CARD OF 'tumbrellaw06.ChartSame'. -/
def chartSameUptoCard : Claim7 := { stood := { row := chartSameUptoRow, standIns := [], harness := (true, "7737be8b0cb7d235e881feebbfcfc33eb2e3cd60c3d25aaab49a8636e1a13808"), looks := true }, kinds := [], alts := [], laidByText := true, laidKinds := [.data, .data, .data, .sentinel, .sentinel], laidTests := true, laidLooks := .later }
def ChartSameUptoCardSaid : Prop := Claim7.holds Tryz.pinned (.plain (OpenSpec.upto chartSameSpec)) chartSameUptoCard

/-- THE SECOND FORM's CARD OF 'tumbrellaw07.ShowPrints'. -/
def showPrintsUptoCard : Claim7 := { stood := { row := showPrintsUptoRow, standIns := [], harness := (true, "7737be8b0cb7d235e881feebbfcfc33eb2e3cd60c3d25aaab49a8636e1a13808"), looks := true }, kinds := [], alts := [], laidByText := true, laidKinds := [.data, .data, .data, .data, .pinned], laidTests := true, laidLooks := .later }
def ShowPrintsUptoCardSaid : Prop := Claim7.holds Tryz.pinned (.plain (OpenSpec.upto showPrintsSpec)) showPrintsUptoCard

/-- THE SECOND FORM's CARD OF 'tumbrellaw07.ShowBack'. -/
def showBackUptoCard : Claim7 := { stood := { row := showBackUptoRow, standIns := [], harness := (true, "7737be8b0cb7d235e881feebbfcfc33eb2e3cd60c3d25aaab49a8636e1a13808"), looks := true }, kinds := [], alts := [], laidByText := true, laidKinds := [.data, .data, .data, .sentinel, .sentinel], laidTests := true, laidLooks := .later }
def ShowBackUptoCardSaid : Prop := Claim7.holds Tryz.pinned (.plain (OpenSpec.upto showBackSpec)) showBackUptoCard

/-- THE SECOND FORM's CARD OF 'tumbrellaw07.ShowReads'. -/
def showReadsUptoCard : Claim7 := { stood := { row := showReadsUptoRow, standIns := [], harness := (true, "7737be8b0cb7d235e881feebbfcfc33eb2e3cd60c3d25aaab49a8636e1a13808"), looks := true }, kinds := [], alts := [], laidByText := true, laidKinds := [.data, .data, .data, .sentinel, .sentinel], laidTests := true, laidLooks := .later }
def ShowReadsUptoCardSaid : Prop := Claim7.holds Tryz.pinned (.plain (OpenSpec.upto showReadsSpec)) showReadsUptoCard

/-- THE SECOND FORM's CARD OF 'tumbrellaw08.CheckChecks'. -/
def checkChecksUptoCard : Claim7 := { stood := { row := checkChecksUptoRow, standIns := [], harness := (true, "7737be8b0cb7d235e881feebbfcfc33eb2e3cd60c3d25aaab49a8636e1a13808"), looks := true }, kinds := [], alts := [], laidByText := true, laidKinds := [.data, .data, .data, .data, .sentinel, .sentinel, .pinned], laidTests := true, laidLooks := .later }
def CheckChecksUptoCardSaid : Prop := Claim7.holds Tryz.pinned (.plain (OpenSpec.upto checkChecksSpec)) checkChecksUptoCard

/-- THE SECOND FORM's CARD OF 'tumbrellaw08.CheckCompiles'. -/
def checkCompilesUptoCard : Claim7 := { stood := { row := checkCompilesUptoRow, standIns := [], harness := (true, "7737be8b0cb7d235e881feebbfcfc33eb2e3cd60c3d25aaab49a8636e1a13808"), looks := true }, kinds := [], alts := [], laidByText := true, laidKinds := [.data, .data, .data, .data, .sentinel, .sentinel, .pinned], laidTests := true, laidLooks := .later }
def CheckCompilesUptoCardSaid : Prop := Claim7.holds Tryz.pinned (.plain (OpenSpec.upto checkCompilesSpec)) checkCompilesUptoCard
end Rows
end Go.Proofs.YtfjdceknbdmhpaaGreatDoor
