/-
  DERIVED. GIVEN WITH THE SEED: THE CARDS: each row of YtccmmkhcacglhaaGreatDoorRows.lean that lists a variable, with what it lists TIED to the program's text (the seventh form; the later family's looks); each row that meets fmt, with fmt's text TOLD by the authors' own Lean function (tested against real Go, not proved from fmt's source: count such statements apart). THE CARD IS WHAT COUNTS. Prove the row's statement (the work); the ties are given (YtccmmkhcacglhaaGreatDoorTie.lean); close each card by the builder's one call (the guide's Derived/Test/ToyasCard.lean, 'card_holds'). Laid BY PROGRAM, IN A SANDBOX (cutbox-door.mjs). By AI agents, Wed Nov 11 2026. No macro, syntax, notation, axiom, sorry.
-/
import Derived.Test.YtccmmkhcacglhaaGreatDoorRows
import GoSem.ClaimSeven
namespace Go.Proofs.YtccmmkhcacglhaaGreatDoor
namespace Rows

/-- THE TIED CARD OF 'tumbrellaw06.ChartReads'. -/
def chartReadsCard : Claim7 := { stood := { row := chartReadsRow, standIns := [], harness := (true, "ea797ae63e1ff5fd8819e0ff48b41dc30e74f4b94312fc80973cc089e0a64b55"), looks := true }, kinds := [], alts := [], laidByText := true, laidKinds := [.data, .data, .data, .data, .sentinel, .sentinel, .pinned], laidTests := true, laidLooks := .later }
def ChartReadsCardSaid : Prop := Claim7.holds Tryz.pinned (.plain (OpenSpec.ofChange chartReadsSpec)) chartReadsCard

/-- THE TIED CARD OF 'tumbrellaw06.ChartSame'. -/
def chartSameCard : Claim7 := { stood := { row := chartSameRow, standIns := [], harness := (true, "ea797ae63e1ff5fd8819e0ff48b41dc30e74f4b94312fc80973cc089e0a64b55"), looks := true }, kinds := [], alts := [], laidByText := true, laidKinds := [.data, .data, .data, .sentinel, .sentinel], laidTests := true, laidLooks := .later }
def ChartSameCardSaid : Prop := Claim7.holds Tryz.pinned (.plain (OpenSpec.ofChange chartSameSpec)) chartSameCard

/-- THE TIED CARD OF 'tumbrellaw06.ChartBlanks'. -/
def chartBlanksCard : Claim7 := { stood := { row := chartBlanksRow, standIns := [], harness := (true, "ea797ae63e1ff5fd8819e0ff48b41dc30e74f4b94312fc80973cc089e0a64b55"), looks := true }, kinds := [], alts := [], laidByText := true, laidKinds := [.data, .data, .data, .sentinel, .sentinel], laidTests := true, laidLooks := .later }
def ChartBlanksCardSaid : Prop := Claim7.holds Tryz.pinned (.plain (OpenSpec.ofChange chartBlanksSpec)) chartBlanksCard

/-- THE TIED CARD OF 'tumbrellaw07.ShowPrints'. -/
def showPrintsCard : Claim7 := { stood := { row := showPrintsRow, standIns := [], harness := (true, "ea797ae63e1ff5fd8819e0ff48b41dc30e74f4b94312fc80973cc089e0a64b55"), looks := true }, kinds := [], alts := [], laidByText := true, laidKinds := [.data, .data, .data, .data, .pinned], laidTests := true, laidLooks := .later }
def ShowPrintsCardSaid : Prop := Claim7.holds Tryz.pinned (.plain (OpenSpec.ofChange showPrintsSpec)) showPrintsCard

/-- THE TIED CARD OF 'tumbrellaw07.ShowBack'. -/
def showBackCard : Claim7 := { stood := { row := showBackRow, standIns := [], harness := (true, "ea797ae63e1ff5fd8819e0ff48b41dc30e74f4b94312fc80973cc089e0a64b55"), looks := true }, kinds := [], alts := [], laidByText := true, laidKinds := [.data, .data, .data, .sentinel, .sentinel], laidTests := true, laidLooks := .later }
def ShowBackCardSaid : Prop := Claim7.holds Tryz.pinned (.plain (OpenSpec.ofChange showBackSpec)) showBackCard

/-- THE TIED CARD OF 'tumbrellaw07.ShowReads'. -/
def showReadsCard : Claim7 := { stood := { row := showReadsRow, standIns := [], harness := (true, "ea797ae63e1ff5fd8819e0ff48b41dc30e74f4b94312fc80973cc089e0a64b55"), looks := true }, kinds := [], alts := [], laidByText := true, laidKinds := [.data, .data, .data, .sentinel, .sentinel], laidTests := true, laidLooks := .later }
def ShowReadsCardSaid : Prop := Claim7.holds Tryz.pinned (.plain (OpenSpec.ofChange showReadsSpec)) showReadsCard

/-- THE SECOND FORM's CARD OF 'tumbrellaw06.ChartReads'. -/
def chartReadsUptoCard : Claim7 := { stood := { row := chartReadsUptoRow, standIns := [], harness := (true, "ea797ae63e1ff5fd8819e0ff48b41dc30e74f4b94312fc80973cc089e0a64b55"), looks := true }, kinds := [], alts := [], laidByText := true, laidKinds := [.data, .data, .data, .data, .sentinel, .sentinel, .pinned], laidTests := true, laidLooks := .later }
def ChartReadsUptoCardSaid : Prop := Claim7.holds Tryz.pinned (.plain (OpenSpec.upto chartReadsSpec)) chartReadsUptoCard

/-- THE SECOND FORM's CARD OF 'tumbrellaw06.ChartSame'. -/
def chartSameUptoCard : Claim7 := { stood := { row := chartSameUptoRow, standIns := [], harness := (true, "ea797ae63e1ff5fd8819e0ff48b41dc30e74f4b94312fc80973cc089e0a64b55"), looks := true }, kinds := [], alts := [], laidByText := true, laidKinds := [.data, .data, .data, .sentinel, .sentinel], laidTests := true, laidLooks := .later }
def ChartSameUptoCardSaid : Prop := Claim7.holds Tryz.pinned (.plain (OpenSpec.upto chartSameSpec)) chartSameUptoCard

/-- THE SECOND FORM's CARD OF 'tumbrellaw06.ChartBlanks'. -/
def chartBlanksUptoCard : Claim7 := { stood := { row := chartBlanksUptoRow, standIns := [], harness := (true, "ea797ae63e1ff5fd8819e0ff48b41dc30e74f4b94312fc80973cc089e0a64b55"), looks := true }, kinds := [], alts := [], laidByText := true, laidKinds := [.data, .data, .data, .sentinel, .sentinel], laidTests := true, laidLooks := .later }
def ChartBlanksUptoCardSaid : Prop := Claim7.holds Tryz.pinned (.plain (OpenSpec.upto chartBlanksSpec)) chartBlanksUptoCard

/-- THE SECOND FORM's CARD OF 'tumbrellaw07.ShowPrints'. -/
def showPrintsUptoCard : Claim7 := { stood := { row := showPrintsUptoRow, standIns := [], harness := (true, "ea797ae63e1ff5fd8819e0ff48b41dc30e74f4b94312fc80973cc089e0a64b55"), looks := true }, kinds := [], alts := [], laidByText := true, laidKinds := [.data, .data, .data, .data, .pinned], laidTests := true, laidLooks := .later }
def ShowPrintsUptoCardSaid : Prop := Claim7.holds Tryz.pinned (.plain (OpenSpec.upto showPrintsSpec)) showPrintsUptoCard

/-- THE SECOND FORM's CARD OF 'tumbrellaw07.ShowBack'. -/
def showBackUptoCard : Claim7 := { stood := { row := showBackUptoRow, standIns := [], harness := (true, "ea797ae63e1ff5fd8819e0ff48b41dc30e74f4b94312fc80973cc089e0a64b55"), looks := true }, kinds := [], alts := [], laidByText := true, laidKinds := [.data, .data, .data, .sentinel, .sentinel], laidTests := true, laidLooks := .later }
def ShowBackUptoCardSaid : Prop := Claim7.holds Tryz.pinned (.plain (OpenSpec.upto showBackSpec)) showBackUptoCard

/-- THE SECOND FORM's CARD OF 'tumbrellaw07.ShowReads'. -/
def showReadsUptoCard : Claim7 := { stood := { row := showReadsUptoRow, standIns := [], harness := (true, "ea797ae63e1ff5fd8819e0ff48b41dc30e74f4b94312fc80973cc089e0a64b55"), looks := true }, kinds := [], alts := [], laidByText := true, laidKinds := [.data, .data, .data, .sentinel, .sentinel], laidTests := true, laidLooks := .later }
def ShowReadsUptoCardSaid : Prop := Claim7.holds Tryz.pinned (.plain (OpenSpec.upto showReadsSpec)) showReadsUptoCard
end Rows
end Go.Proofs.YtccmmkhcacglhaaGreatDoor
