/-
  DERIVED. GIVEN WITH THE SEED: THE CARDS: each row of YtifgbioacknjpaaGreatDoorRows.lean that lists a variable, with what it lists TIED to the program's text (the seventh form; the later family's looks); each row that meets fmt, with fmt's text TOLD by the authors' own Lean function (tested against real Go, not proved from fmt's source: count such statements apart). THE CARD IS WHAT COUNTS. Prove the row's statement (the work); the ties are given (YtifgbioacknjpaaGreatDoorTie.lean); close each card by the builder's one call (the guide's Derived/Test/ToyasCard.lean, 'card_holds'). Laid BY PROGRAM, IN A SANDBOX (cutbox-door.mjs). By AI agents, Wed Nov 11 2026. No macro, syntax, notation, axiom, sorry.
-/
import Derived.Test.YtifgbioacknjpaaGreatDoorRows
import GoSem.ClaimSeven
namespace Go.Proofs.YtifgbioacknjpaaGreatDoor
namespace Rows

/-- THE TIED CARD OF 'tumbrellaw06.ChartSame'. -/
def chartSameCard : Claim7 := { stood := { row := chartSameRow, standIns := [], harness := (true, "3e6d4b93260d2eea476556bb4921279f463ce0068126fd8b780a495f219c7c5b"), looks := true }, kinds := [], alts := [], laidByText := true, laidKinds := [.data, .data, .data, .sentinel, .sentinel], laidTests := true, laidLooks := .later }
def ChartSameCardSaid : Prop := Claim7.holds Tryz.pinned (.plain (OpenSpec.ofChange chartSameSpec)) chartSameCard

/-- THE TIED CARD OF 'tumbrellaw07.ShowPrints'. -/
def showPrintsCard : Claim7 := { stood := { row := showPrintsRow, standIns := [], harness := (true, "3e6d4b93260d2eea476556bb4921279f463ce0068126fd8b780a495f219c7c5b"), looks := true }, kinds := [], alts := [], laidByText := true, laidKinds := [.data, .data, .data, .data, .pinned], laidTests := true, laidLooks := .later }
def ShowPrintsCardSaid : Prop := Claim7.holds Tryz.pinned (.plain (OpenSpec.ofChange showPrintsSpec)) showPrintsCard

/-- THE SECOND FORM's CARD OF 'tumbrellaw06.ChartSame'. -/
def chartSameUptoCard : Claim7 := { stood := { row := chartSameUptoRow, standIns := [], harness := (true, "3e6d4b93260d2eea476556bb4921279f463ce0068126fd8b780a495f219c7c5b"), looks := true }, kinds := [], alts := [], laidByText := true, laidKinds := [.data, .data, .data, .sentinel, .sentinel], laidTests := true, laidLooks := .later }
def ChartSameUptoCardSaid : Prop := Claim7.holds Tryz.pinned (.plain (OpenSpec.upto chartSameSpec)) chartSameUptoCard

/-- THE SECOND FORM's CARD OF 'tumbrellaw07.ShowPrints'. -/
def showPrintsUptoCard : Claim7 := { stood := { row := showPrintsUptoRow, standIns := [], harness := (true, "3e6d4b93260d2eea476556bb4921279f463ce0068126fd8b780a495f219c7c5b"), looks := true }, kinds := [], alts := [], laidByText := true, laidKinds := [.data, .data, .data, .data, .pinned], laidTests := true, laidLooks := .later }
def ShowPrintsUptoCardSaid : Prop := Claim7.holds Tryz.pinned (.plain (OpenSpec.upto showPrintsSpec)) showPrintsUptoCard
end Rows
end Go.Proofs.YtifgbioacknjpaaGreatDoor
