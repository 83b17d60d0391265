/-
  DERIVED. GIVEN WITH THE SEED: THE CARDS: each row of YtlkdaldfklaicaaGreatDoorRows.lean that lists a variable, with what it lists TIED to the program's text (the seventh form; the later family's looks); each row that meets fmt, with fmt's text TOLD by the authors' own Lean function (tested against real Go, not proved from fmt's source: count such statements apart). THE CARD IS WHAT COUNTS. Prove the row's statement (the work); the ties are given (YtlkdaldfklaicaaGreatDoorTie.lean); close each card by the builder's one call (the guide's Derived/Test/ToyasCard.lean, 'card_holds'). Laid BY PROGRAM, IN A SANDBOX (cutbox-door.mjs). By AI agents, Wed Nov 11 2026. No macro, syntax, notation, axiom, sorry.
-/
import Derived.Test.YtlkdaldfklaicaaGreatDoorRows
import GoSem.ClaimSeven
namespace Go.Proofs.YtlkdaldfklaicaaGreatDoor
namespace Rows

/-- THE TIED CARD OF 'tumbrellaw06.ChartSame'. -/
def chartSameCard : Claim7 := { stood := { row := chartSameRow, standIns := [], harness := (true, "ec6cf845eec85b329fed707eafd5fecd12b0c4e3343352e20d96672f2be98920"), looks := true }, kinds := [], alts := [], laidByText := true, laidKinds := [.data, .data, .data, .sentinel, .sentinel], laidTests := true, laidLooks := .later }
def ChartSameCardSaid : Prop := Claim7.holds Tryz.pinned (.plain (OpenSpec.ofChange chartSameSpec)) chartSameCard

/-- THE SECOND FORM's CARD OF 'tumbrellaw06.ChartSame'. -/
def chartSameUptoCard : Claim7 := { stood := { row := chartSameUptoRow, standIns := [], harness := (true, "ec6cf845eec85b329fed707eafd5fecd12b0c4e3343352e20d96672f2be98920"), looks := true }, kinds := [], alts := [], laidByText := true, laidKinds := [.data, .data, .data, .sentinel, .sentinel], laidTests := true, laidLooks := .later }
def ChartSameUptoCardSaid : Prop := Claim7.holds Tryz.pinned (.plain (OpenSpec.upto chartSameSpec)) chartSameUptoCard
end Rows
end Go.Proofs.YtlkdaldfklaicaaGreatDoor
