/-
  DERIVED. GIVEN WITH THE SEED: THE CARDS: each row of YtlgnahpfggagoaaGreatDoorRows.lean that lists a variable, with what it lists TIED to the program's text (the seventh form; the later family's looks); each row that meets fmt, with fmt's text TOLD by the authors' own Lean function (tested against real Go, not proved from fmt's source: count such statements apart). THE CARD IS WHAT COUNTS. Prove the row's statement (the work); the ties are given (YtlgnahpfggagoaaGreatDoorTie.lean); close each card by the builder's one call (the guide's Derived/Test/ToyasCard.lean, 'card_holds'). Laid BY PROGRAM, IN A SANDBOX (cutbox-door.mjs). By AI agents, Wed Nov 11 2026. No macro, syntax, notation, axiom, sorry.
-/
import Derived.Test.YtlgnahpfggagoaaGreatDoorRows
import GoSem.ClaimSeven
namespace Go.Proofs.YtlgnahpfggagoaaGreatDoor
namespace Rows

/-- THE TIED CARD OF 'tumbrellaw08.CheckForward'. -/
def checkForwardCard : Claim7 := { stood := { row := checkForwardRow, standIns := [], harness := (true, "bd83e33400bd57bddf49d1334472193edd2b384e02e36cf288d10e9021b40d41"), looks := true }, kinds := [], alts := [], laidByText := true, laidKinds := [.data, .data, .data, .sentinel, .sentinel], laidTests := true, laidLooks := .later }
def CheckForwardCardSaid : Prop := Claim7.holds Tryz.pinned (.plain (OpenSpec.ofChange checkForwardSpec)) checkForwardCard

/-- THE TIED CARD OF 'tumbrellaw08.CheckTwice'. -/
def checkTwiceCard : Claim7 := { stood := { row := checkTwiceRow, standIns := [], harness := (true, "bd83e33400bd57bddf49d1334472193edd2b384e02e36cf288d10e9021b40d41"), looks := true }, kinds := [], alts := [], laidByText := true, laidKinds := [.data, .data, .data, .sentinel, .sentinel], laidTests := true, laidLooks := .later }
def CheckTwiceCardSaid : Prop := Claim7.holds Tryz.pinned (.plain (OpenSpec.ofChange checkTwiceSpec)) checkTwiceCard

/-- THE SECOND FORM's CARD OF 'tumbrellaw08.CheckForward'. -/
def checkForwardUptoCard : Claim7 := { stood := { row := checkForwardUptoRow, standIns := [], harness := (true, "bd83e33400bd57bddf49d1334472193edd2b384e02e36cf288d10e9021b40d41"), looks := true }, kinds := [], alts := [], laidByText := true, laidKinds := [.data, .data, .data, .sentinel, .sentinel], laidTests := true, laidLooks := .later }
def CheckForwardUptoCardSaid : Prop := Claim7.holds Tryz.pinned (.plain (OpenSpec.upto checkForwardSpec)) checkForwardUptoCard

/-- THE SECOND FORM's CARD OF 'tumbrellaw08.CheckTwice'. -/
def checkTwiceUptoCard : Claim7 := { stood := { row := checkTwiceUptoRow, standIns := [], harness := (true, "bd83e33400bd57bddf49d1334472193edd2b384e02e36cf288d10e9021b40d41"), looks := true }, kinds := [], alts := [], laidByText := true, laidKinds := [.data, .data, .data, .sentinel, .sentinel], laidTests := true, laidLooks := .later }
def CheckTwiceUptoCardSaid : Prop := Claim7.holds Tryz.pinned (.plain (OpenSpec.upto checkTwiceSpec)) checkTwiceUptoCard
end Rows
end Go.Proofs.YtlgnahpfggagoaaGreatDoor
