/-
  DERIVED. GIVEN WITH THE SEED: THE CARDS: each row of YtpdhmjjmpofphaaDoorRows.lean that lists a variable, with what it lists TIED to the program's text (the seventh form; the later family's looks); each row that meets fmt, with fmt's text TOLD by the authors' own Lean function (tested against real Go, not proved from fmt's source: count such statements apart). THE CARD IS WHAT COUNTS. Prove the row's statement (the work); the ties are given (YtpdhmjjmpofphaaDoorTie.lean); close each card by the builder's one call (the guide's Derived/Test/ToyasCard.lean, 'card_holds'). Laid BY PROGRAM, IN A SANDBOX (cutbox-door.mjs). By AI agents, Wed Nov 11 2026. No macro, syntax, notation, axiom, sorry.
-/
import Derived.Test.YtpdhmjjmpofphaaDoorRows
import GoSem.ClaimSeven
namespace Go.Proofs.YtpdhmjjmpofphaaDoor
namespace Rows

/-- THE TIED CARD OF 'tumbrellaw12.TableCodes'. -/
def tableCodesCard : Claim7 := { stood := { row := tableCodesRow, standIns := [], harness := (true, "bcb3437636f469663014ce2e6336660d01e75e390eb55c44f9c7070e4ff062ea"), looks := true }, kinds := [], alts := [], laidByText := true, laidKinds := [.data, .pinned], laidTests := true, laidLooks := .later }
def TableCodesCardSaid : Prop := Claim7.holds Tryd.pinned (.plain (OpenSpec.ofChange tableCodesSpec)) tableCodesCard

/-- THE SECOND FORM's CARD OF 'tumbrellaw12.TableCodes'. -/
def tableCodesUptoCard : Claim7 := { stood := { row := tableCodesUptoRow, standIns := [], harness := (true, "bcb3437636f469663014ce2e6336660d01e75e390eb55c44f9c7070e4ff062ea"), looks := true }, kinds := [], alts := [], laidByText := true, laidKinds := [.data, .pinned], laidTests := true, laidLooks := .later }
def TableCodesUptoCardSaid : Prop := Claim7.holds Tryd.pinned (.plain (OpenSpec.upto tableCodesSpec)) tableCodesUptoCard
end Rows
end Go.Proofs.YtpdhmjjmpofphaaDoor
