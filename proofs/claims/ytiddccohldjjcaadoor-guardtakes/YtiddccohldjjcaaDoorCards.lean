/-
  DERIVED. GIVEN WITH THE SEED: THE CARDS: each row of YtiddccohldjjcaaDoorRows.lean that lists a variable, with what it lists TIED to the program's text (the seventh form; the later family's looks); each row that meets fmt, with fmt's text TOLD by the authors' own Lean function (tested against real Go, not proved from fmt's source: count such statements apart). THE CARD IS WHAT COUNTS. Prove the row's statement (the work); the ties are given (YtiddccohldjjcaaDoorTie.lean); close each card by the builder's one call (the guide's Derived/Test/ToyasCard.lean, 'card_holds'). Laid BY PROGRAM, IN A SANDBOX (cutbox-door.mjs). By AI agents, Wed Nov 11 2026. No macro, syntax, notation, axiom, sorry.
-/
import Derived.Test.YtiddccohldjjcaaDoorRows
import GoSem.ClaimSeven
namespace Go.Proofs.YtiddccohldjjcaaDoor
namespace Rows

/-- THE TIED CARD OF 'tumbrellaw05.GuardParses'. -/
def guardParsesCard : Claim7 := { stood := { row := guardParsesRow, standIns := [], harness := (true, "ae5eca660e07a66c052876570dd80ff11ac5cb5e891501b6b0301190af20353e"), looks := true }, kinds := [], alts := [], laidByText := true, laidKinds := [.data, .data, .data, .data, .sentinel, .sentinel, .pinned], laidTests := true, laidLooks := .later }
def GuardParsesCardSaid : Prop := Claim7.holds Tryd.pinned (.plain (OpenSpec.ofChange guardParsesSpec)) guardParsesCard

/-- THE TIED CARD OF 'tumbrellaw05.GuardTakes'. -/
def guardTakesCard : Claim7 := { stood := { row := guardTakesRow, standIns := [], harness := (true, "ae5eca660e07a66c052876570dd80ff11ac5cb5e891501b6b0301190af20353e"), looks := true }, kinds := [], alts := [], laidByText := true, laidKinds := [.data, .data, .data, .data, .sentinel, .sentinel, .pinned], laidTests := true, laidLooks := .later }
def GuardTakesCardSaid : Prop := Claim7.holds Tryd.pinned (.plain (OpenSpec.ofChange guardTakesSpec)) guardTakesCard

/-- THE SECOND FORM's CARD OF 'tumbrellaw05.GuardParses'. -/
def guardParsesUptoCard : Claim7 := { stood := { row := guardParsesUptoRow, standIns := [], harness := (true, "ae5eca660e07a66c052876570dd80ff11ac5cb5e891501b6b0301190af20353e"), looks := true }, kinds := [], alts := [], laidByText := true, laidKinds := [.data, .data, .data, .data, .sentinel, .sentinel, .pinned], laidTests := true, laidLooks := .later }
def GuardParsesUptoCardSaid : Prop := Claim7.holds Tryd.pinned (.plain (OpenSpec.upto guardParsesSpec)) guardParsesUptoCard

/-- THE SECOND FORM's CARD OF 'tumbrellaw05.GuardTakes'. -/
def guardTakesUptoCard : Claim7 := { stood := { row := guardTakesUptoRow, standIns := [], harness := (true, "ae5eca660e07a66c052876570dd80ff11ac5cb5e891501b6b0301190af20353e"), looks := true }, kinds := [], alts := [], laidByText := true, laidKinds := [.data, .data, .data, .data, .sentinel, .sentinel, .pinned], laidTests := true, laidLooks := .later }
def GuardTakesUptoCardSaid : Prop := Claim7.holds Tryd.pinned (.plain (OpenSpec.upto guardTakesSpec)) guardTakesUptoCard
end Rows
end Go.Proofs.YtiddccohldjjcaaDoor
