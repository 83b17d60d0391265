/-
  DERIVED. GIVEN WITH THE SEED: THE CARDS: each row of YticniiieijkmmaaDoorRows.lean that lists a variable, with what it lists TIED to the program's text (the seventh form; the later family's looks); each row that meets fmt, with fmt's text TOLD by the authors' own Lean function (tested against real Go, not proved from fmt's source: count such statements apart). THE CARD IS WHAT COUNTS. Prove the row's statement (the work); the ties are given (YticniiieijkmmaaDoorTie.lean); close each card by the builder's one call (the guide's Derived/Test/ToyasCard.lean, 'card_holds'). Laid BY PROGRAM, IN A SANDBOX (cutbox-door.mjs). By AI agents, Wed Nov 11 2026. No macro, syntax, notation, axiom, sorry.
-/
import Derived.Test.YticniiieijkmmaaDoorRows
import GoSem.ClaimSeven
namespace Go.Proofs.YticniiieijkmmaaDoor
namespace Rows

/-- THE TIED CARD OF 'tumbrellaw06.ChartDeep'. -/
def chartDeepCard : Claim7 := { stood := { row := chartDeepRow, standIns := [], harness := (true, "5e5056075cf33e4d13fad6774fbf9ffe241fbd3cd6797b225e865528527d2b65"), looks := true }, kinds := [], alts := [], laidByText := true, laidKinds := [.data, .data, .data, .sentinel, .sentinel], laidTests := true, laidLooks := .later }
def ChartDeepCardSaid : Prop := Claim7.holds Tryd.pinned (.plain (OpenSpec.ofChange chartDeepSpec)) chartDeepCard

/-- THE SECOND FORM's CARD OF 'tumbrellaw06.ChartDeep'. -/
def chartDeepUptoCard : Claim7 := { stood := { row := chartDeepUptoRow, standIns := [], harness := (true, "5e5056075cf33e4d13fad6774fbf9ffe241fbd3cd6797b225e865528527d2b65"), looks := true }, kinds := [], alts := [], laidByText := true, laidKinds := [.data, .data, .data, .sentinel, .sentinel], laidTests := true, laidLooks := .later }
def ChartDeepUptoCardSaid : Prop := Claim7.holds Tryd.pinned (.plain (OpenSpec.upto chartDeepSpec)) chartDeepUptoCard
end Rows
end Go.Proofs.YticniiieijkmmaaDoor
