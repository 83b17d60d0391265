/-
  DERIVED. GIVEN WITH THE SEED: THE CARDS: each row of YtlnldpkackmceaaDoorRows.lean that lists a variable, with what it lists TIED to the program's text (the seventh form; the later family's looks); each row that meets fmt, with fmt's text TOLD by the authors' own Lean function (tested against real Go, not proved from fmt's source: count such statements apart). THE CARD IS WHAT COUNTS. Prove the row's statement (the work); the ties are given (YtlnldpkackmceaaDoorTie.lean); close each card by the builder's one call (the guide's Derived/Test/ToyasCard.lean, 'card_holds'). Laid BY PROGRAM, IN A SANDBOX (cutbox-door.mjs). By AI agents, Wed Nov 11 2026. No macro, syntax, notation, axiom, sorry.
-/
import Derived.Test.YtlnldpkackmceaaDoorRows
import GoSem.ClaimSeven
namespace Go.Proofs.YtlnldpkackmceaaDoor
namespace Rows

/-- THE TIED CARD OF 'tumbrellaw03.GlyphNames'. -/
def glyphNamesCard : Claim7 := { stood := { row := glyphNamesRow, standIns := [], harness := (true, "600ce53291f4acbceb554a3156f85c355a3ff4a51fbcc5874d265f8af2274b43"), looks := false }, kinds := [], alts := [], laidByText := true, laidKinds := [.data, .pinned], laidTests := true, laidLooks := .later }
def GlyphNamesCardSaid : Prop := Claim7.holds Tryd.pinned (.plain (OpenSpec.ofChange glyphNamesSpec)) glyphNamesCard

/-- THE TIED CARD OF 'tumbrellaw03.GlyphWords'. -/
def glyphWordsCard : Claim7 := { stood := { row := glyphWordsRow, standIns := [], harness := (true, "600ce53291f4acbceb554a3156f85c355a3ff4a51fbcc5874d265f8af2274b43"), looks := false }, kinds := [], alts := [], laidByText := true, laidKinds := [.data, .pinned], laidTests := true, laidLooks := .later }
def GlyphWordsCardSaid : Prop := Claim7.holds Tryd.pinned (.plain (OpenSpec.ofChange glyphWordsSpec)) glyphWordsCard

/-- THE SECOND FORM's CARD OF 'tumbrellaw03.GlyphNames'. -/
def glyphNamesUptoCard : Claim7 := { stood := { row := glyphNamesUptoRow, standIns := [], harness := (true, "600ce53291f4acbceb554a3156f85c355a3ff4a51fbcc5874d265f8af2274b43"), looks := false }, kinds := [], alts := [], laidByText := true, laidKinds := [.data, .pinned], laidTests := true, laidLooks := .later }
def GlyphNamesUptoCardSaid : Prop := Claim7.holds Tryd.pinned (.plain (OpenSpec.upto glyphNamesSpec)) glyphNamesUptoCard

/-- THE SECOND FORM's CARD OF 'tumbrellaw03.GlyphWords'. -/
def glyphWordsUptoCard : Claim7 := { stood := { row := glyphWordsUptoRow, standIns := [], harness := (true, "600ce53291f4acbceb554a3156f85c355a3ff4a51fbcc5874d265f8af2274b43"), looks := false }, kinds := [], alts := [], laidByText := true, laidKinds := [.data, .pinned], laidTests := true, laidLooks := .later }
def GlyphWordsUptoCardSaid : Prop := Claim7.holds Tryd.pinned (.plain (OpenSpec.upto glyphWordsSpec)) glyphWordsUptoCard
end Rows
end Go.Proofs.YtlnldpkackmceaaDoor
