/-
  No cell of these rows narrows 'for every input' (looked for: loops, veiled, ifaces, maps, wideKeys, modest, calm, conditions, laid).
  DERIVED. THE GIVEN ROWS OF THIS SEAT. 3 by the template 'for every input the law returns true; each argument reads behind the call as it read before'; 0 by the template 'total and deterministic' (their statements: YtlnldpkackmceaaTotals.lean).
  GIVEN WITH THE SEED: the statements are not yours to turn. If you find one false, say at which input.
  Laid BY PROGRAM, IN A SANDBOX (cutbox-rows.mjs): the forced cells as the released guide's own fill.sh prints them over the translation 37afed5df3278e98… (all of the seat's roots in one cut). By AI agents, Wed Nov 11 2026. No macro, syntax, notation, axiom, sorry.
-/
import Derived.Test.YtlnldpkackmceaaChecked
import GoSem.Claim
import GoSem.ClaimJoined
import GoSem.ClaimMapViews
import Derived.JoinedTies
import Derived.KernelRfl
namespace Go.Proofs.Ytlnldpkackmceaa
/- THE CELL 'sum', in the pinned program and in every row, IS THE sha256 OF THE DUMP (.gsa) THAT YtlnldpkackmceaaProg.lean LOADS. Nothing in Lean hashes anything: it is a label: what it is worth is what the hold of that sum in a sandbox is worth. -/
noncomputable def Try.pinned : Pinned := { name := "ytlnldpkackmceaa", sum := "37afed5df3278e980520eb7519a49ed667c5cc69caf34fba94b8df02f1ea9025", checked := Try.checked }
namespace Rows
def none {H : Type} : Left H := { results := [], args := [] }

/-- 'tumbrellaw03.GlyphAgain': WHATEVER THE INPUT: true; the input reads as it did. -/
def glyphAgainSpec : ChangeSpec := { name := "glyphAgain", fn := fun _ => fun
  | [d] => { results := [.lit (.bool true)], args := [d] }
  | _ => none }
def glyphAgainRow : OpenClaim := { program := "ytlnldpkackmceaa", sum := "37afed5df3278e980520eb7519a49ed667c5cc69caf34fba94b8df02f1ea9025", func := "tumbrel/tumbrellaw03.GlyphAgain", spec := "glyphAgain", apart := false }
def GlyphAgainSaid : Prop := glyphAgainRow.holds Try.pinned (OpenSpec.ofChange glyphAgainSpec)

/-- ITS FALSE NEIGHBOUR: 'it returns false'. Refute it at one input. -/
def glyphAgainWrong : ChangeSpec := { name := "glyphAgain", fn := fun _ => fun
  | [d] => { results := [.lit (.bool false)], args := [d] }
  | _ => none }
def GlyphAgainWrongFalsely : Prop := glyphAgainRow.holds Try.pinned (OpenSpec.ofChange glyphAgainWrong)

/-- 'tumbrellaw03.GlyphLines': WHATEVER THE INPUT: true; the input reads as it did. -/
def glyphLinesSpec : ChangeSpec := { name := "glyphLines", fn := fun _ => fun
  | [d] => { results := [.lit (.bool true)], args := [d] }
  | _ => none }
def glyphLinesRow : OpenClaim := { program := "ytlnldpkackmceaa", sum := "37afed5df3278e980520eb7519a49ed667c5cc69caf34fba94b8df02f1ea9025", func := "tumbrel/tumbrellaw03.GlyphLines", spec := "glyphLines", apart := false }
def GlyphLinesSaid : Prop := glyphLinesRow.holds Try.pinned (OpenSpec.ofChange glyphLinesSpec)

/-- ITS FALSE NEIGHBOUR: 'it returns false'. Refute it at one input. -/
def glyphLinesWrong : ChangeSpec := { name := "glyphLines", fn := fun _ => fun
  | [d] => { results := [.lit (.bool false)], args := [d] }
  | _ => none }
def GlyphLinesWrongFalsely : Prop := glyphLinesRow.holds Try.pinned (OpenSpec.ofChange glyphLinesWrong)

/-- 'tumbrellaw03.GlyphRemarks': WHATEVER THE INPUT: true; the input reads as it did. -/
def glyphRemarksSpec : ChangeSpec := { name := "glyphRemarks", fn := fun _ => fun
  | [d1, d2, d3] => { results := [.lit (.bool true)], args := [d1, d2, d3] }
  | _ => none }
def glyphRemarksRow : OpenClaim := { program := "ytlnldpkackmceaa", sum := "37afed5df3278e980520eb7519a49ed667c5cc69caf34fba94b8df02f1ea9025", func := "tumbrel/tumbrellaw03.GlyphRemarks", spec := "glyphRemarks", apart := false }
def GlyphRemarksSaid : Prop := glyphRemarksRow.holds Try.pinned (OpenSpec.ofChange glyphRemarksSpec)

/-- ITS FALSE NEIGHBOUR: 'it returns false'. Refute it at one input. -/
def glyphRemarksWrong : ChangeSpec := { name := "glyphRemarks", fn := fun _ => fun
  | [d1, d2, d3] => { results := [.lit (.bool false)], args := [d1, d2, d3] }
  | _ => none }
def GlyphRemarksWrongFalsely : Prop := glyphRemarksRow.holds Try.pinned (OpenSpec.ofChange glyphRemarksWrong)

/- THE SECOND FORM. 'bulk': how many values and letters a reading holds, each counted each time it is reached (what is shared counts as often as it is met; a slice's spare places count too). A statement '..UptoSaid' is the law's where the arguments, and the package variables that the reading takes, are together of bulk at most 1048576: NARROWER than '..Said'. Prove '..Said' where nothing that the law and all that it calls make is longer than what came in: it says more and counts as full. Else prove '..UptoSaid'. A law counts once. -/
mutual
def uptoBulk {H : Type} : DataW H → Nat
  | .lit (.string bytes) => bytes.length + 1
  | .lit _ => 1
  | .nil => 1
  | .ptr d => uptoBulk d + 1
  | .slice elems spare => uptoBulkAll elems + uptoBulkAll spare + 1
  | .agg parts => uptoBulkAll parts + 1
  | .iface _ d => uptoBulk d + 1
  | .map entries => uptoBulkEntries entries + 1
  | .held _ => 1
def uptoBulkAll {H : Type} : List (DataW H) → Nat
  | [] => 0
  | d :: r => uptoBulk d + uptoBulkAll r
def uptoBulkEntries {H : Type} : List (Lit × DataW H) → Nat
  | [] => 0
  | x :: r => uptoBulkEntry x + uptoBulkEntries r
def uptoBulkEntry {H : Type} : Lit × DataW H → Nat
  | (.string bytes, d) => bytes.length + uptoBulk d + 1
  | (_, d) => uptoBulk d + 1
 end
def uptoSmall : (H : Type) → List (DataW H) → Bool := fun _ ds => decide (uptoBulkAll ds ≤ 1048576)
def OpenSpec.upto (s : _root_.Go.ChangeSpec) : _root_.Go.OpenSpec := { _root_.Go.OpenSpec.ofChange s with cond := some uptoSmall }

/-- 'tumbrellaw03.GlyphAgain', WHERE WHAT IT READS IS OF BULK AT MOST 1048576: true; the input reads as it did. -/
def glyphAgainUptoRow : OpenClaim := { program := "ytlnldpkackmceaa", sum := "37afed5df3278e980520eb7519a49ed667c5cc69caf34fba94b8df02f1ea9025", func := "tumbrel/tumbrellaw03.GlyphAgain", spec := "glyphAgain", apart := false, narrowed := true }
def GlyphAgainUptoSaid : Prop := glyphAgainUptoRow.holds Try.pinned (OpenSpec.upto glyphAgainSpec)

/-- 'tumbrellaw03.GlyphLines', WHERE WHAT IT READS IS OF BULK AT MOST 1048576: true; the input reads as it did. -/
def glyphLinesUptoRow : OpenClaim := { program := "ytlnldpkackmceaa", sum := "37afed5df3278e980520eb7519a49ed667c5cc69caf34fba94b8df02f1ea9025", func := "tumbrel/tumbrellaw03.GlyphLines", spec := "glyphLines", apart := false, narrowed := true }
def GlyphLinesUptoSaid : Prop := glyphLinesUptoRow.holds Try.pinned (OpenSpec.upto glyphLinesSpec)

/-- 'tumbrellaw03.GlyphRemarks', WHERE WHAT IT READS IS OF BULK AT MOST 1048576: true; the input reads as it did. -/
def glyphRemarksUptoRow : OpenClaim := { program := "ytlnldpkackmceaa", sum := "37afed5df3278e980520eb7519a49ed667c5cc69caf34fba94b8df02f1ea9025", func := "tumbrel/tumbrellaw03.GlyphRemarks", spec := "glyphRemarks", apart := false, narrowed := true }
def GlyphRemarksUptoSaid : Prop := glyphRemarksUptoRow.holds Try.pinned (OpenSpec.upto glyphRemarksSpec)

end Rows
end Go.Proofs.Ytlnldpkackmceaa
