/- GlyphLines' walk. -/
import Derived.Test.YtlnldpkackmceaaGlyY
import Derived.Test.YtlnldpkackmceaaLGLines
namespace Go.Proofs.Ytlnldpkackmceaa
open Go.RowKit Go.Lib
theorem glyphLines_walk {w : World} (s : ByteArray) (hs : s.size ≤ 140737488351232) :
    Calls Try.prog 4 #[.string s] w fun e w' => e = .returned (.bool true) ∧ Below w.heap.size w w' := glyphLines_of gc s hs
end Go.Proofs.Ytlnldpkackmceaa
