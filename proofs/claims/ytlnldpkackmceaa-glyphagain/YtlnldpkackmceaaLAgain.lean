/- GlyphAgain's walk. -/
import Derived.Test.YtlnldpkackmceaaGlyY
import Derived.Test.YtlnldpkackmceaaLGAgain
namespace Go.Proofs.Ytlnldpkackmceaa
open Go.RowKit Go.Lib
theorem glyphAgain_walk {w : World} (s : ByteArray) (hs : s.size ≤ 140737488351232) :
    Calls Try.prog 3 #[.string s] w fun e w' => e = .returned (.bool true) ∧ Below w.heap.size w w' := glyphAgain_of gc s hs
end Go.Proofs.Ytlnldpkackmceaa
