/- GlyphWords' walk. -/
import Derived.Test.YtlnldpkackmceaaDoorGlyY
import Derived.Test.YtlnldpkackmceaaDoorLGWords
namespace Go.Proofs.YtlnldpkackmceaaDoor
open Go.RowKit Go.Lib
theorem glyphWords_walk {w : World} (hT : Tabs w) (s : ByteArray) (hs : s.size ≤ 140737488351232) :
    Calls Tryd.prog 4 #[.string s] w fun e w' => e = .returned (.bool true) ∧ Below w.heap.size w w' := glyphWords_of gc hT s hs
end Go.Proofs.YtlnldpkackmceaaDoor
