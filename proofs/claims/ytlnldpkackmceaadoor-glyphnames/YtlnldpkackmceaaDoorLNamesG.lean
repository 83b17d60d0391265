/- GlyphNames' walk. -/
import Derived.Test.YtlnldpkackmceaaDoorGlyY
import Derived.Test.YtlnldpkackmceaaDoorLGNames
namespace Go.Proofs.YtlnldpkackmceaaDoor
open Go.RowKit Go.Lib
theorem glyphNames_walk {w : World} (hT : Tabs w) (s : ByteArray) (hs : s.size ≤ 140737488351232) (r : Int) (hr : (Lit.int .i32 r).wf = true) :
    Calls Tryd.prog 3 #[.string s, .int .i32 r] w fun e w' => e = .returned (.bool true) ∧ Below w.heap.size w w' := glyphNames_of gc hT s hs r hr
end Go.Proofs.YtlnldpkackmceaaDoor
