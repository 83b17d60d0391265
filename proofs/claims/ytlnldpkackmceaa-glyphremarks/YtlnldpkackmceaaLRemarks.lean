/- GlyphRemarks' walk. -/
import Derived.Test.YtlnldpkackmceaaGlyY
import Derived.Test.YtlnldpkackmceaaLGRemarks
namespace Go.Proofs.Ytlnldpkackmceaa
open Go.RowKit Go.Lib
theorem glyphRemarks_walk {w : World} (s : ByteArray) (hs : s.size ≤ 140737488351232) (m : ByteArray) (hm : m.size ≤ 140737488351232) (b : ByteArray) (hb : b.size ≤ 140737488351232) :
    Calls Try.prog 5 #[.string s, .string m, .string b] w fun e w' => e = .returned (.bool true) ∧ Below w.heap.size w w' := glyphRemarks_of gc s hs m hm b hb
end Go.Proofs.Ytlnldpkackmceaa
