/- The program's calls answer as the document says. -/
import Derived.Test.YtlnldpkackmceaaGlyH
import Derived.Test.YtlnldpkackmceaaGlyC
namespace Go.Proofs.Ytlnldpkackmceaa
open Go.RowKit Go.Lib
set_option linter.unusedSimpArgs false
set_option linter.unusedVariables false

theorem gc : GC where
  name := fun s w hs => pName_any s w hs
  letter := fun r w => (pLetter_any r w).mono (by rintro e w' ⟨rfl, rfl⟩; exact ⟨rfl, Below.refl _ _⟩)
  words := fun s w hs => pWords_any s w hs
  ends := fun s w hs => pEnd_any s w hs
end Go.Proofs.Ytlnldpkackmceaa
