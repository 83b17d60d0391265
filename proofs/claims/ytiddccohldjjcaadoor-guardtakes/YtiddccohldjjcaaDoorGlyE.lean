
/- What the document's End does. -/
import Derived.Test.YtiddccohldjjcaaDoorGlyG
namespace Go.Proofs.YtiddccohldjjcaaDoor
open Go.RowKit Go.Lib
set_option linter.unusedSimpArgs false
set_option linter.unusedVariables false

end Go.Proofs.YtiddccohldjjcaaDoor
