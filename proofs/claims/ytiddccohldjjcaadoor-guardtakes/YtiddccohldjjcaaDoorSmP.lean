
/- What is asked of the program's Same. -/
import Derived.Test.YtiddccohldjjcaaDoorExBv
import Derived.Test.YtiddccohldjjcaaDoorExNs
namespace Go.Proofs.YtiddccohldjjcaaDoor
open Go.RowKit Go.Lib
set_option linter.unusedSimpArgs false
set_option linter.unusedVariables false

/-- The program's Same answers as the document says. -/
def SameP : Prop := ∀ (d e : Nat) (t : T d) (u : T e) (w : World), Cl d t → Cl e u → cnt d t ≤ 2000 → cnt e u ≤ 2000 →
  Calls Tryd.prog 14 #[exV d t, exV e u] w fun r w' => r = .returned (.bool (samC d e t u)) ∧ Below w.heap.size w w'
end Go.Proofs.YtiddccohldjjcaaDoor
