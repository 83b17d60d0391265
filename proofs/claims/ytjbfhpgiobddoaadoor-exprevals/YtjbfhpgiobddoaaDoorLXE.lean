/- ExprEvals' walk. -/
import Derived.Test.YtjbfhpgiobddoaaDoorLXEvals
import Derived.Test.YtjbfhpgiobddoaaDoorPxV
namespace Go.Proofs.YtjbfhpgiobddoaaDoor
open Go.RowKit Go.Lib
theorem exprEvals_any {w : World} (hT : Tabs w) {d : Nat} {t : T d} {v vv : Value} {vs : List Vr} (h : RdT (fun _ => True) w d t v) (hv : RdV w vv vs) :
    Calls Tryd.prog 4 #[v, vv] w fun e w' => e = .returned (.bool true) ∧ Below w.heap.size w w' := exprEvals_of evalP hT h hv
end Go.Proofs.YtjbfhpgiobddoaaDoor
