/- ExprForms' walk. -/
import Derived.Test.YtjbfhpgiobddoaaDoorLXForms
import Derived.Test.YtjbfhpgiobddoaaDoorPxV
namespace Go.Proofs.YtjbfhpgiobddoaaDoor
open Go.RowKit Go.Lib
theorem exprForms_any {w : World} (hT : Tabs w) {d : Nat} {t : T d} {v : Value} (h : RdT (fun _ => True) w d t v) :
    Calls Tryd.prog 3 #[v] w fun r w' => r = .returned (.bool true) ∧ Below w.heap.size w w' := exprForms_of evalP formedP (fun d t w hc hn => pNodes_any d t w hc hn) hT h
end Go.Proofs.YtjbfhpgiobddoaaDoor
