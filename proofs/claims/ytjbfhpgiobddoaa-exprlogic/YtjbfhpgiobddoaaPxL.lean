/- ExprLogic's walk. -/
import Derived.Test.YtjbfhpgiobddoaaLXLogic
import Derived.Test.YtjbfhpgiobddoaaPxV
namespace Go.Proofs.Ytjbfhpgiobddoaa
open Go.RowKit Go.Lib
theorem exprLogic_any {w : World} {d e : Nat} {t : T d} {u : T e} {v v' vv : Value} {vs : List Vr} (h : RdT (fun _ => True) w d t v) (h' : RdT (fun _ => True) w e u v') (hv : RdV w vv vs) :
    Calls Try.prog 5 #[v, v', vv] w fun r w' => r = .returned (.bool true) ∧ Below w.heap.size w w' := exprLogic_of evalP formedP h h' hv
end Go.Proofs.Ytjbfhpgiobddoaa
