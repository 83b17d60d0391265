/- CheckTwice: the closed facts of its row. -/
import Derived.Test.YtlgnahpfggagoaaGreatDoorRows
import Derived.JoinedCond
namespace Go.Proofs.YtlgnahpfggagoaaGreatDoor.checkTwice
theorem closedFacts:joinedFacts Tryz.pinned.checked.prog 4 Tryz.f4 (OpenSpec.ofChange Rows.checkTwiceSpec).bare Rows.checkTwiceRow=true:=by kernel_rfl
end Go.Proofs.YtlgnahpfggagoaaGreatDoor.checkTwice
