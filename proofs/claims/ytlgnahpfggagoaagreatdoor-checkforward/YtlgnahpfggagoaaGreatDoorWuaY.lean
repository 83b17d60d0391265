/- CheckForward: the closed facts of its row. -/
import Derived.Test.YtlgnahpfggagoaaGreatDoorRows
import Derived.JoinedCond
namespace Go.Proofs.YtlgnahpfggagoaaGreatDoor.checkForward
theorem closedFacts : joinedFacts Tryz.pinned.checked.prog 3 Tryz.f3 (OpenSpec.ofChange Rows.checkForwardSpec).bare Rows.checkForwardRow = true := by kernel_rfl
end Go.Proofs.YtlgnahpfggagoaaGreatDoor.checkForward
