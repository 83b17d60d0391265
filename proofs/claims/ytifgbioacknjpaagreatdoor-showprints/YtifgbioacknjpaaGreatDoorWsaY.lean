/- ShowPrints: the closed facts of its row. -/
import Derived.Test.YtifgbioacknjpaaGreatDoorRows
import Derived.JoinedCond
namespace Go.Proofs.YtifgbioacknjpaaGreatDoor.showPrints
theorem closedFacts : joinedFacts Tryz.pinned.checked.prog 4 Tryz.f4 (OpenSpec.ofChange Rows.showPrintsSpec).bare Rows.showPrintsRow = true := by kernel_rfl
end Go.Proofs.YtifgbioacknjpaaGreatDoor.showPrints
