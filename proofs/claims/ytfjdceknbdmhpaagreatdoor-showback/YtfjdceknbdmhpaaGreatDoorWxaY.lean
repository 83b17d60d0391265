/- ShowBack: the closed facts of its row. -/
import Derived.Test.YtfjdceknbdmhpaaGreatDoorRows
import Derived.JoinedCond
namespace Go.Proofs.YtfjdceknbdmhpaaGreatDoor.showBack
theorem closedFacts : joinedFacts Tryz.pinned.checked.prog 5 Tryz.f5 (OpenSpec.ofChange Rows.showBackSpec).bare Rows.showBackRow = true := by kernel_rfl
end Go.Proofs.YtfjdceknbdmhpaaGreatDoor.showBack
