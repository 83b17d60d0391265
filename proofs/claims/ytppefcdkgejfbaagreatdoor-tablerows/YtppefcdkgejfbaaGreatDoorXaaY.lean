/- TableRows: the closed facts of its row. -/
import Derived.Test.YtppefcdkgejfbaaGreatDoorRows
import Derived.JoinedCond
namespace Go.Proofs.YtppefcdkgejfbaaGreatDoor.tableRows
theorem closedFacts:joinedFacts Tryz.pinned.checked.prog 3 Tryz.f3 (OpenSpec.ofChange Rows.tableRowsSpec).bare Rows.tableRowsRow=true:=by kernel_rfl
end Go.Proofs.YtppefcdkgejfbaaGreatDoor.tableRows
