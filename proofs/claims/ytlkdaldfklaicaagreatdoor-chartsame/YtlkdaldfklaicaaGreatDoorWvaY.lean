/- ChartSame: the closed facts of its row. -/
import Derived.Test.YtlkdaldfklaicaaGreatDoorWvc01
import Derived.Test.YtlkdaldfklaicaaGreatDoorRows
import Derived.JoinedCond
namespace Go.Proofs.YtlkdaldfklaicaaGreatDoor.chartSame
theorem zgM:joinedFacts Tryz.pinned.checked.prog 3 Tryz.f3 (OpenSpec.ofChange Rows.chartSameSpec).bare Rows.chartSameRow=true:=by kernel_rfl
end Go.Proofs.YtlkdaldfklaicaaGreatDoor.chartSame
