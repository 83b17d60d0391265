
/- The table of powers of ten, by the row's list. -/
import Derived.Test.YtiddccohldjjcaaGreatDoorPrB
import Derived.Test.YtiddccohldjjcaaGreatDoorRows
import Derived.Lib.LaidU8
import Derived.Lib.LaidTab
import Derived.MakeChecks
namespace Go.Proofs.YtiddccohldjjcaaGreatDoor
open Go.RowKit Go.Lib
theorem pow_of {w : World} {L : List (String × DataW Unit)} (h : laidMetH Tryz.prog L w) (hp : (L.all fun x => x.2.handleName?.isNone) = true) (m : ("internal/strconv.uint64pow10", Rows.laid_internal_strconv_uint64pow10) ∈ L) : Pow w := by
  rw [MakeChecks.laidMetH_plain _ _ _ hp] at h
  have h1 := Lib.laidMet.reads h m
  have d1 : (Rows.laid_internal_strconv_uint64pow10 : DataW Unit) = Lib.tabData .u64 Lib.pow10Tab := by kernel_rfl
  rw [d1] at h1
  obtain ⟨g, t, cs, fuel, p, hg, ht, hvar, hd⟩ := h1
  have hg2 : ((Tryz.prog.globalNamed "internal/strconv.uint64pow10").bind fun g => (Tryz.prog.globals[g]?).map (·.type)) = some 140 := by kernel_rfl
  rw [hg, Option.bind_some, ht] at hg2
  obtain rfl := Option.some.inj hg2
  unfold Pow Lib.TabIs
  rw [hvar, ← cells_of_tab Tryz.underlying140 Tryz.underlying117 (by kernel_rfl) (by kernel_rfl) hd]
end Go.Proofs.YtiddccohldjjcaaGreatDoor
