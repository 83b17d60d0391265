/- The decoder of runes at this program, and the two tables that it reads. -/
import Derived.Shelf.Unicode.DecodeAny
import Derived.Lib.LaidU8
import Derived.PinnedBridge
import Derived.Test.YtiddccohldjjcaaGreatDoorRows
import Derived.Lay
import Derived.LaidMore
import Derived.MakeChecks
namespace Go.Proofs.YtiddccohldjjcaaGreatDoor
open Go.Shelf Go.RowKit
set_option linter.unusedVariables false

def renU : Ren := { f := fun x => match x with | 197 => 110 | 260 => 114 | n => n, t := fun x => match x with | 9 => 9 | 21 => 21 | 3 => 3 | 4 => 4 | 5 => 5 | 105 => 143 | 119 => 161 | 0 => 0 | 46 => 100 | 139 => 164 | 138 => 163 | n => n, g := fun x => match x with | 3 => 3 | 4 => 4 | n => n }
theorem laysU : Lays.n197 Tryz.prog renU :=
  { mixed := by kernel_rfl, f197 := Tryz.func110.trans (congrArg some (by kernel_rfl)), f260 := Tryz.func114.trans (congrArg some (by kernel_rfl)), t0 := Tryz.underlying0, a0 := Tryz.isAgg0, z0 := Tryz.sizeOf0, v0 := Tryz.zeroValue0, t3 := Tryz.underlying3, a3 := Tryz.isAgg3, z3 := Tryz.sizeOf3, v3 := Tryz.zeroValue3, t4 := Tryz.underlying4, a4 := Tryz.isAgg4, z4 := Tryz.sizeOf4, v4 := Tryz.zeroValue4, t5 := Tryz.underlying5, a5 := Tryz.isAgg5, z5 := Tryz.sizeOf5, v5 := Tryz.zeroValue5, t9 := Tryz.underlying9, a9 := Tryz.isAgg9, z9 := Tryz.sizeOf9, v9 := Tryz.zeroValue9, t21 := Tryz.underlying21, a21 := Tryz.isAgg21, z21 := Tryz.sizeOf21, v21 := Tryz.zeroValue21, t46 := Tryz.underlying100, a46 := Tryz.isAgg100, z46 := Tryz.sizeOf100, v46 := Tryz.zeroValue100, t105 := Tryz.underlying143, a105 := Tryz.isAgg143, z105 := Tryz.sizeOf143, v105 := Tryz.zeroValue143, t119 := Tryz.underlying161, a119 := Tryz.isAgg161, z119 := Tryz.sizeOf161, t138 := Tryz.underlying163, a138 := Tryz.isAgg163, z138 := Tryz.sizeOf163, v138 := Tryz.zeroValue163, t139 := Tryz.underlying164, a139 := Tryz.isAgg164, z139 := Tryz.sizeOf164, v139 := Tryz.zeroValue164, g3 := by kernel_rfl, g4 := by kernel_rfl }
/-- The tables' cells. -/
def Tabs (w : World) : Prop := Lib.Utf8Tabs 3 4 w
theorem Tabs.below {w w' : World} {B : Nat} (h : Tabs w) (hb : Below B w w') (hB : w.heap.size ≤ B) : Tabs w' := by
  have k : ∀ {p : Addr} {v : Value}, w.cell? p = some v → w'.cell? p = some v := fun {p v} hc => by
    have hlt := World.block_lt_of_cell? w _ hc
    rw [hb.cell (by omega)]
    exact hc
  exact ⟨fun c hc => k (h.1 c hc), fun i hi => ⟨k (h.2 i hi).1, k (h.2 i hi).2⟩⟩
theorem decode_any (s : ByteArray) (w : World) (hT : Tabs w) :
    Calls Tryz.prog 110 #[.string s] w fun e w' => e = .returned (.tuple #[.int .i32 (Lib.decodeGo s).1, .int .i64 (Lib.decodeGo s).2]) ∧ Below w.heap.size w w' :=
  Any.utf8_DecodeRuneInString laysU s w hT
theorem extraU : U8Extra Tryz.prog renU := { n3 := by kernel_rfl, n4 := by kernel_rfl, y3 := by kernel_rfl, y4 := by kernel_rfl, c5 := by kernel_rfl, c119 := by kernel_rfl, c138 := by kernel_rfl }
theorem tabs_of {w : World} {n3 n4 : String} {L : List (String × DataW Unit)} (h : laidMetH Tryz.prog L w) (hp : (L.all fun x => x.2.handleName?.isNone) = true) (m4 : (n4, Rows.laid_unicode_utf8_acceptRanges) ∈ L) (m3 : (n3, Rows.laid_unicode_utf8_first) ∈ L)
    (e3' : Lib.VarReads Tryz.prog w n3 Lib.firstData → Lib.VarReads Tryz.prog w n4 Lib.acceptData → Lib.Utf8Tabs (renU.g 3) (renU.g 4) w) : Tabs w := by
  rw [MakeChecks.laidMetH_plain _ _ _ hp] at h
  have h4 := Lib.laidMet.reads h (n := n4) (d := Rows.laid_unicode_utf8_acceptRanges) m4
  have h3 := Lib.laidMet.reads h (n := n3) (d := Rows.laid_unicode_utf8_first) m3
  have d4 : (Rows.laid_unicode_utf8_acceptRanges : DataW Unit) = Lib.acceptData := by kernel_rfl
  have d3 : Rows.laid_unicode_utf8_first = Lib.firstData := Pinned.utf8First_eq
  rw [d4] at h4
  rw [d3] at h3
  exact e3' h3 h4
end Go.Proofs.YtiddccohldjjcaaGreatDoor
