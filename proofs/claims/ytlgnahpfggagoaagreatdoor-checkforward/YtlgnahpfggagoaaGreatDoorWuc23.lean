import Derived.Test.YtlgnahpfggagoaaGreatDoorWuc18
import Derived.Test.YtlgnahpfggagoaaGreatDoorRows
import Derived.Lib.LaidU8
import Derived.Lib.LaidTab
import Derived.MakeChecks
import Derived.Test.YtlgnahpfggagoaaGreatDoorWuc09
import Derived.Test.YtlgnahpfggagoaaGreatDoorWuc01
import Derived.ProofKit
import Derived.OpenShut
import Derived.ShutString
import Derived.ChangeOld
import Derived.SizedLaws
import Derived.Below

/- What strconv.ErrSyntax holds, by the row's list. -/
namespace Go.Proofs.YtlgnahpfggagoaaGreatDoor
open Go.RowKit Go.Lib
set_option linter.unusedVariables false
theorem iface_of {P : Program} {w : World} {t : TypeId} {fuel : Nat} {cs : List Value} {name : String} {d : DataW Unit} {p : List MemPlace} (ht : (P.underlying t).map (fun u => match u with | .interface _ => true | _ => false) = some true) (h : DataW.trod (fun _ => ()) P w 0 (fun _ => true) false fuel t cs = some (.iface name d, p)) : ∃ u v, cs = [.iface u v] := by
  cases fuel with
  | zero => simp [DataW.trod] at h
  | succ fuel =>
    unfold DataW.trod at h
    cases hu : P.underlying t with
    | none => rw [hu] at ht; simp at ht
    | some u =>
      rw [hu] at ht h
      cases u <;> simp at ht
      split at h <;> simp_all
theorem esy_of {w : World} {L : List (String × DataW Unit)} (h : laidMetH Tryz.prog L w) (hp : (L.all fun x => x.2.handleName?.isNone) = true) (m : ("strconv.ErrSyntax", Rows.laid_strconv_ErrSyntax) ∈ L) : Esy w := by
  rw [MakeChecks.laidMetH_plain _ _ _ hp] at h
  obtain ⟨g, t, cs, fuel, p, hg, ht, hvar, hd⟩ := Lib.laidMet.reads h m
  have hg2 : Tryz.prog.globalNamed "strconv.ErrSyntax" = some (renA.g 15) := by kernel_rfl
  rw [hg] at hg2
  obtain rfl := Option.some.inj hg2
  have ht2 : ((Tryz.prog.globals[renA.g 15]?).map (·.type)).bind (fun t => (Tryz.prog.underlying t).map (fun u => match u with | .interface _ => true | _ => false)) = some true := by kernel_rfl
  rw [ht, Option.bind_some] at ht2
  obtain ⟨u, v, hcs⟩ := iface_of ht2 hd
  have : cs = #[.iface u v] := by cases cs; simp at hcs; rw [hcs]
  subst this
  unfold World.var? at hvar
  rw [hg, Option.bind_some] at hvar
  refine ⟨.iface u v, ?_, .inr ⟨u, v, rfl⟩⟩
  cases hh : w.heap[renA.g 15]? with
  | none => rw [hh] at hvar; simp at hvar
  | some o =>
    rw [hh] at hvar
    cases o with
    | cells cs e f =>
      simp only [Option.some.injEq] at hvar
      subst hvar
      exact (cell_of_row w _ 0 _ _ _ hh).trans rfl
    | _ => simp at hvar
end Go.Proofs.YtlgnahpfggagoaaGreatDoor

/- The table of powers of ten, by the row's list. -/
namespace Go.Proofs.YtlgnahpfggagoaaGreatDoor
open Go.RowKit Go.Lib
theorem pow_of {w : World} {L : List (String × DataW Unit)} (h : laidMetH Tryz.prog L w) (hp : (L.all fun x => x.2.handleName?.isNone) = true) (m : ("internal/strconv.uint64pow10", Rows.laid_internal_strconv_uint64pow10) ∈ L) : Pow w := by
  rw [MakeChecks.laidMetH_plain _ _ _ hp] at h
  have h1 := Lib.laidMet.reads h m
  have d1 : (Rows.laid_internal_strconv_uint64pow10 : DataW Unit) = Lib.tabData .u64 Lib.pow10Tab := by kernel_rfl
  rw [d1] at h1
  obtain ⟨g, t, cs, fuel, p, hg, ht, hvar, hd⟩ := h1
  have hg2 : ((Tryz.prog.globalNamed "internal/strconv.uint64pow10").bind fun g => (Tryz.prog.globals[g]?).map (·.type)) = some 243 := by kernel_rfl
  rw [hg, Option.bind_some, ht] at hg2
  obtain rfl := Option.some.inj hg2
  unfold Pow Lib.TabIs
  rw [hvar, ← cells_of_tab Tryz.underlying243 Tryz.underlying206 (by kernel_rfl) (by kernel_rfl) hd]
end Go.Proofs.YtlgnahpfggagoaaGreatDoor

/- An argument that is a slice of bytes, opened: the bytes that it reads as, each from 0 to 255, and their number within the form's reach. -/
namespace Go.Proofs.YtlgnahpfggagoaaGreatDoor
open Go.ChangeShapes Go.WideShapes Go.ChangeAt Go.RowKit

end Go.Proofs.YtlgnahpfggagoaaGreatDoor
