
/- The expression of a tree. -/
import Derived.Test.YtiddccohldjjcaaDoorRows
import Derived.Test.YtiddccohldjjcaaDoorExR
namespace Go.Proofs.YtiddccohldjjcaaDoor
open Go.RowKit
set_option linter.unusedSimpArgs false
set_option linter.unusedVariables false

/-- The expression of a tree. -/
def exV : (d : Nat) → T d → Value := fold (fun k n s l =>
  if k = 1 then .iface 51 (.agg #[.int .i64 n]) else if k = 2 then .iface 57 (.agg #[.string s]) else if k = 3 then .iface 59 (.agg #[l.getD 0 .nilIface]) else if k = 4 then .iface 60 (.agg #[l.getD 0 .nilIface])
  else if k = 5 then .iface 53 (.agg #[.string s, l.getD 0 .nilIface, l.getD 1 .nilIface]) else .nilIface)
def exP {d : Nat} (ps : List (T d)) (i : Nat) : Value := (ps.map (exV d)).getD i .nilIface
theorem exV_mk {d : Nat} (k n : Int) (s : ByteArray) (ps : List (T d)) : exV (d + 1) (mkT k n s ps) =
    if k = 1 then .iface 51 (.agg #[.int .i64 n]) else if k = 2 then .iface 57 (.agg #[.string s]) else if k = 3 then .iface 59 (.agg #[exP ps 0]) else if k = 4 then .iface 60 (.agg #[exP ps 0])
    else if k = 5 then .iface 53 (.agg #[.string s, exP ps 0, exP ps 1]) else .nilIface := rfl
theorem exV_none {d : Nat} : exV (d + 1) (none0 : T (d + 1)) = .nilIface := rfl

theorem exV_form : ∀ (d : Nat) (t : T d), exV d t = .nilIface ∨ ∃ u x, exV d t = .iface u x
  | 0, t => Empty.elim t
  | d + 1, t => by
    obtain ⟨k, n, s, ps, rfl⟩ := T.open t
    rw [exV_mk]
    repeat' split
    all_goals first | exact .inl rfl | exact .inr ⟨_, _, rfl⟩
theorem exP_form {d : Nat} (ps : List (T d)) (i : Nat) : exP ps i = .nilIface ∨ ∃ u x, exP ps i = .iface u x := by
  unfold exP
  rw [List.getD_eq_getElem?_getD, List.getElem?_map]
  cases ps[i]? with
  | none => exact .inl rfl
  | some p => exact exV_form d p
end Go.Proofs.YtiddccohldjjcaaDoor
