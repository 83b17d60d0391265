
/- The names of an expression. Math alone. -/
import Derived.Test.YtiddccohldjjcaaGreatDoorExJm
import Derived.Test.YtiddccohldjjcaaGreatDoorExS
namespace Go.Proofs.YtiddccohldjjcaaGreatDoor
open Go.RowKit Go.Lib
set_option linter.unusedSimpArgs false
set_option linter.unusedVariables false

/-- The names of an expression, behind those that are there. -/
def rfC : (d : Nat) → T d → List ByteArray → List ByteArray := fold (fun k _ s fs l => fs.foldl (fun a f => f a) (if k = 2 then adS l s else l))
theorem rfC_mk {d : Nat} (k n : Int) (s : ByteArray) (ps : List (T d)) (l : List ByteArray) : rfC (d + 1) (mkT k n s ps) l = ps.foldl (fun a p => rfC d p a) (if k = 2 then adS l s else l) := by
  show (ps.map (rfC d)).foldl (fun a f => f a) (if k = 2 then adS l s else l) = _
  rw [List.foldl_map]
theorem adS_len (l : List ByteArray) (s : ByteArray) : (adS l s).length ≤ l.length + 1 := by
  have := lead_le l s
  unfold adS
  split
  · omega
  · simp; omega
theorem foldl_len {d : Nat} (H : ∀ (p : T d) (l : List ByteArray), (rfC d p l).length ≤ l.length + cnt d p) : ∀ (ps : List (T d)) (l : List ByteArray), (ps.foldl (fun a p => rfC d p a) l).length ≤ l.length + (ps.map (cnt d)).sum
  | [], l => by simp
  | p :: r, l => by
    have h1 := H p l
    have h2 := foldl_len H r (rfC d p l)
    simp only [List.foldl_cons, List.map_cons, List.sum_cons]
    omega
theorem rfC_len : ∀ (d : Nat) (t : T d) (l : List ByteArray), (rfC d t l).length ≤ l.length + cnt d t
  | 0, t, _ => Empty.elim t
  | d + 1, t, l => by
    obtain ⟨k, n, s, ps, rfl⟩ := T.open t
    rw [rfC_mk, cnt_mk]
    have h1 := foldl_len (rfC_len d) ps (if k = 2 then adS l s else l)
    have h2 := adS_len l s
    split at h1 <;> rename_i hk
    · rw [if_pos hk]; omega
    · rw [if_neg hk]; omega
def rfT (d : Nat) (t : T d) : List ByteArray := if fmC d t = true then rfC d t [] else []
end Go.Proofs.YtiddccohldjjcaaGreatDoor
