
/- When two trees are the same. Math alone. -/
import Derived.Test.YtdekboacjjpjeaaExS
namespace Go.Proofs.Ytdekboacjjpjeaa
open Go.RowKit Go.Lib
set_option linter.unusedSimpArgs false
set_option linter.unusedVariables false

def allz {α β : Type} (f : α → β → Bool) : List α → List β → Bool
  | a :: x, b :: y => f a b && allz f x y
  | _, _ => true
/-- Is all of both alike? -/
def samC : (d e : Nat) → T d → T e → Bool
  | 0, _, t, _ => Empty.elim t
  | _ + 1, 0, _, u => Empty.elim u
  | d + 1, e + 1, t, u =>
    decide ((show Int × Int × ByteArray × List (T d) from t).1 = (show Int × Int × ByteArray × List (T e) from u).1) && decide ((show Int × Int × ByteArray × List (T d) from t).2.1 = (show Int × Int × ByteArray × List (T e) from u).2.1) &&
    decide ((show Int × Int × ByteArray × List (T d) from t).2.2.1 = (show Int × Int × ByteArray × List (T e) from u).2.2.1) && decide ((show Int × Int × ByteArray × List (T d) from t).2.2.2.length = (show Int × Int × ByteArray × List (T e) from u).2.2.2.length) &&
    allz (samC d e) (show Int × Int × ByteArray × List (T d) from t).2.2.2 (show Int × Int × ByteArray × List (T e) from u).2.2.2
theorem samC_mk {d e : Nat} (k n : Int) (s : ByteArray) (ps : List (T d)) (k' n' : Int) (s' : ByteArray) (qs : List (T e)) :
    samC (d + 1) (e + 1) (mkT k n s ps) (mkT k' n' s' qs) = (decide (k = k') && decide (n = n') && decide (s = s') && decide (ps.length = qs.length) && allz (samC d e) ps qs) := rfl
theorem allz_step {α β : Type} (f : α → β → Bool) : ∀ (x : List α) (y : List β) (j : Nat) (h1 : j < x.length) (h2 : j < y.length), allz f (x.drop j) (y.drop j) = (f x[j] y[j] && allz f (x.drop (j + 1)) (y.drop (j + 1))) := fun x y j h1 h2 => by
  rw [List.drop_eq_getElem_cons h1, List.drop_eq_getElem_cons h2]; rfl
theorem bytes_ne {a b : ByteArray} (h : a ≠ b) : (a.toList == b.toList) = false := by
  rw [ByteArray.toList_eq, ByteArray.toList_eq]
  exact beq_eq_false_iff_ne.2 (fun e => h (ByteArray.ext (Array.toList_inj.1 e)))
theorem samC_refl : ∀ (d : Nat) (t : T d), samC d d t t = true
  | 0, t => Empty.elim t
  | d + 1, t => by
    obtain ⟨k, n, s, ps, rfl⟩ := T.open t
    rw [samC_mk]
    have : ∀ l : List (T d), allz (samC d d) l l = true := fun l => by
      induction l with
      | nil => rfl
      | cons p r ih => show (samC d d p p && allz (samC d d) r r) = true; rw [samC_refl d p, ih]; rfl
    rw [this]
    simp
end Go.Proofs.Ytdekboacjjpjeaa
