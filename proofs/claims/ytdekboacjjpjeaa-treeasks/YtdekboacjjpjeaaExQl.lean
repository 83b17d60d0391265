
/- Trees made deeper. Math alone. -/
import Derived.Test.YtdekboacjjpjeaaExM
namespace Go.Proofs.Ytdekboacjjpjeaa
set_option linter.unusedSimpArgs false
set_option linter.unusedVariables false

/-- The same tree, at one depth more. -/
def lift : (d : Nat) → T d → T (d + 1)
  | 0, t => Empty.elim t
  | d + 1, t => mkT (show Int × Int × ByteArray × List (T d) from t).1 (show Int × Int × ByteArray × List (T d) from t).2.1 (show Int × Int × ByteArray × List (T d) from t).2.2.1 ((show Int × Int × ByteArray × List (T d) from t).2.2.2.map (lift d))
theorem lift_mk {d : Nat} (k n : Int) (s : ByteArray) (ps : List (T d)) : lift (d + 1) (mkT k n s ps) = mkT k n s (ps.map (lift d)) := rfl
theorem fold_lift {α : Type} (f : Int → Int → ByteArray → List α → α) : ∀ (d : Nat) (t : T d), fold f (d + 1) (lift d t) = fold f d t
  | 0, t => Empty.elim t
  | d + 1, t => by
    obtain ⟨k, n, s, ps, rfl⟩ := T.open t
    rw [lift_mk, fold_mk, fold_mk, List.map_map]
    congr 1
    exact List.map_congr_left (fun p _ => fold_lift f d p)
theorem cl_lift : ∀ (d : Nat) (t : T d), Cl d t → Cl (d + 1) (lift d t)
  | 0, t, _ => Empty.elim t
  | d + 1, t, h => by
    rcases h.cases with ⟨n, rfl⟩ | ⟨s, rfl⟩ | ⟨k, p, hk, rfl, hp⟩ | ⟨s, p, q, rfl, hp, hq⟩ | rfl
    · exact .inl ⟨rfl, rfl, rfl⟩
    · exact .inr (.inl ⟨rfl, rfl, rfl⟩)
    · exact .inr (.inr (.inl ⟨hk, rfl, rfl, _, rfl, cl_lift d p hp⟩))
    · exact .inr (.inr (.inr (.inl ⟨rfl, rfl, _, _, rfl, cl_lift d p hp, cl_lift d q hq⟩)))
    · exact cl_none
/-- As deep as is wanted. -/
def As (d : Nat) (t : T d) (D : Nat) (t' : T D) : Prop := (∀ (α : Type) (f : Int → Int → ByteArray → List α → α), fold f D t' = fold f d t) ∧ (Cl d t → Cl D t')
theorem as_add (d : Nat) (t : T d) : ∀ k, ∃ t' : T (d + k), As d t (d + k) t'
  | 0 => ⟨t, fun _ _ => rfl, id⟩
  | k + 1 => by
    obtain ⟨t', h1, h2⟩ := as_add d t k
    exact ⟨lift (d + k) t', fun α f => (fold_lift f (d + k) t').trans (h1 α f), fun h => cl_lift _ _ (h2 h)⟩
theorem as_at (d : Nat) (t : T d) {D : Nat} (h : d ≤ D) : ∃ t' : T D, As d t D t' := by
  obtain ⟨k, rfl⟩ := Nat.le.dest h
  exact as_add d t k
theorem both (d e : Nat) (t : T d) (u : T e) : ∃ (D : Nat) (t' u' : T D), As d t D t' ∧ As e u D u' := by
  obtain ⟨t', ht⟩ := as_at d t (Nat.le_max_left d e)
  obtain ⟨u', hu⟩ := as_at e u (Nat.le_max_right d e)
  exact ⟨_, t', u', ht, hu⟩
end Go.Proofs.Ytdekboacjjpjeaa
