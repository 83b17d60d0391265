/- Trees made deeper; and, or, not together. Math alone. -/
import Derived.Test.YtjbfhpgiobddoaaExV
namespace Go.Proofs.Ytjbfhpgiobddoaa
open Go.RowKit Go.Lib
set_option linter.unusedSimpArgs false
set_option linter.unusedVariables false

/-- The same tree, at one depth more. -/
def lift : (d : Nat) → T d → T (d + 1)
  | 0, t => Empty.elim t
  | d + 1, t => mkT (show Int × Int × ByteArray × List (T d) from t).1 (show Int × Int × ByteArray × List (T d) from t).2.1 (show Int × Int × ByteArray × List (T d) from t).2.2.1 ((show Int × Int × ByteArray × List (T d) from t).2.2.2.map (lift d))
theorem lift_mk {d : Nat} (k n : Int) (s : ByteArray) (ps : List (T d)) : lift (d + 1) (mkT k n s ps) = mkT k n s (ps.map (lift d)) := rfl
theorem fold_lift {α : Type} (f : Int → Int → ByteArray → List α → α) : ∀ (d : Nat) (t : T d), fold f (d + 1) (lift d t) = fold f d t
  | 0, t => Empty.elim t
  | d + 1, t => by
    obtain ⟨k, n, s, ps, rfl⟩ := T.open t
    rw [lift_mk, fold_mk, fold_mk, List.map_map]
    congr 1
    exact List.map_congr_left (fun p _ => fold_lift f d p)
theorem cl_lift : ∀ (d : Nat) (t : T d), Cl d t → Cl (d + 1) (lift d t)
  | 0, t, _ => Empty.elim t
  | d + 1, t, h => by
    rcases h.cases with ⟨n, rfl⟩ | ⟨s, rfl⟩ | ⟨k, p, hk, rfl, hp⟩ | ⟨s, p, q, rfl, hp, hq⟩ | rfl
    · exact .inl ⟨rfl, rfl, rfl⟩
    · exact .inr (.inl ⟨rfl, rfl, rfl⟩)
    · exact .inr (.inr (.inl ⟨hk, rfl, rfl, _, rfl, cl_lift d p hp⟩))
    · exact .inr (.inr (.inr (.inl ⟨rfl, rfl, _, _, rfl, cl_lift d p hp, cl_lift d q hq⟩)))
    · exact cl_none
/-- As deep as is wanted. -/
def As (d : Nat) (t : T d) (D : Nat) (t' : T D) : Prop := (∀ (α : Type) (f : Int → Int → ByteArray → List α → α), fold f D t' = fold f d t) ∧ (Cl d t → Cl D t')
theorem as_add (d : Nat) (t : T d) : ∀ k, ∃ t' : T (d + k), As d t (d + k) t'
  | 0 => ⟨t, fun _ _ => rfl, id⟩
  | k + 1 => by
    obtain ⟨t', h1, h2⟩ := as_add d t k
    exact ⟨lift (d + k) t', fun α f => (fold_lift f (d + k) t').trans (h1 α f), fun h => cl_lift _ _ (h2 h)⟩
theorem as_at (d : Nat) (t : T d) {D : Nat} (h : d ≤ D) : ∃ t' : T D, As d t D t' := by
  obtain ⟨k, rfl⟩ := Nat.le.dest h
  exact as_add d t k
theorem both (d e : Nat) (t : T d) (u : T e) : ∃ (D : Nat) (t' u' : T D), As d t D t' ∧ As e u D u' := by
  obtain ⟨t', ht⟩ := as_at d t (Nat.le_max_left d e)
  obtain ⟨u', hu⟩ := as_at e u (Nat.le_max_right d e)
  exact ⟨_, t', u', ht, hu⟩

theorem tru_ne (b : Bool) : (tru b == 0) = !b := by cases b <;> rfl
/-- Not, and, or go together as they should. -/
theorem ev_logic (vs : List Vr) {D : Nat} (p q : T D) : evC vs (D + 1) (mkT 5 0 ⟨#[38, 38]⟩ [p, q]) = evC vs (D + 3) (mkT 3 0 ⟨#[]⟩ [mkT 5 0 ⟨#[124, 124]⟩ [mkT 3 0 ⟨#[]⟩ [p], mkT 3 0 ⟨#[]⟩ [q]]]) := by
  rw [evC_5, evC_3, evC_5, evC_3, evC_3]
  have e1 : bl ⟨#[38, 38]⟩ = [38, 38] := rfl
  have e2 : bl ⟨#[124, 124]⟩ = [124, 124] := rfl
  rw [e1, e2]
  obtain ⟨⟨x, xe⟩, hx⟩ : ∃ x, evC vs D p = x := ⟨_, rfl⟩
  obtain ⟨⟨y, ye⟩, hy⟩ : ∃ y, evC vs D q = y := ⟨_, rfl⟩
  rw [hx, hy]
  simp only
  by_cases h1 : xe = 0
  · subst h1
    simp only [ne_eq, not_true_eq_false, if_false, true_and]
    by_cases h2 : x = 0
    · subst h2
      simp [tru]
    · have hb : (x == 0) = false := beq_eq_false_iff_ne.2 h2
      by_cases h3 : ye = 0
      · subst h3
        by_cases h4 : y = 0
        · subst h4
          simp [h2, hb, tru, bin]
        · have hb2 : (y == 0) = false := beq_eq_false_iff_ne.2 h4
          simp [h2, hb, hb2, tru, bin, h4]
      · simp [h2, hb, h3, tru]
  · simp [h1]
end Go.Proofs.Ytjbfhpgiobddoaa
