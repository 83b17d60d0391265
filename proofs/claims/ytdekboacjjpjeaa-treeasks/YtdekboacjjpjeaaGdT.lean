
/- Expressions of any depth: put together, and when two are the same. Math alone. -/
import Derived.Test.YtdekboacjjpjeaaExQl
import Derived.Test.YtdekboacjjpjeaaExNs
namespace Go.Proofs.Ytdekboacjjpjeaa
open Go.RowKit Go.Lib
set_option linter.unusedSimpArgs false
set_option linter.unusedVariables false

/-- An expression, with its depth. -/
abbrev Sx := (d : Nat) × T d
/-- The same tree, k deeper. -/
def addl (d : Nat) (t : T d) : (k : Nat) → T (d + k)
  | 0 => t
  | k + 1 => lift (d + k) (addl d t k)
theorem fold_addl {α : Type} (f : Int → Int → ByteArray → List α → α) (d : Nat) (t : T d) : ∀ k, fold f (d + k) (addl d t k) = fold f d t
  | 0 => rfl
  | k + 1 => (fold_lift f (d + k) (addl d t k)).trans (fold_addl f d t k)
theorem cl_addl (d : Nat) (t : T d) (h : Cl d t) : ∀ k, Cl (d + k) (addl d t k)
  | 0 => h
  | k + 1 => cl_lift _ _ (cl_addl d t h k)
def turn {a b : Nat} (h : a = b) (t : T a) : T b := h ▸ t
theorem fold_turn {α : Type} (f : Int → Int → ByteArray → List α → α) {a b : Nat} (h : a = b) (t : T a) : fold f b (turn h t) = fold f a t := by subst h; rfl
theorem cl_turn {a b : Nat} (h : a = b) (t : T a) (hc : Cl a t) : Cl b (turn h t) := by subst h; exact hc
/-- A function of expressions, by what it makes of a node and of its parts. -/
def foldS {α : Type} (f : Int → Int → ByteArray → List α → α) (x : Sx) : α := fold f x.1 x.2
def ClX (x : Sx) : Prop := Cl x.1 x.2
def mk0 (k n : Int) (s : ByteArray) : Sx := ⟨1, mkT k n s []⟩
def mk1 (k : Int) (x : Sx) : Sx := ⟨x.1 + 1, mkT k 0 ⟨#[]⟩ [x.2]⟩
def mk2 (s : ByteArray) (x y : Sx) : Sx := ⟨x.1 + y.1 + 1, mkT 5 0 s [addl x.1 x.2 y.1, turn (Nat.add_comm y.1 x.1) (addl y.1 y.2 x.1)]⟩
theorem foldS_mk0 {α : Type} (f : Int → Int → ByteArray → List α → α) (k n : Int) (s : ByteArray) : foldS f (mk0 k n s) = f k n s [] := rfl
theorem foldS_mk1 {α : Type} (f : Int → Int → ByteArray → List α → α) (k : Int) (x : Sx) : foldS f (mk1 k x) = f k 0 ⟨#[]⟩ [foldS f x] := rfl
theorem foldS_mk2 {α : Type} (f : Int → Int → ByteArray → List α → α) (s : ByteArray) (x y : Sx) : foldS f (mk2 s x y) = f 5 0 s [foldS f x, foldS f y] := by
  show f 5 0 s [fold f _ _, fold f _ _] = _
  rw [fold_addl, fold_turn, fold_addl]
  rfl
theorem cl_mk1 {k : Int} {x : Sx} (hk : k = 3 ∨ k = 4) (h : ClX x) : ClX (mk1 k x) := .inr (.inr (.inl ⟨hk, rfl, rfl, _, rfl, h⟩))
theorem cl_mk2 {s : ByteArray} {x y : Sx} (h : ClX x) (h' : ClX y) : ClX (mk2 s x y) := .inr (.inr (.inr (.inl ⟨rfl, rfl, _, _, rfl, cl_addl _ _ h _, cl_turn _ _ (cl_addl _ _ h' _)⟩)))

/-- The nodes, each ahead of its parts, with their number. -/
def enc : (d : Nat) → T d → List (Int × Int × ByteArray × Nat) := fold (fun k n s l => (k, n, s, l.length) :: l.flatten)
theorem enc_mk {d : Nat} (k n : Int) (s : ByteArray) (ps : List (T d)) : enc (d + 1) (mkT k n s ps) = (k, n, s, ps.length) :: (ps.map (enc d)).flatten := by
  show (k, n, s, (ps.map (enc d)).length) :: (ps.map (enc d)).flatten = _
  rw [List.length_map]
/-- Two expressions with the same nodes are the same, whatever stands behind them. -/
theorem sam_enc : ∀ (d e : Nat) (t : T d) (u : T e) (r r' : List (Int × Int × ByteArray × Nat)), enc d t ++ r = enc e u ++ r' → samC d e t u = true ∧ r = r'
  | 0, _, t, _, _, _, _ => Empty.elim t
  | _ + 1, 0, _, u, _, _, _ => Empty.elim u
  | d + 1, e + 1, t, u, r, r', h => by
    obtain ⟨k, n, s, ps, rfl⟩ := T.open t
    obtain ⟨k', n', s', qs, rfl⟩ := T.open u
    rw [enc_mk, enc_mk, List.cons_append, List.cons_append] at h
    injection h with h1 h2
    simp only [Prod.mk.injEq] at h1
    obtain ⟨rfl, rfl, rfl, hl⟩ := h1
    have key : ∀ (ps : List (T d)) (qs : List (T e)), ps.length = qs.length → (ps.map (enc d)).flatten ++ r = (qs.map (enc e)).flatten ++ r' → allz (samC d e) ps qs = true ∧ r = r' := by
      intro ps
      induction ps with
      | nil =>
        intro qs hq h
        have : qs = [] := List.eq_nil_of_length_eq_zero (by simpa using hq.symm)
        subst this
        exact ⟨rfl, by simpa using h⟩
      | cons p ps ih =>
        intro qs hq h
        cases qs with
        | nil => simp at hq
        | cons q qs =>
          simp only [List.map_cons, List.flatten_cons, List.append_assoc] at h
          obtain ⟨a1, a2⟩ := sam_enc d e p q _ _ h
          obtain ⟨b1, b2⟩ := ih qs (by simpa using hq) a2
          refine ⟨?_, b2⟩
          show (samC d e p q && allz (samC d e) ps qs) = true
          rw [a1, b1]; rfl
    obtain ⟨a, b⟩ := key ps qs hl h2
    rw [samC_mk, a, decide_eq_true hl]
    exact ⟨by simp, b⟩
/-- What all folds take for the same is the same. -/
theorem sam_of {x y : Sx} (h : foldS (fun k n s l => (k, n, s, l.length) :: l.flatten) x = foldS (fun k n s l => ((k, n, s, l.length) : Int × Int × ByteArray × Nat) :: l.flatten) y) : samC x.1 y.1 x.2 y.2 = true :=
  (sam_enc x.1 y.1 x.2 y.2 [] [] (by rw [List.append_nil, List.append_nil]; exact h)).1
end Go.Proofs.Ytdekboacjjpjeaa
