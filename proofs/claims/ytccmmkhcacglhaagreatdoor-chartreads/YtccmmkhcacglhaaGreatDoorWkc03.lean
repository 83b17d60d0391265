import Derived.Test.YtccmmkhcacglhaaGreatDoorWkc01
import Derived.Test.YtccmmkhcacglhaaGreatDoorWkc02
import Derived.Lib.ItoaNum

/- Expressions of any depth: put together, and when two are the same. Math alone. -/
namespace Go.Proofs.YtccmmkhcacglhaaGreatDoor
open Go.RowKit Go.Lib
set_option linter.unusedSimpArgs false
set_option linter.unusedVariables false

/-- An expression, with its depth. -/
abbrev Sx := (d : Nat) × T d
/-- The same tree, k deeper. -/
def addl (d : Nat) (t : T d) : (k : Nat) → T (d + k)
  | 0 => t
  | k + 1 => lift (d + k) (addl d t k)
theorem fold_addl {α : Type} (f : Int → Int → ByteArray → List α → α) (d : Nat) (t : T d) : ∀ k, fold f (d + k) (addl d t k) = fold f d t
  | 0 => rfl
  | k + 1 => (fold_lift f (d + k) (addl d t k)).trans (fold_addl f d t k)
theorem cl_addl (d : Nat) (t : T d) (h : Cl d t) : ∀ k, Cl (d + k) (addl d t k)
  | 0 => h
  | k + 1 => cl_lift _ _ (cl_addl d t h k)
def turn {a b : Nat} (h : a = b) (t : T a) : T b := h ▸ t
theorem fold_turn {α : Type} (f : Int → Int → ByteArray → List α → α) {a b : Nat} (h : a = b) (t : T a) : fold f b (turn h t) = fold f a t := by subst h; rfl
theorem cl_turn {a b : Nat} (h : a = b) (t : T a) (hc : Cl a t) : Cl b (turn h t) := by subst h; exact hc
/-- A function of expressions, by what it makes of a node and of its parts. -/
def foldS {α : Type} (f : Int → Int → ByteArray → List α → α) (x : Sx) : α := fold f x.1 x.2
def ClX (x : Sx) : Prop := Cl x.1 x.2
def mk0 (k n : Int) (s : ByteArray) : Sx := ⟨1, mkT k n s []⟩
def mk1 (k : Int) (x : Sx) : Sx := ⟨x.1 + 1, mkT k 0 ⟨#[]⟩ [x.2]⟩
def mk2 (s : ByteArray) (x y : Sx) : Sx := ⟨x.1 + y.1 + 1, mkT 5 0 s [addl x.1 x.2 y.1, turn (Nat.add_comm y.1 x.1) (addl y.1 y.2 x.1)]⟩
theorem foldS_mk2 {α : Type} (f : Int → Int → ByteArray → List α → α) (s : ByteArray) (x y : Sx) : foldS f (mk2 s x y) = f 5 0 s [foldS f x, foldS f y] := by
  show f 5 0 s [fold f _ _, fold f _ _] = _
  rw [fold_addl, fold_turn, fold_addl]
  rfl
theorem cl_mk1 {k : Int} {x : Sx} (hk : k = 3 ∨ k = 4) (h : ClX x) : ClX (mk1 k x) := .inr (.inr (.inl ⟨hk, rfl, rfl, _, rfl, h⟩))
theorem cl_mk2 {s : ByteArray} {x y : Sx} (h : ClX x) (h' : ClX y) : ClX (mk2 s x y) := .inr (.inr (.inr (.inl ⟨rfl, rfl, _, _, rfl, cl_addl _ _ h _, cl_turn _ _ (cl_addl _ _ h' _)⟩)))

/-- The nodes, each ahead of its parts, with their number. -/
def enc : (d : Nat) → T d → List (Int × Int × ByteArray × Nat) := fold (fun k n s l => (k, n, s, l.length) :: l.flatten)
theorem enc_mk {d : Nat} (k n : Int) (s : ByteArray) (ps : List (T d)) : enc (d + 1) (mkT k n s ps) = (k, n, s, ps.length) :: (ps.map (enc d)).flatten := by
  show (k, n, s, (ps.map (enc d)).length) :: (ps.map (enc d)).flatten = _
  rw [List.length_map]
/-- Two expressions with the same nodes are the same, whatever stands behind them. -/
theorem sam_enc : ∀ (d e : Nat) (t : T d) (u : T e) (r r' : List (Int × Int × ByteArray × Nat)), enc d t ++ r = enc e u ++ r' → samC d e t u = true ∧ r = r'
  | 0, _, t, _, _, _, _ => Empty.elim t
  | _ + 1, 0, _, u, _, _, _ => Empty.elim u
  | d + 1, e + 1, t, u, r, r', h => by
    obtain ⟨k, n, s, ps, rfl⟩ := T.open t
    obtain ⟨k', n', s', qs, rfl⟩ := T.open u
    rw [enc_mk, enc_mk, List.cons_append, List.cons_append] at h
    injection h with h1 h2
    simp only [Prod.mk.injEq] at h1
    obtain ⟨rfl, rfl, rfl, hl⟩ := h1
    have key : ∀ (ps : List (T d)) (qs : List (T e)), ps.length = qs.length → (ps.map (enc d)).flatten ++ r = (qs.map (enc e)).flatten ++ r' → allz (samC d e) ps qs = true ∧ r = r' := by
      intro ps
      induction ps with
      | nil =>
        intro qs hq h
        have : qs = [] := List.eq_nil_of_length_eq_zero (by simpa using hq.symm)
        subst this
        exact ⟨rfl, by simpa using h⟩
      | cons p ps ih =>
        intro qs hq h
        cases qs with
        | nil => simp at hq
        | cons q qs =>
          simp only [List.map_cons, List.flatten_cons, List.append_assoc] at h
          obtain ⟨a1, a2⟩ := sam_enc d e p q _ _ h
          obtain ⟨b1, b2⟩ := ih qs (by simpa using hq) a2
          refine ⟨?_, b2⟩
          show (samC d e p q && allz (samC d e) ps qs) = true
          rw [a1, b1]; rfl
    obtain ⟨a, b⟩ := key ps qs hl h2
    rw [samC_mk, a, decide_eq_true hl]
    exact ⟨by simp, b⟩
/-- What all folds take for the same is the same. -/
theorem sam_of {x y : Sx} (h : foldS (fun k n s l => (k, n, s, l.length) :: l.flatten) x = foldS (fun k n s l => ((k, n, s, l.length) : Int × Int × ByteArray × Nat) :: l.flatten) y) : samC x.1 y.1 x.2 y.2 = true :=
  (sam_enc x.1 y.1 x.2 y.2 [] [] (by rw [List.append_nil, List.append_nil]; exact h)).1
end Go.Proofs.YtccmmkhcacglhaaGreatDoor

/- How words are read as an expression, and an expression's words. Math alone. -/
namespace Go.Proofs.YtccmmkhcacglhaaGreatDoor
open Go.RowKit Go.Lib
set_option linter.unusedSimpArgs false
set_option linter.unusedVariables false

/-- A word: its kind, and its bytes. -/
abbrev Tk := Nat × List UInt8
/-- How strongly an operator binds; 0: it is none. -/
def lv (s : List UInt8) : Nat := if s = [124, 124] then 1 else if s = [38, 38] then 2 else if s = [60] ∨ s = [60, 61] ∨ s = [61, 61] ∨ s = [33, 61] then 3 else if s = [43] ∨ s = [45] then 4 else if s = [42] then 5 else 0
theorem lv_le (s : List UInt8) : lv s ≤ 5 := by
  unfold lv
  repeat' split
  all_goals omega
def noX : Sx := mk0 0 0 ⟨#[]⟩
/-- What reading tells: the expression, the place, and the word with which it can't go on (-1: none). -/
abbrev Rd3 := Sx × Nat × Int
def failR (at' : Nat) (bad : Int) : Rd3 := (noX, at', if bad < 0 then (at' : Int) else bad)
section
variable (nb : List UInt8 → Int) (rsv : List UInt8 → Bool) (l : List Tk)
def isT (s : List UInt8) (at' : Nat) (bad : Int) : Bool := decide (bad < 0) && (match l[at']? with | some w => decide (w.2 = s) | none => false)
/-- Operators of level k, one behind the other; next reads what lies between them. -/
def lop (next : Nat → Int → Rd3) (k : Nat) : Nat → Rd3 → Rd3
  | 0, r => r
  | g + 1, r => match l[r.2.1]? with
    | none => r
    | some w => if r.2.2 < 0 ∧ lv w.2 = k then
        (if k = 3 then (mk2 ⟨w.2.toArray⟩ r.1 (next (r.2.1 + 1) r.2.2).1, (next (r.2.1 + 1) r.2.2).2) else lop next k g (mk2 ⟨w.2.toArray⟩ r.1 (next (r.2.1 + 1) r.2.2).1, (next (r.2.1 + 1) r.2.2).2))
      else r
/-- An expression whose operators are of level k, or stronger; 6: none at all. -/
def psr : Nat → Nat → Nat → Int → Rd3
  | 0, _, at', bad => failR at' bad
  | f + 1, k, at', bad =>
    if k = 6 then
      (if 0 ≤ bad then failR at' bad else match l[at']? with
      | none => failR at' bad
      | some w =>
        if w.2 = [33] ∨ w.2 = [45] then (mk1 (if w.2 = [45] then 4 else 3) (psr f 6 (at' + 1) bad).1, (psr f 6 (at' + 1) bad).2)
        else if w.2 = [40] then (if isT l [41] (psr f 1 (at' + 1) bad).2.1 (psr f 1 (at' + 1) bad).2.2 = true then ((psr f 1 (at' + 1) bad).1, (psr f 1 (at' + 1) bad).2.1 + 1, (psr f 1 (at' + 1) bad).2.2) else failR (psr f 1 (at' + 1) bad).2.1 (psr f 1 (at' + 1) bad).2.2)
        else if w.1 = 2 then (mk0 1 (nb w.2) ⟨#[]⟩, at' + 1, bad)
        else if w.1 = 1 ∧ rsv w.2 = false then (mk0 2 0 ⟨w.2.toArray⟩, at' + 1, bad)
        else failR at' bad)
    else lop l (psr f (k + 1)) k l.length (psr f (k + 1) at' bad)
end

/-- No word of a Ref is reserved; Lits are told by their digits. -/
def okF (nb : List UInt8 → Int) (rsv : List UInt8 → Bool) (dc : Int → List UInt8) (k n : Int) (s : ByteArray) (p : List Prop) : Prop :=
  (k = 1 → nb (dc n) = n ∧ lv (dc n) = 0 ∧ dc n ≠ [33] ∧ dc n ≠ [45] ∧ dc n ≠ [40]) ∧ (k = 2 → rsv s.data.toList = false ∧ lv s.data.toList = 0 ∧ s.data.toList ≠ [33] ∧ s.data.toList ≠ [45] ∧ s.data.toList ≠ [40]) ∧ (k = 5 → 1 ≤ lv s.data.toList) ∧ (1 ≤ k ∧ k ≤ 5) ∧ ∀ q ∈ p, q
def okT (nb : List UInt8 → Int) (rsv : List UInt8 → Bool) (dc : Int → List UInt8) : (d : Nat) → T d → Prop := fold (okF nb rsv dc)

theorem drop_one {α : Type} {l r : List α} {a : α} {i : Nat} (h : l.drop i = a :: r) : l[i]? = some a ∧ l.drop (i + 1) = r := by
  constructor
  · have := congrArg (fun x : List α => x[0]?) h
    simpa using this
  · have := congrArg List.tail h
    simpa using this
/-- All folds take it for the same. -/
def Alk (x : Sx) {d : Nat} (t : T d) : Prop := (∀ (α : Type) (g : Int → Int → ByteArray → List α → α), foldS g x = fold g d t) ∧ (Cl d t → ClX x)
theorem Alk.of {d : Nat} (t : T d) : Alk ⟨d, t⟩ t := ⟨fun _ _ => rfl, id⟩
section
variable {nb : List UInt8 → Int} {rsv : List UInt8 → Bool} {l : List Tk}
variable {dc : Int → List UInt8}
end
end Go.Proofs.YtccmmkhcacglhaaGreatDoor

/- Words read with two stacks: the same as by levels. Math alone. -/
namespace Go.Proofs.YtccmmkhcacglhaaGreatDoor
open Go.RowKit Go.Lib
set_option linter.unusedSimpArgs false
set_option linter.unusedVariables false

/-- A sign that waits: its bytes, and its level (0: a bracket, 6: ahead). -/
abbrev Sg2 := List UInt8 × Nat
/-- What came by now: the operands, the signs that wait (the last ones first), the brackets that are open, whether an operand has ended. -/
structure Yd where
  V : List Sx
  W : List Sg2
  o : Nat
  b : Bool
def topL (W : List Sg2) : Nat := match W with | [] => 0 | s :: _ => s.2
/-- What a sign makes of the last operands. -/
def jn1 (V : List Sx) (s : Sg2) : List Sx :=
  if s.2 = 6 then (match V with | x :: r => mk1 (if s.1 = [33] then 3 else 4) x :: r | r => r)
  else (match V with | x :: y :: r => mk2 ⟨s.1.toArray⟩ y x :: r | r => r)
def jn (k : Nat) : List Sx → List Sg2 → List Sx × List Sg2
  | V, [] => (V, [])
  | V, s :: W => if k ≤ s.2 then jn k (jn1 V s) W else (V, s :: W)
theorem jn_skip {k : Nat} {V : List Sx} {W : List Sg2} (h : topL W < k) : jn k V W = (V, W) := by
  cases W with
  | nil => rfl
  | cons s W => unfold jn; rw [if_neg (by simpa [topL] using h)]
theorem jn_jn {k k' : Nat} (h : k ≤ k') : ∀ (W : List Sg2) (V : List Sx), jn k (jn k' V W).1 (jn k' V W).2 = jn k V W
  | [], V => rfl
  | s :: W, V => by
    by_cases hs : k' ≤ s.2
    · rw [jn, if_pos hs, jn_jn h W, jn, if_pos (Nat.le_trans h hs)]
    · rw [jn, if_neg hs]
section
variable (leaf : Tk → Option Sx)
def stA (y : Yd) (w : Tk) : Yd × Bool :=
  if w.1 ≠ 3 then (match leaf w with | some x => (⟨x :: y.V, y.W, y.o, true⟩, true) | none => (y, false))
  else if w.2 = [40] then (⟨y.V, (w.2, 0) :: y.W, y.o + 1, y.b⟩, true)
  else if w.2 = [33] ∨ w.2 = [45] then (⟨y.V, (w.2, 6) :: y.W, y.o, y.b⟩, true)
  else (y, false)
def stB (y : Yd) (w : Tk) : Yd × Bool :=
  if w.1 ≠ 3 then (y, false)
  else if w.2 = [41] then (if y.o = 0 then (y, false) else (⟨(jn 1 y.V y.W).1, (jn 1 y.V y.W).2.tail, y.o - 1, y.b⟩, true))
  else if lv w.2 = 0 then (y, false)
  else if lv w.2 = 3 ∧ topL (jn (lv w.2 + 1) y.V y.W).2 = 3 then (⟨(jn (lv w.2 + 1) y.V y.W).1, (jn (lv w.2 + 1) y.V y.W).2, y.o, y.b⟩, false)
  else (⟨(jn (lv w.2) y.V y.W).1, (w.2, lv w.2) :: (jn (lv w.2) y.V y.W).2, y.o, false⟩, true)
def stp (y : Yd) (w : Tk) : Yd × Bool := if y.b = true then stB y w else stA leaf y w
/-- What is told where it stops. -/
def stopY (y : Yd) (n : Nat) : Option Sx × Nat := if y.b = true ∧ y.o = 0 then ((jn 1 y.V y.W).1.head?, n) else (none, n)
def runY : Yd → List Tk → Nat → Option Sx × Nat
  | y, [], n => stopY y n
  | y, w :: r, n => if (stp leaf y w).2 = true then runY (stp leaf y w).1 r (n + 1) else stopY (stp leaf y w).1 n
/-- From a place on. -/
def rnY (l : List Tk) (y : Yd) (n : Nat) : Option Sx × Nat := runY leaf y (l.drop n) n
end
section
variable {leaf : Tk → Option Sx} {l : List Tk}
theorem rnY_none {y : Yd} {n : Nat} (h : l[n]? = none) : rnY leaf l y n = stopY y n := by
  unfold rnY
  rw [List.drop_eq_nil_iff.2 (List.getElem?_eq_none_iff.1 h)]; rfl
theorem rnY_some {y : Yd} {n : Nat} {w : Tk} (h : l[n]? = some w) : rnY leaf l y n = if (stp leaf y w).2 = true then rnY leaf l (stp leaf y w).1 (n + 1) else stopY (stp leaf y w).1 n := by
  obtain ⟨hl, hw⟩ := List.getElem?_eq_some_iff.1 h
  unfold rnY
  rw [List.drop_eq_getElem_cons hl, hw]; rfl
theorem rnB {V : List Sx} {W : List Sg2} {o n : Nat} {w : Tk} {y' : Yd} (h : l[n]? = some w) (hs : stB ⟨V, W, o, true⟩ w = (y', true)) : rnY leaf l ⟨V, W, o, true⟩ n = rnY leaf l y' (n + 1) := by
  rw [rnY_some h, show stp leaf ⟨V, W, o, true⟩ w = (y', true) from hs, if_pos rfl]
theorem rnB_no {V : List Sx} {W : List Sg2} {o n : Nat} {w : Tk} {y' : Yd} (h : l[n]? = some w) (hs : stB ⟨V, W, o, true⟩ w = (y', false)) : rnY leaf l ⟨V, W, o, true⟩ n = stopY y' n := by
  rw [rnY_some h, show stp leaf ⟨V, W, o, true⟩ w = (y', false) from hs, if_neg Bool.false_ne_true]
theorem stB_kind {y : Yd} {w : Tk} (h : w.1 ≠ 3) : stB y w = (y, false) := by unfold stB; rw [if_pos h]
theorem stB_shut0 {y : Yd} {w : Tk} (h : ¬ w.1 ≠ 3) (h4 : w.2 = [41]) (ho : y.o = 0) : stB y w = (y, false) := by unfold stB; rw [if_neg h, if_pos h4, if_pos ho]
theorem stB_shut {y : Yd} {w : Tk} (h : ¬ w.1 ≠ 3) (h4 : w.2 = [41]) (ho : ¬ y.o = 0) : stB y w = (⟨(jn 1 y.V y.W).1, (jn 1 y.V y.W).2.tail, y.o - 1, y.b⟩, true) := by unfold stB; rw [if_neg h, if_pos h4, if_neg ho]
theorem stB_none {y : Yd} {w : Tk} (h : ¬ w.1 ≠ 3) (h4 : ¬ w.2 = [41]) (hl : lv w.2 = 0) : stB y w = (y, false) := by unfold stB; rw [if_neg h, if_neg h4, if_pos hl]
theorem not41 {s : List UInt8} (h : lv s ≠ 0) : ¬ s = [41] := fun e => by
  rw [e] at h
  exact h (by decide)
theorem stB_two {y : Yd} {w : Tk} (h : ¬ w.1 ≠ 3) (hl : lv w.2 = 3) (ht : topL (jn 4 y.V y.W).2 = 3) : stB y w = (⟨(jn 4 y.V y.W).1, (jn 4 y.V y.W).2, y.o, y.b⟩, false) := by
  unfold stB
  rw [if_neg h, if_neg (not41 (by omega)), if_neg (by omega), hl, if_pos ⟨rfl, ht⟩]
theorem stB_op {y : Yd} {w : Tk} {k : Nat} (h : ¬ w.1 ≠ 3) (hl : lv w.2 = k) (hk : 1 ≤ k) (ht : ¬ (k = 3 ∧ topL (jn (k + 1) y.V y.W).2 = 3)) : stB y w = (⟨(jn k y.V y.W).1, (w.2, k) :: (jn k y.V y.W).2, y.o, false⟩, true) := by
  unfold stB
  rw [if_neg h, if_neg (not41 (by omega)), if_neg (by omega), hl, if_neg ht]
theorem stop_jn {k : Nat} (hk : 1 ≤ k) (V : List Sx) (W : List Sg2) (o : Nat) (b : Bool) (n : Nat) : stopY ⟨(jn k V W).1, (jn k V W).2, o, b⟩ n = stopY ⟨V, W, o, b⟩ n := by
  unfold stopY
  simp only [jn_jn hk]
/-- What follows binds less than k. -/
def NxLt (l : List Tk) (k n : Nat) : Prop := ∀ w, l[n]? = some w → lv w.2 < k
/-- Joined or not is nothing to what follows. -/
theorem run_jn {k : Nat} (hk : 1 ≤ k) {V : List Sx} {W : List Sg2} {o n : Nat} (hn : NxLt l k n) : rnY leaf l ⟨V, W, o, true⟩ n = rnY leaf l ⟨(jn k V W).1, (jn k V W).2, o, true⟩ n := by
  cases hw : l[n]? with
  | none => rw [rnY_none hw, rnY_none hw, stop_jn hk]
  | some w =>
    have hlt := hn w hw
    by_cases h3 : w.1 ≠ 3
    · rw [rnB_no hw (stB_kind h3), rnB_no hw (stB_kind h3), stop_jn hk]
    by_cases h4 : w.2 = [41]
    · by_cases ho : o = 0
      · rw [rnB_no hw (stB_shut0 h3 h4 ho), rnB_no hw (stB_shut0 h3 h4 ho), stop_jn hk]
      · rw [rnB hw (stB_shut h3 h4 ho), rnB hw (stB_shut h3 h4 ho)]
        simp only [jn_jn hk]
    by_cases h0 : lv w.2 = 0
    · rw [rnB_no hw (stB_none h3 h4 h0), rnB_no hw (stB_none h3 h4 h0), stop_jn hk]
    have hjj := jn_jn (k := lv w.2 + 1) (k' := k) (by omega) W V
    by_cases ht : lv w.2 = 3 ∧ topL (jn (lv w.2 + 1) V W).2 = 3
    · obtain ⟨ht1, ht2⟩ := ht
      rw [ht1] at ht2 hjj
      rw [rnB_no hw (stB_two h3 ht1 ht2), rnB_no hw (stB_two h3 ht1 (by rw [hjj]; exact ht2))]
      simp only [hjj]
    · rw [rnB hw (stB_op h3 rfl (by omega) ht), rnB hw (stB_op h3 rfl (by omega) (by rw [hjj]; exact ht))]
      simp only [jn_jn (k := lv w.2) (k' := k) (by omega)]
/-- A sign that waits at level k, and its right operand; an operator of level k follows. -/
theorem run_chain {k : Nat} (hk : 1 ≤ k) (h3 : k ≠ 3) (hk6 : k ≤ 5) {x z : Sx} {V : List Sx} {W : List Sg2} {t : List UInt8} {o n : Nat} (hW : topL W < k) (hn : NxLt l (k + 1) n) :
    rnY leaf l ⟨z :: x :: V, (t, k) :: W, o, true⟩ n = rnY leaf l ⟨mk2 ⟨t.toArray⟩ x z :: V, W, o, true⟩ n := by
  have hj : jn k (z :: x :: V) ((t, k) :: W) = (mk2 ⟨t.toArray⟩ x z :: V, W) := by
    rw [jn, if_pos (Nat.le_refl _)]
    show jn k (jn1 (z :: x :: V) (t, k)) W = _
    unfold jn1
    rw [if_neg (by show ¬ k = 6; omega)]
    exact jn_skip hW
  by_cases hlt : NxLt l k n
  · rw [run_jn hk hlt, hj]
  · obtain ⟨w, hw⟩ := Classical.not_forall.1 hlt
    obtain ⟨hw1, hw2⟩ := Classical.not_imp.1 hw
    have hle := hn w hw1
    have hk' : lv w.2 = k := by omega
    by_cases h3' : w.1 ≠ 3
    · rw [rnB_no hw1 (stB_kind h3'), rnB_no hw1 (stB_kind h3')]
      have := stop_jn (k := k) hk (z :: x :: V) ((t, k) :: W) o true n
      rw [hj] at this
      exact this.symm
    rw [rnB hw1 (stB_op h3' hk' hk (fun h => h3 h.1)), rnB hw1 (stB_op h3' hk' hk (fun h => h3 h.1))]
    simp only [hj, jn_skip hW]
end
section
variable {nb : List UInt8 → Int} {rsv : List UInt8 → Bool} {l : List Tk}
/-- The expression that a word alone is. -/
def leafY (nb : List UInt8 → Int) (rsv : List UInt8 → Bool) (w : Tk) : Option Sx :=
  if w.1 = 2 then some (mk0 1 (nb w.2) ⟨#[]⟩) else if w.1 = 1 ∧ rsv w.2 = false then some (mk0 2 0 ⟨w.2.toArray⟩) else none
/-- A sign's bytes are a sign's. -/
def GdW1 (w : Tk) : Prop := (w.1 = 1 ∨ w.1 = 2 ∨ w.1 = 3) ∧ (w.1 ≠ 3 → lv w.2 = 0 ∧ w.2 ≠ [33] ∧ w.2 ≠ [45] ∧ w.2 ≠ [40] ∧ w.2 ≠ [41])
/-- What reading at level k, with these stacks, comes to. -/
def ResY (leaf : Tk → Option Sx) (l : List Tk) (k : Nat) (V : List Sx) (W : List Sg2) (o n : Nat) (out : Option Sx × Nat) (r : Rd3) : Prop :=
  (∃ m : Nat, r.2.2 = (m : Int) ∧ out = (none, m)) ∨
  (r.2.2 = -1 ∧ n ≤ r.2.1 ∧ NxLt l k r.2.1 ∧ out = rnY leaf l ⟨r.1 :: V, W, o, true⟩ r.2.1) ∨
  (r.2.2 = -1 ∧ n ≤ r.2.1 ∧ k ≤ 3 ∧ (∃ w, l[r.2.1]? = some w ∧ lv w.2 = 3) ∧ out = stopY ⟨r.1 :: V, W, o, true⟩ r.2.1)
theorem lop_bad {next : Nat → Int → Rd3} {k : Nat} {x : Sx} {n m : Nat} : ∀ G, lop l next k G (x, n, (m : Int)) = (x, n, (m : Int))
  | 0 => rfl
  | G + 1 => by
    unfold lop
    cases l[n]? with
    | none => rfl
    | some w => simp only; rw [if_neg (fun h => by have := h.1; omega)]
theorem lop_neq {next : Nat → Int → Rd3} {k : Nat} {x : Sx} {n : Nat} {b : Int} (h : ∀ w, l[n]? = some w → lv w.2 ≠ k) : ∀ G, lop l next k G (x, n, b) = (x, n, b)
  | 0 => rfl
  | G + 1 => by
    unfold lop
    cases hw : l[n]? with
    | none => rfl
    | some w => simp only; rw [if_neg (fun q => h w hw q.2)]
def LevC (nb : List UInt8 → Int) (rsv : List UInt8 → Bool) (l : List Tk) (f : Nat) : Prop := ∀ (k n : Nat) (V : List Sx) (W : List Sg2) (o : Nat), 1 ≤ k → k ≤ 6 → (k = 6 ∨ topL W < k) → 7 * (l.length - n) + (6 - k) < f →
  ResY (leafY nb rsv) l k V W o n (rnY (leafY nb rsv) l ⟨V, W, o, false⟩ n) (psr nb rsv l f k n (-1))
theorem loop_any (hl : ∀ w ∈ l, GdW1 w) {f : Nat} (IH : LevC nb rsv l f) {k : Nat} (hk : 1 ≤ k) (hk5 : k ≤ 5) {V : List Sx} {W : List Sg2} {o n0 : Nat} (hW : topL W < k) (out : Option Sx × Nat) : ∀ (G n : Nat) (x : Sx), l.length - n ≤ G → n0 ≤ n → 7 * (l.length - n) + (6 - (k + 1)) < f → NxLt l (k + 1) n → out = rnY (leafY nb rsv) l ⟨x :: V, W, o, true⟩ n →
    ResY (leafY nb rsv) l k V W o n0 out (lop l (psr nb rsv l f (k + 1)) k G (x, n, -1))
  | 0, n, x, hG, h0, hf, hn, ho => by
    refine .inr (.inl ⟨rfl, h0, fun w hw => ?_, ho⟩)
    have := (List.getElem?_eq_some_iff.1 hw).1
    simp only [lop] at this
    omega
  | G + 1, n, x, hG, h0, hf, hn, ho => by
    by_cases hq : NxLt l k n
    · rw [lop_neq (fun w hw => Nat.ne_of_lt (hq w hw))]
      exact .inr (.inl ⟨rfl, h0, hq, ho⟩)
    · obtain ⟨w, hw⟩ := Classical.not_forall.1 hq
      obtain ⟨hw1, hw2⟩ := Classical.not_imp.1 hw
      have hle := hn w hw1
      have hkw : lv w.2 = k := by omega
      have hlt := (List.getElem?_eq_some_iff.1 hw1).1
      rw [lop]
      simp only [hw1]
      rw [if_pos ⟨by decide, hkw⟩]
      have hstep : out = rnY (leafY nb rsv) l ⟨x :: V, (w.2, k) :: W, o, false⟩ (n + 1) := by
        have hg := hl w (List.mem_of_getElem? hw1)
        have h3w : ¬ w.1 ≠ 3 := fun h => by have := (hg.2 h).1; omega
        rw [ho, rnB hw1 (stB_op h3w hkw hk (fun h => by
          have h2 := h.2
          rw [jn_skip (by show topL W < k + 1; omega)] at h2
          simp only at h2
          omega))]
        simp only [jn_skip (V := x :: V) hW]
      have ih := IH (k + 1) (n + 1) (x :: V) ((w.2, k) :: W) o (by omega) (by omega) (.inr (by show k < k + 1; omega)) (by omega)
      rw [← hstep] at ih
      obtain ⟨r, hr⟩ : ∃ r, psr nb rsv l f (k + 1) (n + 1) (-1) = r := ⟨_, rfl⟩
      obtain ⟨z, n', b'⟩ := r
      rw [hr] at ih ⊢
      rcases ih with ⟨m, e1, e2⟩ | ⟨e1, e2, e3, e4⟩ | ⟨e1, e2, e3, e4, e5⟩
      · simp only at e1 e2
        subst e1
        simp only [lop_bad, ite_self]
        exact .inl ⟨m, rfl, e2⟩
      · simp only at e1 e2 e3 e4
        subst e1
        by_cases h3 : k = 3
        · subst h3
          simp only [if_true]
          have hj : jn 3 (z :: x :: V) ((w.2, 3) :: W) = (mk2 ⟨w.2.toArray⟩ x z :: V, W) := by
            rw [jn, if_pos (Nat.le_refl _)]
            show jn 3 (jn1 (z :: x :: V) (w.2, 3)) W = _
            unfold jn1
            rw [if_neg (by show ¬ 3 = 6; decide)]
            exact jn_skip hW
          by_cases hq2 : NxLt l 3 n'
          · refine .inr (.inl ⟨rfl, by show n0 ≤ n'; omega, hq2, ?_⟩)
            rw [e4, run_jn (by omega) hq2, hj]
          · obtain ⟨w', hw'⟩ := Classical.not_forall.1 hq2
            obtain ⟨hv1, hv2⟩ := Classical.not_imp.1 hw'
            have hle' := e3 w' hv1
            have hkw' : lv w'.2 = 3 := by omega
            refine .inr (.inr ⟨rfl, by show n0 ≤ n'; omega, by omega, ⟨w', hv1, hkw'⟩, ?_⟩)
            have hs : jn 4 (z :: x :: V) ((w.2, 3) :: W) = (z :: x :: V, (w.2, 3) :: W) := jn_skip (by show 3 < 4; omega)
            have := stop_jn (k := 3) (by omega) (z :: x :: V) ((w.2, 3) :: W) o true n'
            rw [hj] at this
            simp only at this ⊢
            rw [this, e4]
            by_cases h3' : w'.1 ≠ 3
            · rw [rnB_no hv1 (stB_kind h3')]
            rw [rnB_no hv1 (stB_two h3' hkw' (by show topL (jn 4 (z :: x :: V) ((w.2, 3) :: W)).2 = 3; rw [hs]; rfl))]
            simp only [hs]
        · rw [if_neg h3]
          exact loop_any hl IH hk hk5 hW out G n' (mk2 ⟨w.2.toArray⟩ x z) (by omega) (by omega) (by omega) e3 (by rw [e4]; exact run_chain hk h3 hk5 hW e3)
      · simp only at e1 e2 e3 e4 e5
        subst e1
        obtain ⟨w', hv1, hv2⟩ := e4
        have hj : jn k (z :: x :: V) ((w.2, k) :: W) = (mk2 ⟨w.2.toArray⟩ x z :: V, W) := by
          rw [jn, if_pos (Nat.le_refl _)]
          show jn k (jn1 (z :: x :: V) (w.2, k)) W = _
          unfold jn1
          rw [if_neg (by show ¬ k = 6; omega)]
          exact jn_skip hW
        rw [if_neg (by omega), lop_neq (fun u hu => by rw [hv1] at hu; injection hu with hu; subst hu; omega)]
        refine .inr (.inr ⟨rfl, by show n0 ≤ n'; omega, by omega, ⟨w', hv1, hv2⟩, ?_⟩)
        rw [e5, ← stop_jn hk, hj]
theorem psr6_end {f n : Nat} (h : l[n]? = none) : psr nb rsv l (f + 1) 6 n (-1) = (noX, n, (n : Int)) := by
  rw [psr, if_pos rfl, if_neg (by decide), h]; rfl
theorem psr6_un {f n : Nat} {w : Tk} (h : l[n]? = some w) (hu : w.2 = [33] ∨ w.2 = [45]) : psr nb rsv l (f + 1) 6 n (-1) = (mk1 (if w.2 = [45] then 4 else 3) (psr nb rsv l f 6 (n + 1) (-1)).1, (psr nb rsv l f 6 (n + 1) (-1)).2) := by
  rw [psr, if_pos rfl, if_neg (by decide), h]
  simp only
  rw [if_pos hu]
theorem psr6_par {f n : Nat} {w : Tk} (h : l[n]? = some w) (hu : w.2 = [40]) : psr nb rsv l (f + 1) 6 n (-1) = if isT l [41] (psr nb rsv l f 1 (n + 1) (-1)).2.1 (psr nb rsv l f 1 (n + 1) (-1)).2.2 = true then ((psr nb rsv l f 1 (n + 1) (-1)).1, (psr nb rsv l f 1 (n + 1) (-1)).2.1 + 1, (psr nb rsv l f 1 (n + 1) (-1)).2.2) else failR (psr nb rsv l f 1 (n + 1) (-1)).2.1 (psr nb rsv l f 1 (n + 1) (-1)).2.2 := by
  rw [psr, if_pos rfl, if_neg (by decide), h]
  simp only
  rw [if_neg (by rw [hu]; decide), if_pos hu]
theorem psr6_leaf {f n : Nat} {w : Tk} (h : l[n]? = some w) (h1 : ¬ (w.2 = [33] ∨ w.2 = [45])) (h2 : ¬ w.2 = [40]) : psr nb rsv l (f + 1) 6 n (-1) = match leafY nb rsv w with | some x => (x, n + 1, -1) | none => (noX, n, (n : Int)) := by
  rw [psr, if_pos rfl, if_neg (by decide), h]
  simp only
  rw [if_neg h1, if_neg h2]
  unfold leafY
  by_cases h3 : w.1 = 2
  · rw [if_pos h3, if_pos h3]
  rw [if_neg h3, if_neg h3]
  by_cases h4 : w.1 = 1 ∧ rsv w.2 = false
  · rw [if_pos h4, if_pos h4]
  · rw [if_neg h4, if_neg h4]; rfl
theorem rnA {leaf : Tk → Option Sx} {V : List Sx} {W : List Sg2} {o n : Nat} {w : Tk} {y' : Yd} (h : l[n]? = some w) (hs : stA leaf ⟨V, W, o, false⟩ w = (y', true)) : rnY leaf l ⟨V, W, o, false⟩ n = rnY leaf l y' (n + 1) := by
  rw [rnY_some h, show stp leaf ⟨V, W, o, false⟩ w = (y', true) from hs, if_pos rfl]
theorem rnA_no {leaf : Tk → Option Sx} {V : List Sx} {W : List Sg2} {o n : Nat} {w : Tk} {y' : Yd} (h : l[n]? = some w) (hs : stA leaf ⟨V, W, o, false⟩ w = (y', false)) : rnY leaf l ⟨V, W, o, false⟩ n = stopY y' n := by
  rw [rnY_some h, show stp leaf ⟨V, W, o, false⟩ w = (y', false) from hs, if_neg Bool.false_ne_true]
theorem lev_step (hl : ∀ w ∈ l, GdW1 w) (f : Nat) (IH : LevC nb rsv l f) : LevC nb rsv l (f + 1) := by
  intro k n V W o hk hk6 hW hf
  by_cases h6 : k = 6
  · subst h6
    cases hw : l[n]? with
    | none =>
      rw [psr6_end hw, rnY_none hw]
      exact .inl ⟨n, rfl, rfl⟩
    | some w =>
      obtain ⟨hlt, _⟩ := List.getElem?_eq_some_iff.1 hw
      have hg := hl w (List.mem_of_getElem? hw)
      have hn6 : ∀ m, NxLt l 6 m := fun m u hu => by have := lv_le u.2; omega
      by_cases hu : w.2 = [33] ∨ w.2 = [45]
      · have h3 : ¬ w.1 ≠ 3 := fun h => hu.elim (hg.2 h).2.1 (hg.2 h).2.2.1
        have h40 : ¬ w.2 = [40] := by rcases hu with h | h <;> rw [h] <;> decide
        rw [psr6_un hw hu, rnA hw (y' := ⟨V, (w.2, 6) :: W, o, false⟩) (by unfold stA; rw [if_neg h3, if_neg h40, if_pos hu])]
        have ih := IH 6 (n + 1) V ((w.2, 6) :: W) o (by omega) (by omega) (.inl rfl) (by omega)
        obtain ⟨r, hr⟩ : ∃ r, psr nb rsv l f 6 (n + 1) (-1) = r := ⟨_, rfl⟩
        obtain ⟨z, n', b'⟩ := r
        rw [hr] at ih ⊢
        rcases ih with ⟨m, e1, e2⟩ | ⟨e1, e2, e3, e4⟩ | ⟨e1, e2, e3, e4, e5⟩
        · exact .inl ⟨m, e1, e2⟩
        · refine .inr (.inl ⟨e1, Nat.le_trans (Nat.le_succ n) e2, hn6 _, ?_⟩)
          have hk1 : (if w.2 = [33] then (3 : Int) else 4) = if w.2 = [45] then 4 else 3 := by
            rcases hu with h | h <;> rw [h] <;> decide
          rw [e4, run_jn (k := 6) (by omega) e3]
          simp only
          rw [jn, if_pos (Nat.le_refl _)]
          show rnY _ l ⟨(jn 6 (mk1 (if w.2 = [33] then 3 else 4) z :: V) W).1, (jn 6 (mk1 (if w.2 = [33] then 3 else 4) z :: V) W).2, o, true⟩ n' = _
          rw [hk1, ← run_jn (k := 6) (by omega) e3]
        · omega
      · by_cases h40 : w.2 = [40]
        · have h3 : ¬ w.1 ≠ 3 := fun h => (hg.2 h).2.2.2.1 h40
          rw [psr6_par hw h40, rnA hw (y' := ⟨V, (w.2, 0) :: W, o + 1, false⟩) (by unfold stA; rw [if_neg h3, if_pos h40])]
          have ih := IH 1 (n + 1) V ((w.2, 0) :: W) (o + 1) (by omega) (by omega) (.inr (by show 0 < 1; omega)) (by omega)
          obtain ⟨r, hr⟩ : ∃ r, psr nb rsv l f 1 (n + 1) (-1) = r := ⟨_, rfl⟩
          obtain ⟨z, n', b'⟩ := r
          rw [hr] at ih ⊢
          rcases ih with ⟨m, e1, e2⟩ | ⟨e1, e2, e3, e4⟩ | ⟨e1, e2, e3, e4, e5⟩
          · simp only at e1 e2
            subst e1
            have hno : ¬ isT l [41] n' (m : Int) = true := by unfold isT; simp only [Bool.and_eq_true, decide_eq_true_eq]; omega
            rw [if_neg hno]
            refine .inl ⟨m, ?_, e2⟩
            show (if (m : Int) < 0 then (n' : Int) else (m : Int)) = _
            rw [if_neg (by omega)]
          · simp only at e1 e2 e3 e4
            subst e1
            cases hw' : l[n']? with
            | none =>
              have hno : ¬ isT l [41] n' (-1) = true := by unfold isT; simp only [hw']; simp
              rw [if_neg hno]
              refine .inl ⟨n', rfl, ?_⟩
              rw [e4, rnY_none hw']
              unfold stopY
              rw [if_neg (fun h => by have := h.2; simp only at this; omega)]
            | some w' =>
              have hlv := e3 w' hw'
              have hg' := hl w' (List.mem_of_getElem? hw')
              by_cases h41 : w'.2 = [41]
              · have hk3 : ¬ w'.1 ≠ 3 := fun h => (hg'.2 h).2.2.2.2 h41
                have hyes : isT l [41] n' (-1) = true := by unfold isT; simp only [hw', h41]; decide
                rw [if_pos hyes]
                refine .inr (.inl ⟨rfl, by show n ≤ n' + 1; omega, hn6 _, ?_⟩)
                rw [e4, rnB hw' (stB_shut hk3 h41 (by show ¬ o + 1 = 0; omega))]
                simp only [jn_skip (k := 1) (V := z :: V) (W := (w.2, 0) :: W) (by show 0 < 1; omega), List.tail_cons, Nat.add_sub_cancel]
              · have hno : ¬ isT l [41] n' (-1) = true := by unfold isT; simp only [hw', h41]; simp
                rw [if_neg hno]
                refine .inl ⟨n', rfl, ?_⟩
                have key : ∀ y : Yd, y.o = o + 1 → stopY y n' = (none, n') := fun y hy => by
                  unfold stopY
                  rw [if_neg (fun h => by have := h.2; omega)]
                rw [e4]
                by_cases hk3 : w'.1 ≠ 3
                · rw [rnB_no hw' (stB_kind hk3)]; exact key _ rfl
                · rw [rnB_no hw' (stB_none hk3 h41 (by omega))]; exact key _ rfl
          · simp only at e1 e2 e3 e4 e5
            subst e1
            obtain ⟨w', hv1, hv2⟩ := e4
            have h41 : ¬ w'.2 = [41] := fun e => by rw [e] at hv2; revert hv2; decide
            have hno : ¬ isT l [41] n' (-1) = true := by unfold isT; simp only [hv1, h41]; simp
            rw [if_neg hno]
            refine .inl ⟨n', rfl, ?_⟩
            rw [e5]
            unfold stopY
            rw [if_neg (fun h => by have := h.2; simp only at this; omega)]
        · rw [psr6_leaf hw hu h40]
          have hst : stA (leafY nb rsv) ⟨V, W, o, false⟩ w = match leafY nb rsv w with | some x => (⟨x :: V, W, o, true⟩, true) | none => (⟨V, W, o, false⟩, false) := by
            unfold stA
            by_cases h3 : w.1 = 3
            · rw [if_neg (by omega), if_neg h40, if_neg hu]
              unfold leafY
              rw [if_neg (by omega), if_neg (fun h => by omega)]
            · rw [if_pos h3]
          cases hlf : leafY nb rsv w with
          | some x =>
            rw [hlf] at hst
            rw [rnA hw hst]
            exact .inr (.inl ⟨rfl, Nat.le_succ n, hn6 _, rfl⟩)
          | none =>
            rw [hlf] at hst
            rw [rnA_no hw hst]
            exact .inl ⟨n, rfl, rfl⟩
  · have hk5 : k ≤ 5 := by omega
    have hWk : topL W < k := hW.resolve_left h6
    rw [psr, if_neg h6]
    have ih := IH (k + 1) n V W o (by omega) (by omega) (.inr (by omega)) (by omega)
    obtain ⟨r, hr⟩ : ∃ r, psr nb rsv l f (k + 1) n (-1) = r := ⟨_, rfl⟩
    obtain ⟨z, n', b'⟩ := r
    rw [hr] at ih ⊢
    rcases ih with ⟨m, e1, e2⟩ | ⟨e1, e2, e3, e4⟩ | ⟨e1, e2, e3, e4, e5⟩
    · simp only at e1 e2
      subst e1
      rw [lop_bad]
      exact .inl ⟨m, rfl, e2⟩
    · simp only at e1 e2 e3 e4
      subst e1
      exact loop_any hl IH hk hk5 hWk _ l.length n' z (by omega) e2 (by omega) e3 e4
    · simp only at e1 e2 e3 e4 e5
      subst e1
      obtain ⟨w', hv1, hv2⟩ := e4
      rw [lop_neq (fun u hu => by rw [hv1] at hu; injection hu with hu; subst hu; omega)]
      exact .inr (.inr ⟨rfl, e2, by omega, ⟨w', hv1, hv2⟩, e5⟩)
theorem lev_any (hl : ∀ w ∈ l, GdW1 w) : ∀ f, LevC nb rsv l f
  | 0 => fun k n V W o _ _ _ hf => absurd hf (Nat.not_lt_zero _)
  | f + 1 => lev_step hl f (lev_any hl f)
/-- Read with two stacks, and by levels: the same. -/
theorem yard_psr (hl : ∀ w ∈ l, GdW1 w) {f : Nat} (hf : 7 * l.length + 5 < f) : rnY (leafY nb rsv) l ⟨[], [], 0, false⟩ 0 = if (psr nb rsv l f 1 0 (-1)).2.2 < 0 then (some (psr nb rsv l f 1 0 (-1)).1, (psr nb rsv l f 1 0 (-1)).2.1) else (none, (psr nb rsv l f 1 0 (-1)).2.2.toNat) := by
  have h := lev_any (nb := nb) (rsv := rsv) hl f 1 0 [] [] 0 (by omega) (by omega) (.inr (by show 0 < 1; omega)) (by omega)
  obtain ⟨r, hr⟩ : ∃ r, psr nb rsv l f 1 0 (-1) = r := ⟨_, rfl⟩
  obtain ⟨z, n', b'⟩ := r
  rw [hr] at h ⊢
  rcases h with ⟨m, e1, e2⟩ | ⟨e1, e2, e3, e4⟩ | ⟨e1, e2, e3, e4, e5⟩
  · simp only at e1 e2 ⊢
    subst e1
    rw [e2, if_neg (by omega)]; simp
  · simp only at e1 e2 e3 e4 ⊢
    subst e1
    rw [e4, if_pos (by decide)]
    have key : stopY ⟨[z], [], 0, true⟩ n' = (some z, n') := rfl
    cases hw' : l[n']? with
    | none => rw [rnY_none hw', key]
    | some w' =>
      have hlv := e3 w' hw'
      by_cases hk3 : w'.1 ≠ 3
      · rw [rnB_no hw' (stB_kind hk3)]; exact key
      by_cases h41 : w'.2 = [41]
      · rw [rnB_no hw' (stB_shut0 hk3 h41 rfl)]; exact key
      · rw [rnB_no hw' (stB_none hk3 h41 (by omega))]; exact key
  · simp only at e1 e2 e3 e4 e5 ⊢
    subst e1
    rw [e5, if_pos (by decide)]; rfl
end
end Go.Proofs.YtccmmkhcacglhaaGreatDoor

/- The words of a printed expression's text. Math alone. -/
namespace Go.Proofs.YtccmmkhcacglhaaGreatDoor
open Go.RowKit Go.Lib
set_option linter.unusedSimpArgs false
set_option linter.unusedVariables false

/-- What stands behind: nothing, a blank or a bracket. -/
def Post (post : List UInt8) : Prop := post = [] ∨ ∃ c r, post = c :: r ∧ (c = 32 ∨ c = 41 ∨ c = 10)
theorem Post.fst {a post : List UInt8} (ha : a ≠ []) (h : Post post) : runes (a ++ post) = runes a ++ runes post ∧ fst1 (runes a ++ runes post) = fst1 (runes a) := by
  rcases h with rfl | ⟨c, r, rfl, hc⟩
  · rw [List.append_nil, runes_nil, List.append_nil]; exact ⟨rfl, rfl⟩
  · have hc8 : c.toNat < 128 := by rcases hc with rfl | rfl | rfl <;> decide
    have hr := runes_stop a.length a (Nat.le_refl _) hc8 r
    have hne : runes a ≠ [] := by rw [runes_cons ha]; simp
    refine ⟨hr, ?_⟩
    rw [runes_ascii hc8]
    refine fst1_stop ?_ _ _ hne
    rcases hc with rfl | rfl | rfl
    · exact ⟨by decide, by decide, by decide, by decide⟩
    · exact ⟨by decide, by decide, by decide, by decide⟩
    · exact ⟨by decide, by decide, by decide, by decide⟩
/-- The nine operators. -/
def opB (s : List UInt8) : Prop := s = [43] ∨ s = [45] ∨ s = [42] ∨ s = [60] ∨ s = [60, 61] ∨ s = [61, 61] ∨ s = [33, 61] ∨ s = [38, 38] ∨ s = [124, 124]
/-- Its names are names, its digits numbers, its operators operators. -/
def rtF (dc : Int → List UInt8) (k n : Int) (s : ByteArray) (p : List Prop) : Prop := (k = 1 → numB (dc n) = true) ∧ (k = 2 → nameS s.data.toList = true) ∧ (k = 5 → opB s.data.toList) ∧ (1 ≤ k ∧ k ≤ 5) ∧ ∀ q ∈ p, q
def rtT (dc : Int → List UInt8) : (d : Nat) → T d → Prop := fold (rtF dc)
end Go.Proofs.YtccmmkhcacglhaaGreatDoor

/- Numbers' digits. Math alone. -/
namespace Go.Proofs.YtccmmkhcacglhaaGreatDoor
open Go.RowKit Go.Lib
set_option linter.unusedSimpArgs false
set_option linter.unusedVariables false

theorem valB_app : ∀ (a b : List UInt8) (n : Int), valB n (a ++ b) = valB (valB n a) b
  | [], b, n => rfl
  | c :: a, b, n => valB_app a b _
theorem dd_small {u : Nat} (h : u < 10) : decDigits u = [UInt8.ofNat (48 + u)] := by
  rw [decDigits]
  simp [h]
theorem dd_more {u : Nat} (h : ¬ u < 10) : decDigits u = decDigits (u / 10) ++ [UInt8.ofNat (48 + u % 10)] := by
  rw [decDigits]
  simp [h]
theorem dg_nat {u : Nat} (h : u < 10) : (UInt8.ofNat (48 + u)).toNat = 48 + u := by
  rw [UInt8.toNat_ofNat']
  omega
theorem dd_val : ∀ (n u : Nat), u ≤ n → valB 0 (decDigits u) = (u : Int)
  | n, u, h => by
    by_cases hu : u < 10
    · rw [dd_small hu]
      show 10 * 0 + (((UInt8.ofNat (48 + u)).toNat : Int) - 48) = (u : Int)
      rw [dg_nat hu]; omega
    · match n with
      | 0 => omega
      | n + 1 =>
        have ih := dd_val n (u / 10) (by omega)
        rw [dd_more hu, valB_app, ih]
        show 10 * ((u / 10 : Nat) : Int) + (((UInt8.ofNat (48 + u % 10)).toNat : Int) - 48) = (u : Int)
        rw [dg_nat (Nat.mod_lt u (by decide))]
        omega
theorem dd_all : ∀ (n u : Nat), u ≤ n → (decDigits u).all dB = true
  | n, u, h => by
    have h1 : ∀ v, v < 10 → dB (UInt8.ofNat (48 + v)) = true := fun v hv => by
      unfold dB; rw [dg_nat hv, decide_eq_true_eq]; omega
    by_cases hu : u < 10
    · rw [dd_small hu]
      show (dB (UInt8.ofNat (48 + u)) && true) = true
      rw [h1 u hu]; rfl
    · match n with
      | 0 => omega
      | n + 1 =>
        rw [dd_more hu, List.all_append, dd_all n (u / 10) (by omega)]
        show (true && (dB (UInt8.ofNat (48 + u % 10)) && true)) = true
        rw [h1 (u % 10) (Nat.mod_lt u (by decide))]; rfl
theorem dd_head : ∀ (n u : Nat), u ≤ n → 1 ≤ u → ((decDigits u).headD 0).toNat ≠ 48
  | n, u, h, h1 => by
    by_cases hu : u < 10
    · rw [dd_small hu]
      show (UInt8.ofNat (48 + u)).toNat ≠ 48
      rw [dg_nat hu]; omega
    · match n with
      | 0 => omega
      | n + 1 =>
        have ih := dd_head n (u / 10) (by omega) (by omega)
        rw [dd_more hu]
        cases hq : decDigits (u / 10) with
        | nil =>
          have := decDigits_length (u / 10)
          have h2 := nDigits_pos (u / 10)
          rw [hq] at this
          simp at this
          omega
        | cons c r => rw [hq] at ih; exact ih
theorem nd_le : ∀ (k u : Nat), 1 ≤ k → u < 10 ^ k → nDigits u ≤ k
  | 0, _, h, _ => by omega
  | 1, u, _, h => by rw [nDigits_small (by simpa using h)]; exact Nat.le_refl _
  | k + 2, u, _, h => by
    by_cases hu : u < 10
    · rw [nDigits_small hu]; omega
    · rw [nDigits_big hu]
      have : u / 10 < 10 ^ (k + 1) := by rw [Nat.pow_succ] at h; omega
      have := nd_le (k + 1) (u / 10) (by omega) this
      omega
/-- The digits of a number in range are a number's. -/
theorem dd_num {u : Nat} (h : u ≤ 1000000000) : numB (decDigits u) = true := by
  have hl := decDigits_length u
  have h1 := nDigits_pos u
  have h2 := nd_le 10 u (by decide) (by omega)
  unfold numB
  rw [dd_all u u (Nat.le_refl _), dd_val u u (Nat.le_refl _), decide_eq_true (by omega : 1 ≤ (decDigits u).length ∧ (decDigits u).length ≤ 10), decide_eq_true (by omega : (u : Int) ≤ 1000000000)]
  by_cases hu : u < 10
  · rw [dd_small hu]; simp
  · rw [decide_eq_false (dd_head u u (Nat.le_refl _) (by omega))]; rfl
end Go.Proofs.YtccmmkhcacglhaaGreatDoor

/- A formed expression without reserved names can be printed, and is read as it was. Math alone. -/
namespace Go.Proofs.YtccmmkhcacglhaaGreatDoor
open Go.RowKit Go.Lib
set_option linter.unusedSimpArgs false
set_option linter.unusedVariables false

/-- The reserved words. -/
def rsv13 : List (List UInt8) := [[99, 104, 97, 114, 116], [118, 97, 114], [115, 116, 97, 116, 101], [97, 108, 108], [101, 110, 100], [100, 111], [117, 110, 100, 111], [97, 116], [114, 101, 116, 114, 105, 101, 115], [111, 110], [105, 102], [103, 111], [115, 101, 116]]
def rsvB (s : List UInt8) : Bool := rsv13.any (fun x => s == x)
/-- No Ref's name is reserved. -/
def plC : (d : Nat) → T d → Bool := fold (fun k _ s l => !(decide (k = 2) && rsvB s.data.toList) && l.all id)
theorem plC_mk {d : Nat} (k n : Int) (s : ByteArray) (ps : List (T d)) : plC (d + 1) (mkT k n s ps) = (!(decide (k = 2) && rsvB s.data.toList) && ps.all (plC d)) := by
  show (!(decide (k = 2) && rsvB s.data.toList) && (ps.map (plC d)).all id) = _
  rw [List.all_map]; rfl
/-- A number's digits. -/
def dcN (n : Int) : List UInt8 := decDigits n.toNat
theorem opr_opB {s : ByteArray} (h : opr s = true) : opB s.data.toList := by
  unfold opr ops9 at h
  simp only [List.any_cons, List.any_nil, Bool.or_false, Bool.or_eq_true, beq_iff_eq] at h
  exact h
theorem opB_lv {s : List UInt8} (h : opB s) : 1 ≤ lv s := by
  rcases h with rfl | rfl | rfl | rfl | rfl | rfl | rfl | rfl | rfl <;> decide
theorem lv_opB {s : List UInt8} (h : lv s ≠ 0) : opB s := by
  unfold lv at h
  unfold opB
  by_cases a : s = [124, 124]
  · simp [a]
  rw [if_neg a] at h
  by_cases b : s = [38, 38]
  · simp [b]
  rw [if_neg b] at h
  by_cases c : s = [60] ∨ s = [60, 61] ∨ s = [61, 61] ∨ s = [33, 61]
  · rcases c with c | c | c | c <;> simp [c]
  rw [if_neg c] at h
  by_cases e : s = [43] ∨ s = [45]
  · rcases e with e | e <;> simp [e]
  rw [if_neg e] at h
  by_cases g : s = [42]
  · simp [g]
  rw [if_neg g] at h
  exact absurd rfl h
theorem name_far {s : List UInt8} (h : nameS s = true) : lv s = 0 ∧ s ≠ [33] ∧ s ≠ [45] ∧ s ≠ [40] := by
  have key : ∀ c : UInt8, ∀ r : List UInt8, c.toNat < 128 → letter c.toNat = false → s ≠ c :: r := fun c r h8 hl e => by
    subst e
    unfold nameS at h
    simp only [Bool.and_eq_true] at h
    have h1 := h.1.1
    rw [nx_ascii h8, hl] at h1
    cases h1
  refine ⟨?_, key 33 [] (by decide) (by decide), key 45 [] (by decide) (by decide), key 40 [] (by decide) (by decide)⟩
  refine Classical.byContradiction (fun hl => ?_)
  rcases lv_opB hl with e | e | e | e | e | e | e | e | e
  · exact key 43 [] (by decide) (by decide) e
  · exact key 45 [] (by decide) (by decide) e
  · exact key 42 [] (by decide) (by decide) e
  · exact key 60 [] (by decide) (by decide) e
  · exact key 60 [61] (by decide) (by decide) e
  · exact key 61 [61] (by decide) (by decide) e
  · exact key 33 [61] (by decide) (by decide) e
  · exact key 38 [38] (by decide) (by decide) e
  · exact key 124 [124] (by decide) (by decide) e
theorem num_far {s : List UInt8} (h : numB s = true) : lv s = 0 ∧ s ≠ [33] ∧ s ≠ [45] ∧ s ≠ [40] := by
  have key : ∀ c : UInt8, ∀ r : List UInt8, dB c = false → s ≠ c :: r := fun c r hl e => by
    subst e
    unfold numB at h
    simp only [Bool.and_eq_true, List.all_cons] at h
    have h1 := h.1.2.1
    rw [hl] at h1
    cases h1
  refine ⟨?_, key 33 [] (by decide), key 45 [] (by decide), key 40 [] (by decide)⟩
  refine Classical.byContradiction (fun hl => ?_)
  rcases lv_opB hl with e | e | e | e | e | e | e | e | e
  · exact key 43 [] (by decide) e
  · exact key 45 [] (by decide) e
  · exact key 42 [] (by decide) e
  · exact key 60 [] (by decide) e
  · exact key 60 [61] (by decide) e
  · exact key 61 [61] (by decide) e
  · exact key 33 [61] (by decide) e
  · exact key 38 [38] (by decide) e
  · exact key 124 [124] (by decide) e
theorem okT_mk {nb : List UInt8 → Int} {rsv : List UInt8 → Bool} {dc : Int → List UInt8} {d : Nat} {k n : Int} {s : ByteArray} {ps : List (T d)} : okT nb rsv dc (d + 1) (mkT k n s ps) ↔ okF nb rsv dc k n s (ps.map (okT nb rsv dc d)) := Iff.rfl
theorem rtT_mk {dc : Int → List UInt8} {d : Nat} {k n : Int} {s : ByteArray} {ps : List (T d)} : rtT dc (d + 1) (mkT k n s ps) ↔ rtF dc k n s (ps.map (rtT dc d)) := Iff.rfl
/-- What is sound, without reserved names, has the words and the text that can be read. -/
theorem ok_sound : ∀ (d : Nat) (t : T d), Cl d t → sdC d t = true → plC d t = true → okT (valB 0) rsvB dcN d t ∧ rtT dcN d t
  | 0, t, _, _, _ => Empty.elim t
  | d + 1, t, hc, hs, hp => by
    rcases hc.cases with ⟨n, rfl⟩ | ⟨s, rfl⟩ | ⟨k, p, hk, rfl, hcp⟩ | ⟨s, p, q, rfl, hcp, hcq⟩ | rfl
    · rw [sdC_mk, if_pos rfl] at hs
      simp only [Bool.and_eq_true, decide_eq_true_eq] at hs
      have hn : numB (dcN n) = true := dd_num (by omega)
      obtain ⟨f1, f2, f3, f4⟩ := num_far hn
      have hv : valB 0 (dcN n) = n := by unfold dcN; rw [dd_val _ _ (Nat.le_refl _)]; omega
      exact ⟨okT_mk.2 ⟨fun _ => ⟨hv, f1, f2, f3, f4⟩, fun h => by simp at h, fun h => by simp at h, by decide, fun z hz => by cases hz⟩, rtT_mk.2 ⟨fun _ => hn, fun h => by simp at h, fun h => by simp at h, by decide, fun z hz => by cases hz⟩⟩
    · rw [sdC_mk, if_neg (by decide), if_pos rfl] at hs
      rw [plC_mk] at hp
      have hr : rsvB s.data.toList = false := by simpa using hp
      obtain ⟨f1, f2, f3, f4⟩ := name_far hs
      exact ⟨okT_mk.2 ⟨fun h => by simp at h, fun _ => ⟨hr, f1, f2, f3, f4⟩, fun h => by simp at h, by decide, fun z hz => by cases hz⟩, rtT_mk.2 ⟨fun h => by simp at h, fun _ => hs, fun h => by simp at h, by decide, fun z hz => by cases hz⟩⟩
    · have hsp : sdC d p = true := by
        rw [sdC_mk, if_neg (by omega), if_neg (by omega), if_pos hk] at hs
        simpa using hs
      have hpp : plC d p = true := by
        rw [plC_mk] at hp
        simp only [Bool.and_eq_true, List.all_cons, List.all_nil, Bool.and_true] at hp
        exact hp.2
      obtain ⟨a, b⟩ := ok_sound d p hcp hsp hpp
      refine ⟨okT_mk.2 ⟨fun h => by omega, fun h => by omega, fun h => by omega, by omega, fun z hz => ?_⟩, rtT_mk.2 ⟨fun h => by omega, fun h => by omega, fun h => by omega, by omega, fun z hz => ?_⟩⟩
      · obtain ⟨x, hx, rfl⟩ := List.mem_map.1 hz
        obtain rfl := List.mem_singleton.1 hx
        exact a
      · obtain ⟨x, hx, rfl⟩ := List.mem_map.1 hz
        obtain rfl := List.mem_singleton.1 hx
        exact b
    · have hs2 : opr s = true ∧ sdC d p = true ∧ sdC d q = true := by
        rw [sdC_mk, if_neg (by omega), if_neg (by omega), if_neg (by omega), if_pos rfl] at hs
        simpa using hs
      have hp2 : plC d p = true ∧ plC d q = true := by
        rw [plC_mk] at hp
        simpa using hp
      obtain ⟨a, b⟩ := ok_sound d p hcp hs2.2.1 hp2.1
      obtain ⟨a', b'⟩ := ok_sound d q hcq hs2.2.2 hp2.2
      have ho := opr_opB hs2.1
      refine ⟨okT_mk.2 ⟨fun h => by omega, fun h => by omega, fun _ => opB_lv ho, by omega, fun z hz => ?_⟩, rtT_mk.2 ⟨fun h => by omega, fun h => by omega, fun _ => ho, by omega, fun z hz => ?_⟩⟩
      · obtain ⟨x, hx, rfl⟩ := List.mem_map.1 hz
        rcases List.mem_cons.1 hx with rfl | hx
        · exact a
        · obtain rfl := List.mem_singleton.1 hx
          exact a'
      · obtain ⟨x, hx, rfl⟩ := List.mem_map.1 hz
        rcases List.mem_cons.1 hx with rfl | hx
        · exact b
        · obtain rfl := List.mem_singleton.1 hx
          exact b'
    · unfold none0 at hs
      rw [sdC_mk] at hs
      simp at hs
end Go.Proofs.YtccmmkhcacglhaaGreatDoor
