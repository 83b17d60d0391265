
/- Words read with two stacks: the same as by levels. Math alone. -/
import Derived.Test.YtdekboacjjpjeaaGdP
namespace Go.Proofs.Ytdekboacjjpjeaa
open Go.RowKit Go.Lib
set_option linter.unusedSimpArgs false
set_option linter.unusedVariables false

/-- A sign that waits: its bytes, and its level (0: a bracket, 6: ahead). -/
abbrev Sg2 := List UInt8 × Nat
/-- What came by now: the operands, the signs that wait (the last ones first), the brackets that are open, whether an operand has ended. -/
structure Yd where
  V : List Sx
  W : List Sg2
  o : Nat
  b : Bool
def topL (W : List Sg2) : Nat := match W with | [] => 0 | s :: _ => s.2
/-- What a sign makes of the last operands. -/
def jn1 (V : List Sx) (s : Sg2) : List Sx :=
  if s.2 = 6 then (match V with | x :: r => mk1 (if s.1 = [33] then 3 else 4) x :: r | r => r)
  else (match V with | x :: y :: r => mk2 ⟨s.1.toArray⟩ y x :: r | r => r)
def jn (k : Nat) : List Sx → List Sg2 → List Sx × List Sg2
  | V, [] => (V, [])
  | V, s :: W => if k ≤ s.2 then jn k (jn1 V s) W else (V, s :: W)
theorem jn_skip {k : Nat} {V : List Sx} {W : List Sg2} (h : topL W < k) : jn k V W = (V, W) := by
  cases W with
  | nil => rfl
  | cons s W => unfold jn; rw [if_neg (by simpa [topL] using h)]
theorem jn_jn {k k' : Nat} (h : k ≤ k') : ∀ (W : List Sg2) (V : List Sx), jn k (jn k' V W).1 (jn k' V W).2 = jn k V W
  | [], V => rfl
  | s :: W, V => by
    by_cases hs : k' ≤ s.2
    · rw [jn, if_pos hs, jn_jn h W, jn, if_pos (Nat.le_trans h hs)]
    · rw [jn, if_neg hs]
section
variable (leaf : Tk → Option Sx)
def stA (y : Yd) (w : Tk) : Yd × Bool :=
  if w.1 ≠ 3 then (match leaf w with | some x => (⟨x :: y.V, y.W, y.o, true⟩, true) | none => (y, false))
  else if w.2 = [40] then (⟨y.V, (w.2, 0) :: y.W, y.o + 1, y.b⟩, true)
  else if w.2 = [33] ∨ w.2 = [45] then (⟨y.V, (w.2, 6) :: y.W, y.o, y.b⟩, true)
  else (y, false)
def stB (y : Yd) (w : Tk) : Yd × Bool :=
  if w.1 ≠ 3 then (y, false)
  else if w.2 = [41] then (if y.o = 0 then (y, false) else (⟨(jn 1 y.V y.W).1, (jn 1 y.V y.W).2.tail, y.o - 1, y.b⟩, true))
  else if lv w.2 = 0 then (y, false)
  else if lv w.2 = 3 ∧ topL (jn (lv w.2 + 1) y.V y.W).2 = 3 then (⟨(jn (lv w.2 + 1) y.V y.W).1, (jn (lv w.2 + 1) y.V y.W).2, y.o, y.b⟩, false)
  else (⟨(jn (lv w.2) y.V y.W).1, (w.2, lv w.2) :: (jn (lv w.2) y.V y.W).2, y.o, false⟩, true)
def stp (y : Yd) (w : Tk) : Yd × Bool := if y.b = true then stB y w else stA leaf y w
/-- What is told where it stops. -/
def stopY (y : Yd) (n : Nat) : Option Sx × Nat := if y.b = true ∧ y.o = 0 then ((jn 1 y.V y.W).1.head?, n) else (none, n)
def runY : Yd → List Tk → Nat → Option Sx × Nat
  | y, [], n => stopY y n
  | y, w :: r, n => if (stp leaf y w).2 = true then runY (stp leaf y w).1 r (n + 1) else stopY (stp leaf y w).1 n
/-- From a place on. -/
def rnY (l : List Tk) (y : Yd) (n : Nat) : Option Sx × Nat := runY leaf y (l.drop n) n
end
section
variable {leaf : Tk → Option Sx} {l : List Tk}
theorem rnY_none {y : Yd} {n : Nat} (h : l[n]? = none) : rnY leaf l y n = stopY y n := by
  unfold rnY
  rw [List.drop_eq_nil_iff.2 (List.getElem?_eq_none_iff.1 h)]; rfl
theorem rnY_some {y : Yd} {n : Nat} {w : Tk} (h : l[n]? = some w) : rnY leaf l y n = if (stp leaf y w).2 = true then rnY leaf l (stp leaf y w).1 (n + 1) else stopY (stp leaf y w).1 n := by
  obtain ⟨hl, hw⟩ := List.getElem?_eq_some_iff.1 h
  unfold rnY
  rw [List.drop_eq_getElem_cons hl, hw]; rfl
theorem rnB {V : List Sx} {W : List Sg2} {o n : Nat} {w : Tk} {y' : Yd} (h : l[n]? = some w) (hs : stB ⟨V, W, o, true⟩ w = (y', true)) : rnY leaf l ⟨V, W, o, true⟩ n = rnY leaf l y' (n + 1) := by
  rw [rnY_some h, show stp leaf ⟨V, W, o, true⟩ w = (y', true) from hs, if_pos rfl]
theorem rnB_no {V : List Sx} {W : List Sg2} {o n : Nat} {w : Tk} {y' : Yd} (h : l[n]? = some w) (hs : stB ⟨V, W, o, true⟩ w = (y', false)) : rnY leaf l ⟨V, W, o, true⟩ n = stopY y' n := by
  rw [rnY_some h, show stp leaf ⟨V, W, o, true⟩ w = (y', false) from hs, if_neg Bool.false_ne_true]
theorem stB_kind {y : Yd} {w : Tk} (h : w.1 ≠ 3) : stB y w = (y, false) := by unfold stB; rw [if_pos h]
theorem stB_shut0 {y : Yd} {w : Tk} (h : ¬ w.1 ≠ 3) (h4 : w.2 = [41]) (ho : y.o = 0) : stB y w = (y, false) := by unfold stB; rw [if_neg h, if_pos h4, if_pos ho]
theorem stB_shut {y : Yd} {w : Tk} (h : ¬ w.1 ≠ 3) (h4 : w.2 = [41]) (ho : ¬ y.o = 0) : stB y w = (⟨(jn 1 y.V y.W).1, (jn 1 y.V y.W).2.tail, y.o - 1, y.b⟩, true) := by unfold stB; rw [if_neg h, if_pos h4, if_neg ho]
theorem stB_none {y : Yd} {w : Tk} (h : ¬ w.1 ≠ 3) (h4 : ¬ w.2 = [41]) (hl : lv w.2 = 0) : stB y w = (y, false) := by unfold stB; rw [if_neg h, if_neg h4, if_pos hl]
theorem not41 {s : List UInt8} (h : lv s ≠ 0) : ¬ s = [41] := fun e => by
  rw [e] at h
  exact h (by decide)
theorem stB_two {y : Yd} {w : Tk} (h : ¬ w.1 ≠ 3) (hl : lv w.2 = 3) (ht : topL (jn 4 y.V y.W).2 = 3) : stB y w = (⟨(jn 4 y.V y.W).1, (jn 4 y.V y.W).2, y.o, y.b⟩, false) := by
  unfold stB
  rw [if_neg h, if_neg (not41 (by omega)), if_neg (by omega), hl, if_pos ⟨rfl, ht⟩]
theorem stB_op {y : Yd} {w : Tk} {k : Nat} (h : ¬ w.1 ≠ 3) (hl : lv w.2 = k) (hk : 1 ≤ k) (ht : ¬ (k = 3 ∧ topL (jn (k + 1) y.V y.W).2 = 3)) : stB y w = (⟨(jn k y.V y.W).1, (w.2, k) :: (jn k y.V y.W).2, y.o, false⟩, true) := by
  unfold stB
  rw [if_neg h, if_neg (not41 (by omega)), if_neg (by omega), hl, if_neg ht]
theorem stop_jn {k : Nat} (hk : 1 ≤ k) (V : List Sx) (W : List Sg2) (o : Nat) (b : Bool) (n : Nat) : stopY ⟨(jn k V W).1, (jn k V W).2, o, b⟩ n = stopY ⟨V, W, o, b⟩ n := by
  unfold stopY
  simp only [jn_jn hk]
/-- What follows binds less than k. -/
def NxLt (l : List Tk) (k n : Nat) : Prop := ∀ w, l[n]? = some w → lv w.2 < k
/-- Joined or not is nothing to what follows. -/
theorem run_jn {k : Nat} (hk : 1 ≤ k) {V : List Sx} {W : List Sg2} {o n : Nat} (hn : NxLt l k n) : rnY leaf l ⟨V, W, o, true⟩ n = rnY leaf l ⟨(jn k V W).1, (jn k V W).2, o, true⟩ n := by
  cases hw : l[n]? with
  | none => rw [rnY_none hw, rnY_none hw, stop_jn hk]
  | some w =>
    have hlt := hn w hw
    by_cases h3 : w.1 ≠ 3
    · rw [rnB_no hw (stB_kind h3), rnB_no hw (stB_kind h3), stop_jn hk]
    by_cases h4 : w.2 = [41]
    · by_cases ho : o = 0
      · rw [rnB_no hw (stB_shut0 h3 h4 ho), rnB_no hw (stB_shut0 h3 h4 ho), stop_jn hk]
      · rw [rnB hw (stB_shut h3 h4 ho), rnB hw (stB_shut h3 h4 ho)]
        simp only [jn_jn hk]
    by_cases h0 : lv w.2 = 0
    · rw [rnB_no hw (stB_none h3 h4 h0), rnB_no hw (stB_none h3 h4 h0), stop_jn hk]
    have hjj := jn_jn (k := lv w.2 + 1) (k' := k) (by omega) W V
    by_cases ht : lv w.2 = 3 ∧ topL (jn (lv w.2 + 1) V W).2 = 3
    · obtain ⟨ht1, ht2⟩ := ht
      rw [ht1] at ht2 hjj
      rw [rnB_no hw (stB_two h3 ht1 ht2), rnB_no hw (stB_two h3 ht1 (by rw [hjj]; exact ht2))]
      simp only [hjj]
    · rw [rnB hw (stB_op h3 rfl (by omega) ht), rnB hw (stB_op h3 rfl (by omega) (by rw [hjj]; exact ht))]
      simp only [jn_jn (k := lv w.2) (k' := k) (by omega)]
/-- A sign that waits at level k, and its right operand; an operator of level k follows. -/
theorem run_chain {k : Nat} (hk : 1 ≤ k) (h3 : k ≠ 3) (hk6 : k ≤ 5) {x z : Sx} {V : List Sx} {W : List Sg2} {t : List UInt8} {o n : Nat} (hW : topL W < k) (hn : NxLt l (k + 1) n) :
    rnY leaf l ⟨z :: x :: V, (t, k) :: W, o, true⟩ n = rnY leaf l ⟨mk2 ⟨t.toArray⟩ x z :: V, W, o, true⟩ n := by
  have hj : jn k (z :: x :: V) ((t, k) :: W) = (mk2 ⟨t.toArray⟩ x z :: V, W) := by
    rw [jn, if_pos (Nat.le_refl _)]
    show jn k (jn1 (z :: x :: V) (t, k)) W = _
    unfold jn1
    rw [if_neg (by show ¬ k = 6; omega)]
    exact jn_skip hW
  by_cases hlt : NxLt l k n
  · rw [run_jn hk hlt, hj]
  · obtain ⟨w, hw⟩ := Classical.not_forall.1 hlt
    obtain ⟨hw1, hw2⟩ := Classical.not_imp.1 hw
    have hle := hn w hw1
    have hk' : lv w.2 = k := by omega
    by_cases h3' : w.1 ≠ 3
    · rw [rnB_no hw1 (stB_kind h3'), rnB_no hw1 (stB_kind h3')]
      have := stop_jn (k := k) hk (z :: x :: V) ((t, k) :: W) o true n
      rw [hj] at this
      exact this.symm
    rw [rnB hw1 (stB_op h3' hk' hk (fun h => h3 h.1)), rnB hw1 (stB_op h3' hk' hk (fun h => h3 h.1))]
    simp only [hj, jn_skip hW]
end
section
variable {nb : List UInt8 → Int} {rsv : List UInt8 → Bool} {l : List Tk}
/-- The expression that a word alone is. -/
def leafY (nb : List UInt8 → Int) (rsv : List UInt8 → Bool) (w : Tk) : Option Sx :=
  if w.1 = 2 then some (mk0 1 (nb w.2) ⟨#[]⟩) else if w.1 = 1 ∧ rsv w.2 = false then some (mk0 2 0 ⟨w.2.toArray⟩) else none
/-- A sign's bytes are a sign's. -/
def GdW1 (w : Tk) : Prop := (w.1 = 1 ∨ w.1 = 2 ∨ w.1 = 3) ∧ (w.1 ≠ 3 → lv w.2 = 0 ∧ w.2 ≠ [33] ∧ w.2 ≠ [45] ∧ w.2 ≠ [40] ∧ w.2 ≠ [41])
/-- What reading at level k, with these stacks, comes to. -/
def ResY (leaf : Tk → Option Sx) (l : List Tk) (k : Nat) (V : List Sx) (W : List Sg2) (o n : Nat) (out : Option Sx × Nat) (r : Rd3) : Prop :=
  (∃ m : Nat, r.2.2 = (m : Int) ∧ out = (none, m)) ∨
  (r.2.2 = -1 ∧ n ≤ r.2.1 ∧ NxLt l k r.2.1 ∧ out = rnY leaf l ⟨r.1 :: V, W, o, true⟩ r.2.1) ∨
  (r.2.2 = -1 ∧ n ≤ r.2.1 ∧ k ≤ 3 ∧ (∃ w, l[r.2.1]? = some w ∧ lv w.2 = 3) ∧ out = stopY ⟨r.1 :: V, W, o, true⟩ r.2.1)
theorem lop_bad {next : Nat → Int → Rd3} {k : Nat} {x : Sx} {n m : Nat} : ∀ G, lop l next k G (x, n, (m : Int)) = (x, n, (m : Int))
  | 0 => rfl
  | G + 1 => by
    unfold lop
    cases l[n]? with
    | none => rfl
    | some w => simp only; rw [if_neg (fun h => by have := h.1; omega)]
theorem lop_neq {next : Nat → Int → Rd3} {k : Nat} {x : Sx} {n : Nat} {b : Int} (h : ∀ w, l[n]? = some w → lv w.2 ≠ k) : ∀ G, lop l next k G (x, n, b) = (x, n, b)
  | 0 => rfl
  | G + 1 => by
    unfold lop
    cases hw : l[n]? with
    | none => rfl
    | some w => simp only; rw [if_neg (fun q => h w hw q.2)]
def LevC (nb : List UInt8 → Int) (rsv : List UInt8 → Bool) (l : List Tk) (f : Nat) : Prop := ∀ (k n : Nat) (V : List Sx) (W : List Sg2) (o : Nat), 1 ≤ k → k ≤ 6 → (k = 6 ∨ topL W < k) → 7 * (l.length - n) + (6 - k) < f →
  ResY (leafY nb rsv) l k V W o n (rnY (leafY nb rsv) l ⟨V, W, o, false⟩ n) (psr nb rsv l f k n (-1))
theorem loop_any (hl : ∀ w ∈ l, GdW1 w) {f : Nat} (IH : LevC nb rsv l f) {k : Nat} (hk : 1 ≤ k) (hk5 : k ≤ 5) {V : List Sx} {W : List Sg2} {o n0 : Nat} (hW : topL W < k) (out : Option Sx × Nat) : ∀ (G n : Nat) (x : Sx), l.length - n ≤ G → n0 ≤ n → 7 * (l.length - n) + (6 - (k + 1)) < f → NxLt l (k + 1) n → out = rnY (leafY nb rsv) l ⟨x :: V, W, o, true⟩ n →
    ResY (leafY nb rsv) l k V W o n0 out (lop l (psr nb rsv l f (k + 1)) k G (x, n, -1))
  | 0, n, x, hG, h0, hf, hn, ho => by
    refine .inr (.inl ⟨rfl, h0, fun w hw => ?_, ho⟩)
    have := (List.getElem?_eq_some_iff.1 hw).1
    simp only [lop] at this
    omega
  | G + 1, n, x, hG, h0, hf, hn, ho => by
    by_cases hq : NxLt l k n
    · rw [lop_neq (fun w hw => Nat.ne_of_lt (hq w hw))]
      exact .inr (.inl ⟨rfl, h0, hq, ho⟩)
    · obtain ⟨w, hw⟩ := Classical.not_forall.1 hq
      obtain ⟨hw1, hw2⟩ := Classical.not_imp.1 hw
      have hle := hn w hw1
      have hkw : lv w.2 = k := by omega
      have hlt := (List.getElem?_eq_some_iff.1 hw1).1
      rw [lop]
      simp only [hw1]
      rw [if_pos ⟨by decide, hkw⟩]
      have hstep : out = rnY (leafY nb rsv) l ⟨x :: V, (w.2, k) :: W, o, false⟩ (n + 1) := by
        have hg := hl w (List.mem_of_getElem? hw1)
        have h3w : ¬ w.1 ≠ 3 := fun h => by have := (hg.2 h).1; omega
        rw [ho, rnB hw1 (stB_op h3w hkw hk (fun h => by
          have h2 := h.2
          rw [jn_skip (by show topL W < k + 1; omega)] at h2
          simp only at h2
          omega))]
        simp only [jn_skip (V := x :: V) hW]
      have ih := IH (k + 1) (n + 1) (x :: V) ((w.2, k) :: W) o (by omega) (by omega) (.inr (by show k < k + 1; omega)) (by omega)
      rw [← hstep] at ih
      obtain ⟨r, hr⟩ : ∃ r, psr nb rsv l f (k + 1) (n + 1) (-1) = r := ⟨_, rfl⟩
      obtain ⟨z, n', b'⟩ := r
      rw [hr] at ih ⊢
      rcases ih with ⟨m, e1, e2⟩ | ⟨e1, e2, e3, e4⟩ | ⟨e1, e2, e3, e4, e5⟩
      · simp only at e1 e2
        subst e1
        simp only [lop_bad, ite_self]
        exact .inl ⟨m, rfl, e2⟩
      · simp only at e1 e2 e3 e4
        subst e1
        by_cases h3 : k = 3
        · subst h3
          simp only [if_true]
          have hj : jn 3 (z :: x :: V) ((w.2, 3) :: W) = (mk2 ⟨w.2.toArray⟩ x z :: V, W) := by
            rw [jn, if_pos (Nat.le_refl _)]
            show jn 3 (jn1 (z :: x :: V) (w.2, 3)) W = _
            unfold jn1
            rw [if_neg (by show ¬ 3 = 6; decide)]
            exact jn_skip hW
          by_cases hq2 : NxLt l 3 n'
          · refine .inr (.inl ⟨rfl, by show n0 ≤ n'; omega, hq2, ?_⟩)
            rw [e4, run_jn (by omega) hq2, hj]
          · obtain ⟨w', hw'⟩ := Classical.not_forall.1 hq2
            obtain ⟨hv1, hv2⟩ := Classical.not_imp.1 hw'
            have hle' := e3 w' hv1
            have hkw' : lv w'.2 = 3 := by omega
            refine .inr (.inr ⟨rfl, by show n0 ≤ n'; omega, by omega, ⟨w', hv1, hkw'⟩, ?_⟩)
            have hs : jn 4 (z :: x :: V) ((w.2, 3) :: W) = (z :: x :: V, (w.2, 3) :: W) := jn_skip (by show 3 < 4; omega)
            have := stop_jn (k := 3) (by omega) (z :: x :: V) ((w.2, 3) :: W) o true n'
            rw [hj] at this
            simp only at this ⊢
            rw [this, e4]
            by_cases h3' : w'.1 ≠ 3
            · rw [rnB_no hv1 (stB_kind h3')]
            rw [rnB_no hv1 (stB_two h3' hkw' (by show topL (jn 4 (z :: x :: V) ((w.2, 3) :: W)).2 = 3; rw [hs]; rfl))]
            simp only [hs]
        · rw [if_neg h3]
          exact loop_any hl IH hk hk5 hW out G n' (mk2 ⟨w.2.toArray⟩ x z) (by omega) (by omega) (by omega) e3 (by rw [e4]; exact run_chain hk h3 hk5 hW e3)
      · simp only at e1 e2 e3 e4 e5
        subst e1
        obtain ⟨w', hv1, hv2⟩ := e4
        have hj : jn k (z :: x :: V) ((w.2, k) :: W) = (mk2 ⟨w.2.toArray⟩ x z :: V, W) := by
          rw [jn, if_pos (Nat.le_refl _)]
          show jn k (jn1 (z :: x :: V) (w.2, k)) W = _
          unfold jn1
          rw [if_neg (by show ¬ k = 6; omega)]
          exact jn_skip hW
        rw [if_neg (by omega), lop_neq (fun u hu => by rw [hv1] at hu; injection hu with hu; subst hu; omega)]
        refine .inr (.inr ⟨rfl, by show n0 ≤ n'; omega, by omega, ⟨w', hv1, hv2⟩, ?_⟩)
        rw [e5, ← stop_jn hk, hj]
theorem psr6_end {f n : Nat} (h : l[n]? = none) : psr nb rsv l (f + 1) 6 n (-1) = (noX, n, (n : Int)) := by
  rw [psr, if_pos rfl, if_neg (by decide), h]; rfl
theorem psr6_un {f n : Nat} {w : Tk} (h : l[n]? = some w) (hu : w.2 = [33] ∨ w.2 = [45]) : psr nb rsv l (f + 1) 6 n (-1) = (mk1 (if w.2 = [45] then 4 else 3) (psr nb rsv l f 6 (n + 1) (-1)).1, (psr nb rsv l f 6 (n + 1) (-1)).2) := by
  rw [psr, if_pos rfl, if_neg (by decide), h]
  simp only
  rw [if_pos hu]
theorem psr6_par {f n : Nat} {w : Tk} (h : l[n]? = some w) (hu : w.2 = [40]) : psr nb rsv l (f + 1) 6 n (-1) = if isT l [41] (psr nb rsv l f 1 (n + 1) (-1)).2.1 (psr nb rsv l f 1 (n + 1) (-1)).2.2 = true then ((psr nb rsv l f 1 (n + 1) (-1)).1, (psr nb rsv l f 1 (n + 1) (-1)).2.1 + 1, (psr nb rsv l f 1 (n + 1) (-1)).2.2) else failR (psr nb rsv l f 1 (n + 1) (-1)).2.1 (psr nb rsv l f 1 (n + 1) (-1)).2.2 := by
  rw [psr, if_pos rfl, if_neg (by decide), h]
  simp only
  rw [if_neg (by rw [hu]; decide), if_pos hu]
theorem psr6_leaf {f n : Nat} {w : Tk} (h : l[n]? = some w) (h1 : ¬ (w.2 = [33] ∨ w.2 = [45])) (h2 : ¬ w.2 = [40]) : psr nb rsv l (f + 1) 6 n (-1) = match leafY nb rsv w with | some x => (x, n + 1, -1) | none => (noX, n, (n : Int)) := by
  rw [psr, if_pos rfl, if_neg (by decide), h]
  simp only
  rw [if_neg h1, if_neg h2]
  unfold leafY
  by_cases h3 : w.1 = 2
  · rw [if_pos h3, if_pos h3]
  rw [if_neg h3, if_neg h3]
  by_cases h4 : w.1 = 1 ∧ rsv w.2 = false
  · rw [if_pos h4, if_pos h4]
  · rw [if_neg h4, if_neg h4]; rfl
theorem rnA {leaf : Tk → Option Sx} {V : List Sx} {W : List Sg2} {o n : Nat} {w : Tk} {y' : Yd} (h : l[n]? = some w) (hs : stA leaf ⟨V, W, o, false⟩ w = (y', true)) : rnY leaf l ⟨V, W, o, false⟩ n = rnY leaf l y' (n + 1) := by
  rw [rnY_some h, show stp leaf ⟨V, W, o, false⟩ w = (y', true) from hs, if_pos rfl]
theorem rnA_no {leaf : Tk → Option Sx} {V : List Sx} {W : List Sg2} {o n : Nat} {w : Tk} {y' : Yd} (h : l[n]? = some w) (hs : stA leaf ⟨V, W, o, false⟩ w = (y', false)) : rnY leaf l ⟨V, W, o, false⟩ n = stopY y' n := by
  rw [rnY_some h, show stp leaf ⟨V, W, o, false⟩ w = (y', false) from hs, if_neg Bool.false_ne_true]
theorem lev_step (hl : ∀ w ∈ l, GdW1 w) (f : Nat) (IH : LevC nb rsv l f) : LevC nb rsv l (f + 1) := by
  intro k n V W o hk hk6 hW hf
  by_cases h6 : k = 6
  · subst h6
    cases hw : l[n]? with
    | none =>
      rw [psr6_end hw, rnY_none hw]
      exact .inl ⟨n, rfl, rfl⟩
    | some w =>
      obtain ⟨hlt, _⟩ := List.getElem?_eq_some_iff.1 hw
      have hg := hl w (List.mem_of_getElem? hw)
      have hn6 : ∀ m, NxLt l 6 m := fun m u hu => by have := lv_le u.2; omega
      by_cases hu : w.2 = [33] ∨ w.2 = [45]
      · have h3 : ¬ w.1 ≠ 3 := fun h => hu.elim (hg.2 h).2.1 (hg.2 h).2.2.1
        have h40 : ¬ w.2 = [40] := by rcases hu with h | h <;> rw [h] <;> decide
        rw [psr6_un hw hu, rnA hw (y' := ⟨V, (w.2, 6) :: W, o, false⟩) (by unfold stA; rw [if_neg h3, if_neg h40, if_pos hu])]
        have ih := IH 6 (n + 1) V ((w.2, 6) :: W) o (by omega) (by omega) (.inl rfl) (by omega)
        obtain ⟨r, hr⟩ : ∃ r, psr nb rsv l f 6 (n + 1) (-1) = r := ⟨_, rfl⟩
        obtain ⟨z, n', b'⟩ := r
        rw [hr] at ih ⊢
        rcases ih with ⟨m, e1, e2⟩ | ⟨e1, e2, e3, e4⟩ | ⟨e1, e2, e3, e4, e5⟩
        · exact .inl ⟨m, e1, e2⟩
        · refine .inr (.inl ⟨e1, Nat.le_trans (Nat.le_succ n) e2, hn6 _, ?_⟩)
          have hk1 : (if w.2 = [33] then (3 : Int) else 4) = if w.2 = [45] then 4 else 3 := by
            rcases hu with h | h <;> rw [h] <;> decide
          rw [e4, run_jn (k := 6) (by omega) e3]
          simp only
          rw [jn, if_pos (Nat.le_refl _)]
          show rnY _ l ⟨(jn 6 (mk1 (if w.2 = [33] then 3 else 4) z :: V) W).1, (jn 6 (mk1 (if w.2 = [33] then 3 else 4) z :: V) W).2, o, true⟩ n' = _
          rw [hk1, ← run_jn (k := 6) (by omega) e3]
        · omega
      · by_cases h40 : w.2 = [40]
        · have h3 : ¬ w.1 ≠ 3 := fun h => (hg.2 h).2.2.2.1 h40
          rw [psr6_par hw h40, rnA hw (y' := ⟨V, (w.2, 0) :: W, o + 1, false⟩) (by unfold stA; rw [if_neg h3, if_pos h40])]
          have ih := IH 1 (n + 1) V ((w.2, 0) :: W) (o + 1) (by omega) (by omega) (.inr (by show 0 < 1; omega)) (by omega)
          obtain ⟨r, hr⟩ : ∃ r, psr nb rsv l f 1 (n + 1) (-1) = r := ⟨_, rfl⟩
          obtain ⟨z, n', b'⟩ := r
          rw [hr] at ih ⊢
          rcases ih with ⟨m, e1, e2⟩ | ⟨e1, e2, e3, e4⟩ | ⟨e1, e2, e3, e4, e5⟩
          · simp only at e1 e2
            subst e1
            have hno : ¬ isT l [41] n' (m : Int) = true := by unfold isT; simp only [Bool.and_eq_true, decide_eq_true_eq]; omega
            rw [if_neg hno]
            refine .inl ⟨m, ?_, e2⟩
            show (if (m : Int) < 0 then (n' : Int) else (m : Int)) = _
            rw [if_neg (by omega)]
          · simp only at e1 e2 e3 e4
            subst e1
            cases hw' : l[n']? with
            | none =>
              have hno : ¬ isT l [41] n' (-1) = true := by unfold isT; simp only [hw']; simp
              rw [if_neg hno]
              refine .inl ⟨n', rfl, ?_⟩
              rw [e4, rnY_none hw']
              unfold stopY
              rw [if_neg (fun h => by have := h.2; simp only at this; omega)]
            | some w' =>
              have hlv := e3 w' hw'
              have hg' := hl w' (List.mem_of_getElem? hw')
              by_cases h41 : w'.2 = [41]
              · have hk3 : ¬ w'.1 ≠ 3 := fun h => (hg'.2 h).2.2.2.2 h41
                have hyes : isT l [41] n' (-1) = true := by unfold isT; simp only [hw', h41]; decide
                rw [if_pos hyes]
                refine .inr (.inl ⟨rfl, by show n ≤ n' + 1; omega, hn6 _, ?_⟩)
                rw [e4, rnB hw' (stB_shut hk3 h41 (by show ¬ o + 1 = 0; omega))]
                simp only [jn_skip (k := 1) (V := z :: V) (W := (w.2, 0) :: W) (by show 0 < 1; omega), List.tail_cons, Nat.add_sub_cancel]
              · have hno : ¬ isT l [41] n' (-1) = true := by unfold isT; simp only [hw', h41]; simp
                rw [if_neg hno]
                refine .inl ⟨n', rfl, ?_⟩
                have key : ∀ y : Yd, y.o = o + 1 → stopY y n' = (none, n') := fun y hy => by
                  unfold stopY
                  rw [if_neg (fun h => by have := h.2; omega)]
                rw [e4]
                by_cases hk3 : w'.1 ≠ 3
                · rw [rnB_no hw' (stB_kind hk3)]; exact key _ rfl
                · rw [rnB_no hw' (stB_none hk3 h41 (by omega))]; exact key _ rfl
          · simp only at e1 e2 e3 e4 e5
            subst e1
            obtain ⟨w', hv1, hv2⟩ := e4
            have h41 : ¬ w'.2 = [41] := fun e => by rw [e] at hv2; revert hv2; decide
            have hno : ¬ isT l [41] n' (-1) = true := by unfold isT; simp only [hv1, h41]; simp
            rw [if_neg hno]
            refine .inl ⟨n', rfl, ?_⟩
            rw [e5]
            unfold stopY
            rw [if_neg (fun h => by have := h.2; simp only at this; omega)]
        · rw [psr6_leaf hw hu h40]
          have hst : stA (leafY nb rsv) ⟨V, W, o, false⟩ w = match leafY nb rsv w with | some x => (⟨x :: V, W, o, true⟩, true) | none => (⟨V, W, o, false⟩, false) := by
            unfold stA
            by_cases h3 : w.1 = 3
            · rw [if_neg (by omega), if_neg h40, if_neg hu]
              unfold leafY
              rw [if_neg (by omega), if_neg (fun h => by omega)]
            · rw [if_pos h3]
          cases hlf : leafY nb rsv w with
          | some x =>
            rw [hlf] at hst
            rw [rnA hw hst]
            exact .inr (.inl ⟨rfl, Nat.le_succ n, hn6 _, rfl⟩)
          | none =>
            rw [hlf] at hst
            rw [rnA_no hw hst]
            exact .inl ⟨n, rfl, rfl⟩
  · have hk5 : k ≤ 5 := by omega
    have hWk : topL W < k := hW.resolve_left h6
    rw [psr, if_neg h6]
    have ih := IH (k + 1) n V W o (by omega) (by omega) (.inr (by omega)) (by omega)
    obtain ⟨r, hr⟩ : ∃ r, psr nb rsv l f (k + 1) n (-1) = r := ⟨_, rfl⟩
    obtain ⟨z, n', b'⟩ := r
    rw [hr] at ih ⊢
    rcases ih with ⟨m, e1, e2⟩ | ⟨e1, e2, e3, e4⟩ | ⟨e1, e2, e3, e4, e5⟩
    · simp only at e1 e2
      subst e1
      rw [lop_bad]
      exact .inl ⟨m, rfl, e2⟩
    · simp only at e1 e2 e3 e4
      subst e1
      exact loop_any hl IH hk hk5 hWk _ l.length n' z (by omega) e2 (by omega) e3 e4
    · simp only at e1 e2 e3 e4 e5
      subst e1
      obtain ⟨w', hv1, hv2⟩ := e4
      rw [lop_neq (fun u hu => by rw [hv1] at hu; injection hu with hu; subst hu; omega)]
      exact .inr (.inr ⟨rfl, e2, by omega, ⟨w', hv1, hv2⟩, e5⟩)
theorem lev_any (hl : ∀ w ∈ l, GdW1 w) : ∀ f, LevC nb rsv l f
  | 0 => fun k n V W o _ _ _ hf => absurd hf (Nat.not_lt_zero _)
  | f + 1 => lev_step hl f (lev_any hl f)
/-- Read with two stacks, and by levels: the same. -/
theorem yard_psr (hl : ∀ w ∈ l, GdW1 w) {f : Nat} (hf : 7 * l.length + 5 < f) : rnY (leafY nb rsv) l ⟨[], [], 0, false⟩ 0 = if (psr nb rsv l f 1 0 (-1)).2.2 < 0 then (some (psr nb rsv l f 1 0 (-1)).1, (psr nb rsv l f 1 0 (-1)).2.1) else (none, (psr nb rsv l f 1 0 (-1)).2.2.toNat) := by
  have h := lev_any (nb := nb) (rsv := rsv) hl f 1 0 [] [] 0 (by omega) (by omega) (.inr (by show 0 < 1; omega)) (by omega)
  obtain ⟨r, hr⟩ : ∃ r, psr nb rsv l f 1 0 (-1) = r := ⟨_, rfl⟩
  obtain ⟨z, n', b'⟩ := r
  rw [hr] at h ⊢
  rcases h with ⟨m, e1, e2⟩ | ⟨e1, e2, e3, e4⟩ | ⟨e1, e2, e3, e4, e5⟩
  · simp only at e1 e2 ⊢
    subst e1
    rw [e2, if_neg (by omega)]; simp
  · simp only at e1 e2 e3 e4 ⊢
    subst e1
    rw [e4, if_pos (by decide)]
    have key : stopY ⟨[z], [], 0, true⟩ n' = (some z, n') := rfl
    cases hw' : l[n']? with
    | none => rw [rnY_none hw', key]
    | some w' =>
      have hlv := e3 w' hw'
      by_cases hk3 : w'.1 ≠ 3
      · rw [rnB_no hw' (stB_kind hk3)]; exact key
      by_cases h41 : w'.2 = [41]
      · rw [rnB_no hw' (stB_shut0 hk3 h41 rfl)]; exact key
      · rw [rnB_no hw' (stB_none hk3 h41 (by omega))]; exact key
  · simp only at e1 e2 e3 e4 e5 ⊢
    subst e1
    rw [e5, if_pos (by decide)]; rfl
end
end Go.Proofs.Ytdekboacjjpjeaa
