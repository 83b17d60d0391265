
/- How words are read as an expression, and an expression's words. Math alone. -/
import Derived.Test.YtdekboacjjpjeaaGdT
namespace Go.Proofs.Ytdekboacjjpjeaa
open Go.RowKit Go.Lib
set_option linter.unusedSimpArgs false
set_option linter.unusedVariables false

/-- A word: its kind, and its bytes. -/
abbrev Tk := Nat × List UInt8
/-- How strongly an operator binds; 0: it is none. -/
def lv (s : List UInt8) : Nat := if s = [124, 124] then 1 else if s = [38, 38] then 2 else if s = [60] ∨ s = [60, 61] ∨ s = [61, 61] ∨ s = [33, 61] then 3 else if s = [43] ∨ s = [45] then 4 else if s = [42] then 5 else 0
theorem lv_le (s : List UInt8) : lv s ≤ 5 := by
  unfold lv
  repeat' split
  all_goals omega
def noX : Sx := mk0 0 0 ⟨#[]⟩
/-- What reading tells: the expression, the place, and the word with which it can't go on (-1: none). -/
abbrev Rd3 := Sx × Nat × Int
def failR (at' : Nat) (bad : Int) : Rd3 := (noX, at', if bad < 0 then (at' : Int) else bad)
section
variable (nb : List UInt8 → Int) (rsv : List UInt8 → Bool) (l : List Tk)
def isT (s : List UInt8) (at' : Nat) (bad : Int) : Bool := decide (bad < 0) && (match l[at']? with | some w => decide (w.2 = s) | none => false)
/-- Operators of level k, one behind the other; next reads what lies between them. -/
def lop (next : Nat → Int → Rd3) (k : Nat) : Nat → Rd3 → Rd3
  | 0, r => r
  | g + 1, r => match l[r.2.1]? with
    | none => r
    | some w => if r.2.2 < 0 ∧ lv w.2 = k then
        (if k = 3 then (mk2 ⟨w.2.toArray⟩ r.1 (next (r.2.1 + 1) r.2.2).1, (next (r.2.1 + 1) r.2.2).2) else lop next k g (mk2 ⟨w.2.toArray⟩ r.1 (next (r.2.1 + 1) r.2.2).1, (next (r.2.1 + 1) r.2.2).2))
      else r
/-- An expression whose operators are of level k, or stronger; 6: none at all. -/
def psr : Nat → Nat → Nat → Int → Rd3
  | 0, _, at', bad => failR at' bad
  | f + 1, k, at', bad =>
    if k = 6 then
      (if 0 ≤ bad then failR at' bad else match l[at']? with
      | none => failR at' bad
      | some w =>
        if w.2 = [33] ∨ w.2 = [45] then (mk1 (if w.2 = [45] then 4 else 3) (psr f 6 (at' + 1) bad).1, (psr f 6 (at' + 1) bad).2)
        else if w.2 = [40] then (if isT l [41] (psr f 1 (at' + 1) bad).2.1 (psr f 1 (at' + 1) bad).2.2 = true then ((psr f 1 (at' + 1) bad).1, (psr f 1 (at' + 1) bad).2.1 + 1, (psr f 1 (at' + 1) bad).2.2) else failR (psr f 1 (at' + 1) bad).2.1 (psr f 1 (at' + 1) bad).2.2)
        else if w.1 = 2 then (mk0 1 (nb w.2) ⟨#[]⟩, at' + 1, bad)
        else if w.1 = 1 ∧ rsv w.2 = false then (mk0 2 0 ⟨w.2.toArray⟩, at' + 1, bad)
        else failR at' bad)
    else lop l (psr f (k + 1)) k l.length (psr f (k + 1) at' bad)
end

/-- How strongly its text holds together, and its words. -/
def aroT (c : Nat × List Tk) (least : Nat) : List Tk := if c.1 < least then (3, [40]) :: (c.2 ++ [(3, [41])]) else c.2
def tkF (dc : Int → List UInt8) (k n : Int) (s : ByteArray) (p : List (Nat × List Tk)) : Nat × List Tk :=
  (if k = 5 then lv s.data.toList else 6,
   if k = 1 then [(2, dc n)] else if k = 2 then [(1, s.data.toList)] else if k = 3 then (3, [33]) :: aroT (p.getD 0 (0, [])) 6 else if k = 4 then (3, [45]) :: aroT (p.getD 0 (0, [])) 6
   else aroT (p.getD 0 (0, [])) (if lv s.data.toList = 3 then 4 else lv s.data.toList) ++ (3, s.data.toList) :: aroT (p.getD 1 (0, [])) (lv s.data.toList + 1))
def tks (dc : Int → List UInt8) : (d : Nat) → T d → Nat × List Tk := fold (tkF dc)
/-- No word of a Ref is reserved; Lits are told by their digits. -/
def okF (nb : List UInt8 → Int) (rsv : List UInt8 → Bool) (dc : Int → List UInt8) (k n : Int) (s : ByteArray) (p : List Prop) : Prop :=
  (k = 1 → nb (dc n) = n ∧ lv (dc n) = 0 ∧ dc n ≠ [33] ∧ dc n ≠ [45] ∧ dc n ≠ [40]) ∧ (k = 2 → rsv s.data.toList = false ∧ lv s.data.toList = 0 ∧ s.data.toList ≠ [33] ∧ s.data.toList ≠ [45] ∧ s.data.toList ≠ [40]) ∧ (k = 5 → 1 ≤ lv s.data.toList) ∧ (1 ≤ k ∧ k ≤ 5) ∧ ∀ q ∈ p, q
def okT (nb : List UInt8 → Int) (rsv : List UInt8 → Bool) (dc : Int → List UInt8) : (d : Nat) → T d → Prop := fold (okF nb rsv dc)

theorem drop_one {α : Type} {l r : List α} {a : α} {i : Nat} (h : l.drop i = a :: r) : l[i]? = some a ∧ l.drop (i + 1) = r := by
  constructor
  · have := congrArg (fun x : List α => x[0]?) h
    simpa using this
  · have := congrArg List.tail h
    simpa using this
theorem drop_app {α : Type} {l a b : List α} {i : Nat} (h : l.drop i = a ++ b) : l.drop (i + a.length) = b := by
  rw [← List.drop_drop, h, List.drop_left]
theorem drop_none {α : Type} {l : List α} {i : Nat} (h : l.drop i = []) : l[i]? = none := by
  rw [List.getElem?_eq_none_iff]
  exact List.drop_eq_nil_iff.1 h
/-- What follows is no operator that binds so strongly. -/
def Ends (k : Nat) (post : List Tk) : Prop := ∀ w r, post = w :: r → lv w.2 < k
/-- All folds take it for the same. -/
def Alk (x : Sx) {d : Nat} (t : T d) : Prop := (∀ (α : Type) (g : Int → Int → ByteArray → List α → α), foldS g x = fold g d t) ∧ (Cl d t → ClX x)
theorem Alk.of {d : Nat} (t : T d) : Alk ⟨d, t⟩ t := ⟨fun _ _ => rfl, id⟩
section
variable {nb : List UInt8 → Int} {rsv : List UInt8 → Bool} {l : List Tk}
/-- No operator of the level follows: it is done. -/
theorem lop_end {next : Nat → Int → Rd3} {k : Nat} {x : Sx} {at' : Nat} {post : List Tk} (hp : l.drop at' = post) (he : ∀ w r, post = w :: r → lv w.2 ≠ k) : ∀ G, lop l next k G (x, at', -1) = (x, at', -1)
  | 0 => rfl
  | G + 1 => by
    unfold lop
    cases hq : post with
    | nil =>
      rw [hq] at hp
      have := drop_none hp
      simp only [this]
    | cons w r =>
      have h1 := he w r hq
      rw [hq] at hp
      have := (drop_one hp).1
      simp only [this]
      rw [if_neg (fun h => h1 h.2)]
/-- From a level down to a weaker one. -/
theorem psr_down {x : Sx} {at' m K : Nat} {post : List Tk} (hp : l.drop (at' + m) = post) (hK : K ≤ 6) : ∀ (j k f : Nat), j + k = K → 1 ≤ k → Ends k post → psr nb rsv l f K at' (-1) = (x, at' + m, -1) → psr nb rsv l (f + j) k at' (-1) = (x, at' + m, -1)
  | 0, k, f, hj, _, _, h => by
    have : k = K := by omega
    subst this; exact h
  | j + 1, k, f, hj, hk, he, h => by
    have ih := psr_down hp hK j (k + 1) f (by omega) (by omega) (fun w r hw => Nat.lt_succ_of_lt (he w r hw)) h
    show psr nb rsv l (f + j + 1) k at' (-1) = _
    rw [psr, if_neg (by omega), ih]
    exact lop_end hp (fun w r hw => Nat.ne_of_lt (he w r hw)) _
variable {dc : Int → List UInt8}
def MainL (nb : List UInt8 → Int) (rsv : List UInt8 → Bool) (l : List Tk) (dc : Int → List UInt8) (d : Nat) : Prop := ∀ (t : T d), Cl d t → okT nb rsv dc d t → ∀ (k f at' : Nat) (post : List Tk), 1 ≤ k → k ≤ (tks dc d t).1 → 7 * d + (6 - k) ≤ f →
  l.drop at' = (tks dc d t).2 ++ post → Ends k post → ∃ x, psr nb rsv l f k at' (-1) = (x, at' + (tks dc d t).2.length, -1) ∧ Alk x t
theorem tks_st {nb : List UInt8 → Int} {rsv : List UInt8 → Bool} {d : Nat} {t : T d} (h : okT nb rsv dc d t) : 1 ≤ (tks dc d t).1 ∧ (tks dc d t).1 ≤ 6 := by
  match d, t, h with
  | 0, t, _ => exact Empty.elim t
  | d + 1, t, h =>
    obtain ⟨k, n, s, ps, rfl⟩ := T.open t
    have h5 : k = 5 → 1 ≤ lv s.data.toList := h.2.2.1
    have e : (tks dc (d + 1) (mkT k n s ps)).1 = if k = 5 then lv s.data.toList else 6 := rfl
    rw [e]
    have := lv_le s.data.toList
    split
    · rename_i hk; exact ⟨h5 hk, by omega⟩
    · omega
/-- An expression in brackets. -/
theorem par_any {d : Nat} (M : MainL nb rsv l dc d) {p : T d} (hc : Cl d p) (ho : okT nb rsv dc d p) {k f at' : Nat} {post : List Tk} (hk : 1 ≤ k) (hk6 : k ≤ 6) (hf : 7 * d + 6 + (6 - k) ≤ f)
    (hd : l.drop at' = (3, [40]) :: ((tks dc d p).2 ++ [(3, [41])]) ++ post) (he : Ends k post) : ∃ x, psr nb rsv l f k at' (-1) = (x, at' + ((3, [40]) :: ((tks dc d p).2 ++ [((3, [41]) : Tk)])).length, -1) ∧ Alk x p := by
  obtain ⟨s1, s6⟩ := tks_st ho
  rw [List.cons_append, List.append_assoc] at hd
  obtain ⟨d1, d2⟩ := drop_one hd
  obtain ⟨x, hx, ha⟩ := M p hc ho 1 (f - (6 - k) - 1) (at' + 1) ([(3, [41])] ++ post) (Nat.le_refl _) s1 (by omega) d2 (fun w r hw => by
    simp only [List.singleton_append, List.cons.injEq] at hw
    rw [← hw.1]; decide)
  have d3 := drop_app d2
  obtain ⟨d4, d5⟩ := drop_one d3
  have h6 : psr nb rsv l (f - (6 - k) - 1 + 1) 6 at' (-1) = (x, at' + ((3, [40]) :: ((tks dc d p).2 ++ [((3, [41]) : Tk)])).length, -1) := by
    rw [psr, if_pos rfl, if_neg (by decide), d1]
    simp only
    rw [if_neg (by decide), if_pos trivial, hx]
    simp only
    have : isT l [41] (at' + 1 + (tks dc d p).2.length) (-1) = true := by unfold isT; rw [d4]; decide
    rw [if_pos this]
    simp only [List.length_cons, List.length_append, List.length_nil]
    rw [show at' + 1 + (tks dc d p).2.length + 1 = at' + ((tks dc d p).2.length + (0 + 1) + 1) by omega]
  have hp : l.drop (at' + ((3, [40]) :: ((tks dc d p).2 ++ [((3, [41]) : Tk)])).length) = post := by
    simp only [List.length_cons, List.length_append, List.length_nil]
    rw [show at' + ((tks dc d p).2.length + (0 + 1) + 1) = at' + 1 + (tks dc d p).2.length + 1 by omega]
    exact d5
  refine ⟨x, ?_, ha⟩
  have := psr_down hp (K := 6) (Nat.le_refl _) (6 - k) k _ (by omega) hk he h6
  rw [show f = f - (6 - k) - 1 + 1 + (6 - k) by omega]
  exact this
/-- An operand, in brackets or not. -/
theorem aro_any {d : Nat} (M : MainL nb rsv l dc d) {p : T d} (hc : Cl d p) (ho : okT nb rsv dc d p) {least k f at' : Nat} {post : List Tk} (hl6 : least ≤ 6) (hk : 1 ≤ k) (hkl : k ≤ least) (hf : 7 * d + 6 + (6 - k) ≤ f)
    (hd : l.drop at' = aroT (tks dc d p) least ++ post) (he : Ends k post) : ∃ x, psr nb rsv l f k at' (-1) = (x, at' + (aroT (tks dc d p) least).length, -1) ∧ Alk x p := by
  unfold aroT at hd ⊢
  by_cases hq : (tks dc d p).1 < least
  · rw [if_pos hq] at hd ⊢
    exact par_any M hc ho hk (by omega) hf hd he
  · rw [if_neg hq] at hd ⊢
    exact M p hc ho k f at' post hk (by omega) (by omega) hd he

/-- A chain of operators of one level, that bind to the left. -/
def ChainL (nb : List UInt8 → Int) (rsv : List UInt8 → Bool) (l : List Tk) (dc : Int → List UInt8) (d : Nat) : Prop := ∀ (t : T d), Cl d t → okT nb rsv dc d t → ∀ (k f at' G : Nat) (post : List Tk), 1 ≤ k → k ≤ 5 → k ≠ 3 → k ≤ (tks dc d t).1 → 7 * d + (6 - k) ≤ f + 1 →
  l.drop at' = (tks dc d t).2 ++ post → (∀ w r, post = w :: r → lv w.2 ≤ k) → (tks dc d t).2.length ≤ G →
  ∃ x j, j ≤ (tks dc d t).2.length ∧ lop l (psr nb rsv l f (k + 1)) k G (psr nb rsv l f (k + 1) at' (-1)) = lop l (psr nb rsv l f (k + 1)) k (G - j) (x, at' + (tks dc d t).2.length, -1) ∧ Alk x t
theorem data_back (s : ByteArray) : (⟨s.data.toList.toArray⟩ : ByteArray) = s := by cases s; simp
theorem alk_mk2 {d : Nat} {s : ByteArray} {p q : T d} {x y : Sx} (hx : Alk x p) (hy : Alk y q) : Alk (mk2 ⟨s.data.toList.toArray⟩ x y) (mkT 5 0 s [p, q] : T (d + 1)) := by
  rw [data_back]
  refine ⟨fun α g => ?_, fun h => ?_⟩
  · rw [foldS_mk2, hx.1, hy.1]; rfl
  · rcases h with ⟨h1, _⟩ | ⟨h1, _⟩ | ⟨h1, _⟩ | ⟨_, _, p', q', h3, h4, h5⟩ | ⟨h1, _⟩
    · simp at h1
    · simp at h1
    · simp at h1
    · simp only [List.cons.injEq, and_true] at h3
      obtain ⟨rfl, rfl⟩ := h3
      exact cl_mk2 (hx.2 h4) (hy.2 h5)
    · simp at h1
/-- One operator of a level, its two sides. -/
theorem bin_one {d : Nat} (M : MainL nb rsv l dc d) {s : ByteArray} {q : T d} (hq : Cl d q) (hoq : okT nb rsv dc d q) {k f at' : Nat} {post : List Tk} (hk : lv s.data.toList = k) (hk1 : 1 ≤ k) (hk5 : k ≤ 5) (hf : 7 * d + 6 + (6 - (k + 1)) ≤ f)
    (hd : l.drop at' = (3, s.data.toList) :: (aroT (tks dc d q) (k + 1) ++ post)) (he : Ends (k + 1) post) : ∃ y, l[at']? = some (3, s.data.toList) ∧ psr nb rsv l f (k + 1) (at' + 1) (-1) = (y, at' + 1 + (aroT (tks dc d q) (k + 1)).length, -1) ∧ Alk y q := by
  obtain ⟨d1, d2⟩ := drop_one hd
  obtain ⟨y, hy, ha⟩ := aro_any M hq hoq (by omega) (by omega) (Nat.le_refl _) hf d2 he
  exact ⟨y, d1, hy, ha⟩
theorem ok_bin {d : Nat} {s : ByteArray} {p q : T d} (h : okT nb rsv dc (d + 1) (mkT 5 0 s [p, q])) : 1 ≤ lv s.data.toList ∧ okT nb rsv dc d p ∧ okT nb rsv dc d q := by
  have h1 : 1 ≤ lv s.data.toList := h.2.2.1 rfl
  have h2 : ∀ z ∈ [fold (okF nb rsv dc) d p, fold (okF nb rsv dc) d q], z := h.2.2.2.2
  exact ⟨h1, h2 (fold (okF nb rsv dc) d p) (List.mem_cons_self), h2 (fold (okF nb rsv dc) d q) (List.mem_cons_of_mem _ List.mem_cons_self)⟩
theorem tks_bin {d : Nat} (s : ByteArray) (p q : T d) : tks dc (d + 1) (mkT 5 0 s [p, q]) = (lv s.data.toList, aroT (tks dc d p) (if lv s.data.toList = 3 then 4 else lv s.data.toList) ++ (3, s.data.toList) :: aroT (tks dc d q) (lv s.data.toList + 1)) := rfl
/-- A chain, its last operator at the top. -/
theorem chain_top {d : Nat} (M : MainL nb rsv l dc d) (C : ChainL nb rsv l dc d) {s : ByteArray} {p q : T d} (hp : Cl d p) (hq : Cl d q) (ho : okT nb rsv dc (d + 1) (mkT 5 0 s [p, q])) {K : Nat} (hK : lv s.data.toList = K) (h3 : K ≠ 3) {f at' G : Nat} {post : List Tk}
    (hf : 7 * (d + 1) + (6 - K) ≤ f + 1) (hd : l.drop at' = (tks dc (d + 1) (mkT 5 0 s [p, q])).2 ++ post) (he : ∀ w r, post = w :: r → lv w.2 ≤ K) (hG : (tks dc (d + 1) (mkT 5 0 s [p, q])).2.length ≤ G) :
    ∃ x j, j ≤ (tks dc (d + 1) (mkT 5 0 s [p, q])).2.length ∧ lop l (psr nb rsv l f (K + 1)) K G (psr nb rsv l f (K + 1) at' (-1)) = lop l (psr nb rsv l f (K + 1)) K (G - j) (x, at' + (tks dc (d + 1) (mkT 5 0 s [p, q])).2.length, -1) ∧ Alk x (mkT 5 0 s [p, q] : T (d + 1)) := by
  obtain ⟨h1, op, oq⟩ := ok_bin ho
  have hK5 := lv_le s.data.toList
  rw [hK] at h1 hK5
  rw [tks_bin] at hd hG ⊢
  simp only [hK, if_neg h3] at hd hG ⊢
  rw [List.append_assoc, List.cons_append] at hd
  have hleft : ∃ xp jp, jp ≤ (aroT (tks dc d p) K).length ∧ lop l (psr nb rsv l f (K + 1)) K G (psr nb rsv l f (K + 1) at' (-1)) = lop l (psr nb rsv l f (K + 1)) K (G - jp) (xp, at' + (aroT (tks dc d p) K).length, -1) ∧ Alk xp p := by
    rw [List.length_append] at hG
    by_cases hst : (tks dc d p).1 < K
    · have e : aroT (tks dc d p) K = (3, [40]) :: ((tks dc d p).2 ++ [(3, [41])]) := by unfold aroT; rw [if_pos hst]
      rw [e] at hd ⊢
      obtain ⟨x, hx, ha⟩ := par_any M hp op (k := K + 1) (f := f) (by omega) (by omega) (by omega) hd (fun w r hw => by
        injection hw with hw1 _
        rw [← hw1]
        show lv s.data.toList < K + 1
        omega)
      exact ⟨x, 0, Nat.zero_le _, by rw [hx]; rfl, ha⟩
    · have e : aroT (tks dc d p) K = (tks dc d p).2 := by unfold aroT; rw [if_neg hst]
      rw [e] at hd hG ⊢
      exact C p hp op K f at' G _ h1 hK5 h3 (by omega) (by omega) hd (fun w r hw => by
        injection hw with hw1 _
        rw [← hw1]
        show lv s.data.toList ≤ K
        omega) (by omega)
  obtain ⟨xp, jp, hjp, hl, hap⟩ := hleft
  have d2 := drop_app hd
  obtain ⟨y, g1, g2, hay⟩ := bin_one M hq oq (k := K) (f := f) hK h1 hK5 (by omega) d2 (fun w r hw => Nat.lt_succ_of_le (he w r hw))
  refine ⟨mk2 ⟨s.data.toList.toArray⟩ xp y, jp + 1, ?_, ?_, alk_mk2 hap hay⟩
  · rw [List.length_append, List.length_cons]; omega
  · rw [hl]
    rw [List.length_append, List.length_cons] at hG ⊢
    obtain ⟨g, hg⟩ : ∃ g, G - jp = g + 1 := ⟨G - jp - 1, by omega⟩
    rw [hg, show G - (jp + 1) = g by omega]
    rw [lop]
    simp only [g1]
    rw [if_pos ⟨by decide, hK⟩, if_neg h3, g2]
    simp only
    rw [show at' + (aroT (tks dc d p) K).length + 1 + (aroT (tks dc d q) (K + 1)).length = at' + ((aroT (tks dc d p) K).length + ((aroT (tks dc d q) (K + 1)).length + 1)) by omega]
/-- Both sides of a comparison, or a chain: at its own level. -/
theorem bin_top {d : Nat} (M : MainL nb rsv l dc d) (C : ChainL nb rsv l dc d) {s : ByteArray} {p q : T d} (hp : Cl d p) (hq : Cl d q) (ho : okT nb rsv dc (d + 1) (mkT 5 0 s [p, q])) {K : Nat} (hK : lv s.data.toList = K) {f at' : Nat} {post : List Tk}
    (hf : 7 * (d + 1) + (6 - K) ≤ f) (hd : l.drop at' = (tks dc (d + 1) (mkT 5 0 s [p, q])).2 ++ post) (he : Ends K post) :
    ∃ x, psr nb rsv l f K at' (-1) = (x, at' + (tks dc (d + 1) (mkT 5 0 s [p, q])).2.length, -1) ∧ Alk x (mkT 5 0 s [p, q] : T (d + 1)) := by
  obtain ⟨h1, op, oq⟩ := ok_bin ho
  have hK5 := lv_le s.data.toList
  rw [hK] at h1 hK5
  obtain ⟨g, rfl⟩ : ∃ g, f = g + 1 := ⟨f - 1, by omega⟩
  have hlen : (tks dc (d + 1) (mkT 5 0 s [p, q])).2.length ≤ l.length := by
    have := congrArg List.length hd
    rw [List.length_drop, List.length_append] at this
    omega
  have hend := drop_app hd
  by_cases h3 : K = 3
  · subst h3
    rw [tks_bin] at hd hlen ⊢
    simp only [hK, if_true] at hd hlen ⊢
    rw [List.append_assoc, List.cons_append] at hd
    obtain ⟨xp, hx, hap⟩ := aro_any M hp op (least := 4) (k := 4) (f := g) (by omega) (by omega) (Nat.le_refl _) (by omega) hd (fun w r hw => by
      injection hw with hw1 _
      rw [← hw1]
      show lv s.data.toList < 4
      omega)
    have d2 := drop_app hd
    obtain ⟨y, g1, g2, hay⟩ := bin_one M hq oq (k := 3) (f := g) hK h1 hK5 (by omega) d2 (fun w r hw => Nat.lt_succ_of_lt (he w r hw))
    refine ⟨mk2 ⟨s.data.toList.toArray⟩ xp y, ?_, alk_mk2 hap hay⟩
    rw [List.length_append, List.length_cons] at hlen ⊢
    obtain ⟨n, hn⟩ : ∃ n, l.length = n + 1 := ⟨l.length - 1, by omega⟩
    rw [psr, if_neg (by omega), hx, hn, lop]
    simp only [g1]
    rw [if_pos ⟨by decide, hK⟩, if_pos trivial, g2]
    simp only
    rw [show at' + (aroT (tks dc d p) 4).length + 1 + (aroT (tks dc d q) (3 + 1)).length = at' + ((aroT (tks dc d p) 4).length + ((aroT (tks dc d q) (3 + 1)).length + 1)) by omega]
  · obtain ⟨x, j, hj, hl, ha⟩ := chain_top M C hp hq ho hK h3 (f := g) (G := l.length) (by omega) hd (fun w r hw => Nat.le_of_lt (he w r hw)) hlen
    refine ⟨x, ?_, ha⟩
    rw [psr, if_neg (by omega), hl]
    exact lop_end hend (fun w r hw => Nat.ne_of_lt (he w r hw)) _
theorem ok_one {d : Nat} {k n : Int} {s : ByteArray} {p : T d} (h : okT nb rsv dc (d + 1) (mkT k n s [p])) : okT nb rsv dc d p := by
  have h2 : ∀ z ∈ [fold (okF nb rsv dc) d p], z := h.2.2.2.2
  exact h2 (fold (okF nb rsv dc) d p) List.mem_cons_self
/-- What holds together as strongly as may be. -/
theorem six_any {d : Nat} (M : MainL nb rsv l dc d) {t : T (d + 1)} (hc : Cl (d + 1) t) (ho : okT nb rsv dc (d + 1) t) (h6 : (tks dc (d + 1) t).1 = 6) {f at' : Nat} {post : List Tk} (hf : 7 * (d + 1) ≤ f)
    (hd : l.drop at' = (tks dc (d + 1) t).2 ++ post) (he : Ends 6 post) : ∃ x, psr nb rsv l f 6 at' (-1) = (x, at' + (tks dc (d + 1) t).2.length, -1) ∧ Alk x t := by
  obtain ⟨g, rfl⟩ : ∃ g, f = g + 1 := ⟨f - 1, by omega⟩
  rcases hc.cases with ⟨n, rfl⟩ | ⟨s, rfl⟩ | ⟨k, p, hk, rfl, hp⟩ | ⟨s, p, q, rfl, hp, hq⟩ | rfl
  · have e : tks dc (d + 1) (mkT 1 n ⟨#[]⟩ [] : T (d + 1)) = (6, [(2, dc n)]) := rfl
    rw [e] at hd ⊢
    obtain ⟨d1, _⟩ := drop_one hd
    obtain ⟨o1, _, o3, o4, o5⟩ := ho.1 rfl
    refine ⟨mk0 1 n ⟨#[]⟩, ?_, fun α g => rfl, fun _ => .inl ⟨rfl, rfl, rfl⟩⟩
    rw [psr, if_pos rfl, if_neg (by decide), d1]
    simp only
    rw [if_neg (fun h => h.elim o3 o4), if_neg o5, if_pos trivial, o1]
    rfl
  · have e : tks dc (d + 1) (mkT 2 0 s [] : T (d + 1)) = (6, [(1, s.data.toList)]) := rfl
    rw [e] at hd ⊢
    obtain ⟨d1, _⟩ := drop_one hd
    obtain ⟨o1, _, o3, o4, o5⟩ := ho.2.1 rfl
    refine ⟨mk0 2 0 s, ?_, fun α g => rfl, fun _ => .inr (.inl ⟨rfl, rfl, rfl⟩)⟩
    rw [psr, if_pos rfl, if_neg (by decide), d1]
    simp only
    rw [if_neg (fun h => h.elim o3 o4), if_neg o5, if_neg (by decide), if_pos ⟨trivial, o1⟩, data_back]
    rfl
  · have hop := ok_one ho
    have hsix : ∀ (c : UInt8), (c = 33 ∧ k = 3 ∨ c = 45 ∧ k = 4) → tks dc (d + 1) (mkT k 0 ⟨#[]⟩ [p] : T (d + 1)) = (6, (3, [c]) :: aroT (tks dc d p) 6) → ∃ x, psr nb rsv l (g + 1) 6 at' (-1) = (x, at' + (tks dc (d + 1) (mkT k 0 ⟨#[]⟩ [p] : T (d + 1))).2.length, -1) ∧ Alk x (mkT k 0 ⟨#[]⟩ [p] : T (d + 1)) := by
      intro c hck e
      rw [e] at hd ⊢
      rw [List.cons_append] at hd
      obtain ⟨d1, d2⟩ := drop_one hd
      obtain ⟨x, hx, ha⟩ := aro_any M hp hop (least := 6) (k := 6) (f := g) (Nat.le_refl _) (by omega) (Nat.le_refl _) (by omega) d2 he
      refine ⟨mk1 k x, ?_, fun α g => ?_, fun h => cl_mk1 hk (ha.2 hp)⟩
      · rw [psr, if_pos rfl, if_neg (by decide), d1]
        simp only
        rcases hck with ⟨rfl, rfl⟩ | ⟨rfl, rfl⟩
        · rw [if_pos (.inl rfl), if_neg (by decide), hx]
          simp only [List.length_cons]
          rw [show at' + 1 + (aroT (tks dc d p) 6).length = at' + ((aroT (tks dc d p) 6).length + 1) by omega]
        · rw [if_pos (.inr rfl), if_pos rfl, hx]
          simp only [List.length_cons]
          rw [show at' + 1 + (aroT (tks dc d p) 6).length = at' + ((aroT (tks dc d p) 6).length + 1) by omega]
      · rw [foldS_mk1, ha.1]; rfl
    rcases hk with rfl | rfl
    · exact hsix 33 (.inl ⟨rfl, rfl⟩) rfl
    · exact hsix 45 (.inr ⟨rfl, rfl⟩) rfl
  · rw [tks_bin] at h6
    have := lv_le s.data.toList
    simp only at h6
    omega
  · have : (1 : Int) ≤ 0 ∧ (0 : Int) ≤ 5 := ho.2.2.2.1
    omega
theorem main_step (d : Nat) (M : MainL nb rsv l dc d) (C : ChainL nb rsv l dc d) : MainL nb rsv l dc (d + 1) := by
  intro t hc ho k f at' post hk hks hf hd he
  by_cases h6 : (tks dc (d + 1) t).1 = 6
  · rw [h6] at hks
    obtain ⟨x, hx, ha⟩ := six_any M hc ho h6 (f := f - (6 - k)) (by omega) hd (fun w r hw => Nat.lt_of_lt_of_le (he w r hw) hks)
    refine ⟨x, ?_, ha⟩
    have := psr_down (drop_app hd) (K := 6) (Nat.le_refl _) (6 - k) k (f - (6 - k)) (by omega) hk he hx
    rw [show f = f - (6 - k) + (6 - k) by omega]
    exact this
  · rcases hc.cases with ⟨n, rfl⟩ | ⟨s, rfl⟩ | ⟨k', p, hk', rfl, hp⟩ | ⟨s, p, q, rfl, hp, hq⟩ | rfl
    · exact absurd rfl h6
    · exact absurd rfl h6
    · rcases hk' with rfl | rfl <;> exact absurd rfl h6
    · obtain ⟨K, hK⟩ : ∃ K, lv s.data.toList = K := ⟨_, rfl⟩
      have hK5 := lv_le s.data.toList
      have hks' : k ≤ K := by rw [← hK]; exact hks
      obtain ⟨x, hx, ha⟩ := bin_top M C hp hq ho hK (f := f - (K - k)) (by omega) hd (fun w r hw => Nat.lt_of_lt_of_le (he w r hw) hks')
      refine ⟨x, ?_, ha⟩
      have := psr_down (drop_app hd) (K := K) (by omega) (K - k) k (f - (K - k)) (by omega) hk he hx
      rw [show f = f - (K - k) + (K - k) by omega]
      exact this
    · exact absurd rfl h6
theorem chain_up (d : Nat) (M : MainL nb rsv l dc d) (C : ChainL nb rsv l dc d) : ChainL nb rsv l dc (d + 1) := by
  intro t hc ho k f at' G post hk hk5 h3 hks hf hd he hG
  by_cases hq : k = (tks dc (d + 1) t).1
  · rcases hc.cases with ⟨n, rfl⟩ | ⟨s, rfl⟩ | ⟨k', p, hk', rfl, hp⟩ | ⟨s, p, q, rfl, hp, hq'⟩ | rfl
    · have : k = 6 := hq
      omega
    · have : k = 6 := hq
      omega
    · rcases hk' with rfl | rfl
      · have : k = 6 := hq
        omega
      · have : k = 6 := hq
        omega
    · have hK : lv s.data.toList = k := hq.symm
      exact chain_top M C hp hq' ho hK h3 hf hd he hG
    · have : k = 6 := hq
      omega
  · obtain ⟨x, hx, ha⟩ := main_step d M C t hc ho (k + 1) f at' post (by omega) (by omega) (by omega) hd (fun w r hw => Nat.lt_succ_of_le (he w r hw))
    exact ⟨x, 0, Nat.zero_le _, by rw [hx]; rfl, ha⟩
theorem both_any (nb : List UInt8 → Int) (rsv : List UInt8 → Bool) (l : List Tk) (dc : Int → List UInt8) : ∀ d, MainL nb rsv l dc d ∧ ChainL nb rsv l dc d
  | 0 => ⟨fun t => Empty.elim t, fun t => Empty.elim t⟩
  | d + 1 => ⟨main_step d (both_any nb rsv l dc d).1 (both_any nb rsv l dc d).2, chain_up d (both_any nb rsv l dc d).1 (both_any nb rsv l dc d).2⟩
/-- What was printed is read as it was. -/
theorem reads_back {d : Nat} {t : T d} (hc : Cl d t) (ho : okT nb rsv dc d t) {f : Nat} (hf : 7 * d + 5 ≤ f) : ∃ x, psr nb rsv (tks dc d t).2 f 1 0 (-1) = (x, (tks dc d t).2.length, -1) ∧ Alk x t := by
  obtain ⟨x, hx, ha⟩ := (both_any nb rsv (tks dc d t).2 dc d).1 t hc ho 1 f 0 [] (Nat.le_refl _) (tks_st ho).1 (by omega) (by simp) (fun w r hw => by cases hw)
  rw [Nat.zero_add] at hx
  exact ⟨x, hx, ha⟩
end
end Go.Proofs.Ytdekboacjjpjeaa
