
/- The words of runes: what the document says, and that they are the same written again, a line further down, beside a remark. -/
import Derived.Test.YtdekboacjjpjeaaGlyR
namespace Go.Proofs.Ytdekboacjjpjeaa
open Go.Lib
set_option linter.unusedSimpArgs false
set_option linter.unusedVariables false

def letter (r : Int) : Bool := decide (97 ≤ r ∧ r ≤ 122 ∨ 65 ≤ r ∧ r ≤ 90 ∨ 1072 ≤ r ∧ r ≤ 1103)
def dgt (r : Int) : Bool := decide (48 ≤ r ∧ r ≤ 57)
def insd (r : Int) : Bool := letter r || dgt r || r == 95

/-- How many runes that may stand in a name runes begin with. -/
def spn : List Ru → Nat
  | [] => 0
  | v :: t => if insd v.1 = true then spn t + 1 else 0
def val (n : Int) : List Ru → Int
  | [] => n
  | v :: t => val (10 * n + (v.1 - 48)) t
/-- Are they a number? -/
def numb (rs : List Ru) : Bool :=
  decide (1 ≤ rs.length ∧ rs.length ≤ 10) && !(decide ((rs.headD (0, [])).1 = 48) && decide (1 < rs.length)) && rs.all (fun v => dgt v.1) && decide (val 0 rs ≤ 1000000000)
def one (a : Int) : Nat := if a = 123 ∨ a = 125 ∨ a = 40 ∨ a = 41 ∨ a = 61 ∨ a = 33 ∨ a = 60 ∨ a = 43 ∨ a = 45 ∨ a = 42 then 1 else 0
def pair (a b : Int) : Bool := decide (b = 61 ∧ (a = 61 ∨ a = 33 ∨ a = 60) ∨ a = 38 ∧ b = 38 ∨ a = 124 ∧ b = 124)
/-- How many runes of a sign runes begin with. -/
def sgn : List Ru → Nat
  | [] => 0
  | [v] => one v.1
  | v :: u :: _ => if pair v.1 u.1 = true then 2 else one v.1
/-- The kind of the word that runes begin with, and how many of them it has; 0: there is none. -/
def fst1 : List Ru → Nat × Nat
  | [] => (0, 0)
  | v :: t => if letter v.1 = true then (if spn (v :: t) ≤ 24 then (1, spn (v :: t)) else (0, 0))
    else if dgt v.1 = true then (if numb ((v :: t).take (spn (v :: t))) = true then (2, spn (v :: t)) else (0, 0))
    else if sgn (v :: t) = 0 then (0, 0) else (3, sgn (v :: t))

/-- A word: its kind, its runes, its place. -/
abbrev Wd := Nat × List Ru × Int × Int
/-- The words, a place, an error. -/
abbrev Rs := List Wd × (Int × Int) × Int
def pre (w : Wd) (r : Rs) : Rs := if r.2.2 = 0 then (w :: r.1, r.2) else r
/-- How many runes there are ahead of the line's end. -/
def rest : List Ru → Nat
  | [] => 0
  | v :: t => if v.1 = 10 then 0 else rest t + 1

def wrd : Nat → List Ru → Int → Int → Nat → Rs
  | 0, _, _, _, _ => ([], (0, 0), 0)
  | _ + 1, [], _, _, _ => ([], (0, 0), 0)
  | f + 1, v :: t, ln, co, n =>
    if v.1 = 10 then wrd f t (ln + 1) 1 n
    else if v.1 = 32 ∨ v.1 = 9 then wrd f t ln (co + 1) n
    else if v.1 = 35 then wrd f ((v :: t).drop (rest (v :: t))) ln (co + rest (v :: t)) n
    else if (fst1 (v :: t)).1 = 0 then ([], (ln, co), 11)
    else if n = 3000 then ([], (ln, co), 4)
    else pre ((fst1 (v :: t)).1, (v :: t).take (fst1 (v :: t)).2, ln, co) (wrd f ((v :: t).drop (fst1 (v :: t)).2) ln (co + (fst1 (v :: t)).2) (n + 1))
def wrds (rs : List Ru) (ln co : Int) (n : Nat) : Rs := wrd rs.length rs ln co n

theorem spn_le : ∀ rs : List Ru, spn rs ≤ rs.length
  | [] => Nat.le_refl _
  | v :: t => by
    unfold spn
    split
    · have := spn_le t; simp; omega
    · simp
theorem spn_pos {v : Ru} {t : List Ru} (h : insd v.1 = true) : 1 ≤ spn (v :: t) := by unfold spn; rw [if_pos h]; omega
theorem letter_insd {r : Int} (h : letter r = true) : insd r = true := by simp [insd, h]
theorem dgt_insd {r : Int} (h : dgt r = true) : insd r = true := by simp [insd, h]
theorem one_le (a : Int) : one a ≤ 1 := by unfold one; split <;> omega
theorem sgn_le : ∀ rs : List Ru, sgn rs ≤ rs.length
  | [] => Nat.le_refl _
  | [v] => one_le _
  | v :: u :: t => by
    have := one_le v.1
    show (if pair v.1 u.1 = true then 2 else one v.1) ≤ _
    split <;> simp <;> omega
theorem fst1_le (v : Ru) (t : List Ru) (h : (fst1 (v :: t)).1 ≠ 0) : 1 ≤ (fst1 (v :: t)).2 ∧ (fst1 (v :: t)).2 ≤ (v :: t).length := by
  have h1 := spn_le (v :: t)
  have h2 := sgn_le (v :: t)
  unfold fst1 at h ⊢
  by_cases a : letter v.1 = true
  · have := spn_pos (t := t) (letter_insd a)
    simp only [if_pos a] at h ⊢
    by_cases b : spn (v :: t) ≤ 24
    · simp only [if_pos b]; exact ⟨this, h1⟩
    · simp only [if_neg b] at h; exact absurd rfl h
  · simp only [if_neg a] at h ⊢
    by_cases d : dgt v.1 = true
    · have := spn_pos (t := t) (dgt_insd d)
      simp only [if_pos d] at h ⊢
      by_cases b : numb ((v :: t).take (spn (v :: t))) = true
      · simp only [if_pos b]; exact ⟨this, h1⟩
      · simp only [if_neg b] at h; exact absurd rfl h
    · simp only [if_neg d] at h ⊢
      by_cases b : sgn (v :: t) = 0
      · simp only [if_pos b] at h; exact absurd rfl h
      · simp only [if_neg b]; exact ⟨by omega, h2⟩
theorem rest_le : ∀ rs : List Ru, rest rs ≤ rs.length
  | [] => Nat.le_refl _
  | v :: t => by
    have := rest_le t
    unfold rest
    split <;> simp <;> omega
theorem rest_pos {v : Ru} {t : List Ru} (h : v.1 ≠ 10) : 1 ≤ rest (v :: t) := by unfold rest; rw [if_neg h]; omega

theorem wrd_nil (f : Nat) (ln co : Int) (n : Nat) : wrd f [] ln co n = ([], (0, 0), 0) := by cases f <;> rfl
theorem wrd_more : ∀ (f : Nat) (rs : List Ru) (ln co : Int) (n : Nat), rs.length ≤ f → wrd f rs ln co n = wrds rs ln co n
  | 0, rs, ln, co, n, h => by
    have : rs = [] := List.eq_nil_of_length_eq_zero (by omega)
    subst this; rfl
  | f + 1, [], ln, co, n, h => rfl
  | f + 1, v :: t, ln, co, n, h => by
    have ht : t.length ≤ f := by simp at h; omega
    unfold wrds
    simp only [List.length_cons, wrd]
    by_cases c1 : v.1 = 10
    · simp only [if_pos c1]; rw [wrd_more f t _ _ _ ht]; rfl
    simp only [if_neg c1]
    by_cases c2 : v.1 = 32 ∨ v.1 = 9
    · simp only [if_pos c2]; rw [wrd_more f t _ _ _ ht]; rfl
    simp only [if_neg c2]
    by_cases c3 : v.1 = 35
    · simp only [if_pos c3]
      have hp := rest_pos (t := t) c1
      have hd : ((v :: t).drop (rest (v :: t))).length ≤ t.length := by rw [List.length_drop]; simp; omega
      rw [wrd_more f _ _ _ _ (by omega), wrd_more t.length _ _ _ _ hd]
    simp only [if_neg c3]
    by_cases c4 : (fst1 (v :: t)).1 = 0
    · simp only [if_pos c4]
    simp only [if_neg c4]
    have hm := (fst1_le v t c4).1
    have hd : ((v :: t).drop (fst1 (v :: t)).2).length ≤ t.length := by rw [List.length_drop]; simp; omega
    rw [wrd_more f _ _ _ _ (by omega), wrd_more t.length _ _ _ _ hd]

theorem wrds_nil (ln co : Int) (n : Nat) : wrds [] ln co n = ([], (0, 0), 0) := rfl
theorem wrds_cons (v : Ru) (t : List Ru) (ln co : Int) (n : Nat) : wrds (v :: t) ln co n =
    if v.1 = 10 then wrds t (ln + 1) 1 n
    else if v.1 = 32 ∨ v.1 = 9 then wrds t ln (co + 1) n
    else if v.1 = 35 then wrds ((v :: t).drop (rest (v :: t))) ln (co + rest (v :: t)) n
    else if (fst1 (v :: t)).1 = 0 then ([], (ln, co), 11)
    else if n = 3000 then ([], (ln, co), 4)
    else pre ((fst1 (v :: t)).1, (v :: t).take (fst1 (v :: t)).2, ln, co) (wrds ((v :: t).drop (fst1 (v :: t)).2) ln (co + (fst1 (v :: t)).2) (n + 1)) := by
  have hw : wrds (v :: t) ln co n = wrd (t.length + 1) (v :: t) ln co n := rfl
  rw [hw]
  simp only [wrd]
  by_cases c1 : v.1 = 10
  · simp only [if_pos c1]; rfl
  simp only [if_neg c1]
  by_cases c2 : v.1 = 32 ∨ v.1 = 9
  · simp only [if_pos c2]; rfl
  simp only [if_neg c2]
  by_cases c3 : v.1 = 35
  · simp only [if_pos c3]
    have hp := rest_pos (t := t) c1
    rw [wrd_more t.length _ _ _ _ (by rw [List.length_drop]; simp; omega)]
  simp only [if_neg c3]
  by_cases c4 : (fst1 (v :: t)).1 = 0
  · simp only [if_pos c4]
  simp only [if_neg c4]
  have hm := (fst1_le v t c4).1
  rw [wrd_more t.length _ _ _ _ (by rw [List.length_drop]; simp; omega)]

/-- Kinds and runes alone, and the error. -/
def er (r : Rs) : List (Nat × List Ru) × Int := (r.1.map (fun w => (w.1, w.2.1)), r.2.2)
theorem er_pre (w : Wd) (r : Rs) : er (pre w r) = if r.2.2 = 0 then ((w.1, w.2.1) :: (er r).1, (er r).2) else er r := by
  unfold pre
  split <;> rfl
theorem er_snd (r : Rs) : (er r).2 = r.2.2 := rfl
theorem er_pre_same {w w' : Wd} {r r' : Rs} (hk : w.1 = w'.1) (ht : w.2.1 = w'.2.1) (h : er r = er r') : er (pre w r) = er (pre w' r') := by
  have h2 : (er r).2 = (er r').2 := congrArg Prod.snd h
  rw [er_snd, er_snd] at h2
  rw [er_pre, er_pre, hk, ht, h, h2]

/-- Places are nothing to kinds, texts and errors. -/
theorem er_place : ∀ (f : Nat) (rs : List Ru), rs.length ≤ f → ∀ (ln co ln' co' : Int) (n : Nat), er (wrds rs ln co n) = er (wrds rs ln' co' n)
  | 0, rs, h, ln, co, ln', co', n => by
    have : rs = [] := List.eq_nil_of_length_eq_zero (by omega)
    subst this; rfl
  | f + 1, [], h, _, _, _, _, _ => rfl
  | f + 1, v :: t, h, ln, co, ln', co', n => by
    have ht : t.length ≤ f := by simp at h; omega
    rw [wrds_cons, wrds_cons]
    by_cases c1 : v.1 = 10
    · simp only [if_pos c1]; exact er_place f t ht _ _ _ _ _
    simp only [if_neg c1]
    by_cases c2 : v.1 = 32 ∨ v.1 = 9
    · simp only [if_pos c2]; exact er_place f t ht _ _ _ _ _
    simp only [if_neg c2]
    by_cases c3 : v.1 = 35
    · simp only [if_pos c3]
      have hp := rest_pos (t := t) c1
      exact er_place f _ (by rw [List.length_drop]; simp; omega) _ _ _ _ _
    simp only [if_neg c3]
    by_cases c4 : (fst1 (v :: t)).1 = 0
    · simp only [if_pos c4]; rfl
    simp only [if_neg c4]
    by_cases c5 : n = 3000
    · simp only [if_pos c5]; rfl
    simp only [if_neg c5]
    have hm := (fst1_le v t c4).1
    exact er_pre_same rfl rfl (er_place f _ (by rw [List.length_drop]; simp; omega) _ _ _ _ _)

/-- A line further down. -/
def up (r : Rs) : Rs := (r.1.map (fun w => (w.1, w.2.1, w.2.2.1 + 1, w.2.2.2)), (if r.2.2 = 0 then r.2.1 else (r.2.1.1 + 1, r.2.1.2)), r.2.2)
theorem up_pre (w : Wd) (r : Rs) : up (pre w r) = pre (w.1, w.2.1, w.2.2.1 + 1, w.2.2.2) (up r) := by
  unfold pre
  by_cases h : r.2.2 = 0
  · rw [if_pos h, if_pos (show (up r).2.2 = 0 from h)]; rfl
  · rw [if_neg h, if_neg (show ¬ (up r).2.2 = 0 from h)]
theorem wrds_up : ∀ (f : Nat) (rs : List Ru), rs.length ≤ f → ∀ (ln co : Int) (n : Nat), wrds rs (ln + 1) co n = up (wrds rs ln co n)
  | 0, rs, h, ln, co, n => by
    have : rs = [] := List.eq_nil_of_length_eq_zero (by omega)
    subst this; rfl
  | f + 1, [], h, _, _, _ => rfl
  | f + 1, v :: t, h, ln, co, n => by
    have ht : t.length ≤ f := by simp at h; omega
    rw [wrds_cons, wrds_cons]
    by_cases c1 : v.1 = 10
    · simp only [if_pos c1]; exact wrds_up f t ht _ _ _
    simp only [if_neg c1]
    by_cases c2 : v.1 = 32 ∨ v.1 = 9
    · simp only [if_pos c2]; exact wrds_up f t ht _ _ _
    simp only [if_neg c2]
    by_cases c3 : v.1 = 35
    · simp only [if_pos c3]
      have hp := rest_pos (t := t) c1
      exact wrds_up f _ (by rw [List.length_drop]; simp; omega) _ _ _
    simp only [if_neg c3]
    by_cases c4 : (fst1 (v :: t)).1 = 0
    · simp only [if_pos c4]; rfl
    simp only [if_neg c4]
    by_cases c5 : n = 3000
    · simp only [if_pos c5]; rfl
    simp only [if_neg c5]
    have hm := (fst1_le v t c4).1
    rw [up_pre, wrds_up f _ (by rw [List.length_drop]; simp; omega)]

/-- A rune that is no part of a word: a blank, a line feed. -/
def Stop (z : Ru) : Prop := insd z.1 = false ∧ z.1 ≠ 61 ∧ z.1 ≠ 38 ∧ z.1 ≠ 124
theorem spn_stop {z : Ru} (hz : Stop z) : ∀ (a b : List Ru), spn (a ++ z :: b) = spn a
  | [], b => by simp [spn, hz.1]
  | v :: t, b => by
    have := spn_stop hz t b
    simp only [List.cons_append, spn, this]
theorem sgn_stop {z : Ru} (hz : Stop z) : ∀ (a b : List Ru), a ≠ [] → sgn (a ++ z :: b) = sgn a
  | [], b, h => absurd rfl h
  | [v], b, h => by
    show (if pair v.1 z.1 = true then 2 else one v.1) = one v.1
    rw [if_neg]
    intro hp
    rcases of_decide_eq_true hp with ⟨h1, _⟩ | ⟨_, h1⟩ | ⟨_, h1⟩
    · exact hz.2.1 h1
    · exact hz.2.2.1 h1
    · exact hz.2.2.2 h1
  | v :: u :: t, b, h => rfl
theorem fst1_cons (v : Ru) (t : List Ru) : fst1 (v :: t) = if letter v.1 = true then (if spn (v :: t) ≤ 24 then (1, spn (v :: t)) else (0, 0))
    else if dgt v.1 = true then (if numb ((v :: t).take (spn (v :: t))) = true then (2, spn (v :: t)) else (0, 0))
    else if sgn (v :: t) = 0 then (0, 0) else (3, sgn (v :: t)) := rfl
theorem fst1_stop {z : Ru} (hz : Stop z) (a b : List Ru) (ha : a ≠ []) : fst1 (a ++ z :: b) = fst1 a := by
  have h1 := spn_stop hz a b
  have h2 := sgn_stop hz a b ha
  have h3 := spn_le a
  match a, ha with
  | v :: t, _ =>
    have e : (v :: t ++ z :: b) = v :: (t ++ z :: b) := rfl
    rw [e] at h1 h2 ⊢
    have e2 : (v :: (t ++ z :: b)).take (spn (v :: t)) = (v :: t).take (spn (v :: t)) := by rw [← e, List.take_append_of_le_length h3]
    rw [fst1_cons, fst1_cons, h1, h2, e2]
theorem rest_stop {z : Ru} (hz : z.1 = 10) : ∀ (a b : List Ru), rest (a ++ z :: b) = rest a
  | [], b => by simp [rest, hz]
  | v :: t, b => by
    have := rest_stop hz t b
    simp only [List.cons_append, rest, this]

theorem stop_feed : Stop (10, [10]) := by refine ⟨by decide, by decide, by decide, by decide⟩
theorem stop_blank : Stop (32, [32]) := by refine ⟨by decide, by decide, by decide, by decide⟩

/-- What stands behind a line feed alone parts two texts that are alike ahead of it. -/
theorem er_behind {B B' : List Ru} (H : ∀ (ln ln' : Int) (n : Nat), er (wrds B ln 1 n) = er (wrds B' ln' 1 n)) :
    ∀ (f : Nat) (a : List Ru), a.length ≤ f → ∀ (ln co ln' co' : Int) (n : Nat), er (wrds (a ++ (10, [10]) :: B) ln co n) = er (wrds (a ++ (10, [10]) :: B') ln' co' n)
  | _, [], _, ln, co, ln', co', n => by
    show er (wrds ((10, [10]) :: B) ln co n) = er (wrds ((10, [10]) :: B') ln' co' n)
    rw [wrds_cons, wrds_cons]
    simp only [if_true]
    exact H _ _ _
  | 0, v :: t, h, _, _, _, _, _ => by simp at h
  | f + 1, v :: t, h, ln, co, ln', co', n => by
    have ht : t.length ≤ f := by simp at h; omega
    have hle := rest_le (v :: t)
    show er (wrds (v :: (t ++ (10, [10]) :: B)) ln co n) = er (wrds (v :: (t ++ (10, [10]) :: B')) ln' co' n)
    have r1 : rest (v :: (t ++ (10, [10]) :: B)) = rest (v :: t) := rest_stop rfl (v :: t) B
    have r2 : rest (v :: (t ++ (10, [10]) :: B')) = rest (v :: t) := rest_stop rfl (v :: t) B'
    have s1 : fst1 (v :: (t ++ (10, [10]) :: B)) = fst1 (v :: t) := fst1_stop stop_feed (v :: t) B (by simp)
    have s2 : fst1 (v :: (t ++ (10, [10]) :: B')) = fst1 (v :: t) := fst1_stop stop_feed (v :: t) B' (by simp)
    have dr : ∀ (k : Nat) (X : List Ru), k ≤ (v :: t).length → (v :: (t ++ (10, [10]) :: X)).drop k = (v :: t).drop k ++ (10, [10]) :: X := fun k X hk => List.drop_append_of_le_length hk
    have tk : ∀ (k : Nat) (X : List Ru), k ≤ (v :: t).length → (v :: (t ++ (10, [10]) :: X)).take k = (v :: t).take k := fun k X hk => List.take_append_of_le_length hk
    rw [wrds_cons, wrds_cons]
    by_cases c1 : v.1 = 10
    · simp only [if_pos c1]; exact er_behind H f t ht _ _ _ _ _
    simp only [if_neg c1]
    by_cases c2 : v.1 = 32 ∨ v.1 = 9
    · simp only [if_pos c2]; exact er_behind H f t ht _ _ _ _ _
    simp only [if_neg c2]
    by_cases c3 : v.1 = 35
    · simp only [if_pos c3]
      have hp := rest_pos (t := t) c1
      rw [r1, r2, dr _ _ hle, dr _ _ hle]
      exact er_behind H f _ (by rw [List.length_drop]; simp; omega) _ _ _ _ _
    simp only [if_neg c3, s1, s2]
    by_cases c4 : (fst1 (v :: t)).1 = 0
    · simp only [if_pos c4]; rfl
    simp only [if_neg c4]
    by_cases c5 : n = 3000
    · simp only [if_pos c5]; rfl
    simp only [if_neg c5]
    obtain ⟨hm, hm2⟩ := fst1_le v t c4
    rw [dr _ _ hm2, dr _ _ hm2, tk _ _ hm2, tk _ _ hm2]
    exact er_pre_same rfl rfl (er_behind H f _ (by rw [List.length_drop]; simp; omega) _ _ _ _ _)

/-- A remark says nothing. -/
theorem rest_all : ∀ (a : List Ru), (∀ v ∈ a, v.1 ≠ 10) → rest a = a.length
  | [], _ => rfl
  | v :: t, h => by
    unfold rest
    rw [if_neg (h v (by simp)), rest_all t (fun x hx => h x (by simp [hx]))]
    rfl
theorem er_remark (rem beh : List Ru) (hr : ∀ v ∈ rem, v.1 ≠ 10) (ln ln' : Int) (n : Nat) : er (wrds beh ln 1 n) = er (wrds ((35, [35]) :: (rem ++ (10, [10]) :: beh)) ln' 1 n) := by
  have hk : rest ((35, [35]) :: (rem ++ (10, [10]) :: beh)) = rem.length + 1 := by
    have := rest_stop (z := (10, [10])) rfl ((35, [35]) :: rem) beh
    have h35 : ∀ v ∈ ((35, [35]) : Ru) :: rem, v.1 ≠ 10 := by
      intro v hv
      rcases List.mem_cons.1 hv with rfl | hv
      · decide
      · exact hr v hv
    rw [rest_all _ h35] at this
    exact this
  have hd : ((35, [35]) :: (rem ++ (10, [10]) :: beh)).drop (rem.length + 1) = (10, [10]) :: beh := by rw [List.drop_succ_cons, List.drop_left]
  rw [wrds_cons, if_neg (by decide), if_neg (by decide), if_pos (by rfl), hk, hd, wrds_cons, if_pos (by rfl)]
  exact er_place _ _ (Nat.le_refl _) _ _ _ _ _
end Go.Proofs.Ytdekboacjjpjeaa
