import Derived.Lib.TrimUEq
import Derived.Lib.MapLaws

/- Texts as runes: what a text begins with, all its runes, and what a sign of ASCII parts. -/
namespace Go.Proofs.YtccmmkhcacglhaaGreatDoor
open Go.Lib
set_option linter.unusedSimpArgs false
set_option linter.unusedVariables false

/-- The rune that a text begins with, and how many bytes it has; -1: it is none. -/
def nx (l : List UInt8) : Int × Nat :=
  if l = [] then (-1, 0) else if (decodeL l).1 = 65533 ∧ (decodeL l).2 ≤ 1 then (-1, (decodeL l).2) else (((decodeL l).1 : Int), (decodeL l).2)

abbrev Ru := Int × List UInt8

def runesF : Nat → List UInt8 → List Ru
  | 0, _ => []
  | f + 1, l => if l = [] then [] else ((nx l).1, l.take (nx l).2) :: runesF f (l.drop (nx l).2)
def runes (l : List UInt8) : List Ru := runesF l.length l

theorem decodeL_le (l : List UInt8) (h : l ≠ []) : 1 ≤ (decodeL l).2 ∧ (decodeL l).2 ≤ l.length := by
  have hl : 1 ≤ l.length := List.length_pos_iff.2 h
  rw [decodeL_N]
  rcases decodeN_shape l.length (l.getD 0 0).toNat (l.getD 1 0).toNat (l.getD 2 0).toNat (l.getD 3 0).toNat with ⟨_, e⟩ | ⟨_, h1, _, _, e⟩ | ⟨_, h1, _, _, _, _, e⟩ | ⟨_, h1, _, _, _, _, _, e⟩ | e <;> rw [e] <;> simp only <;> omega

theorem nx_size {l : List UInt8} (h : l ≠ []) : (nx l).2 = (decodeL l).2 := by
  unfold nx
  rw [if_neg h]
  split <;> rfl
theorem nx_congr {a b : List UInt8} (ha : a ≠ []) (hb : b ≠ []) (h : decodeL a = decodeL b) : nx a = nx b := by
  unfold nx
  rw [if_neg ha, if_neg hb, h]
theorem nx_pos {l : List UInt8} (h : l ≠ []) : 1 ≤ (nx l).2 := by rw [nx_size h]; exact (decodeL_le l h).1
theorem nx_le {l : List UInt8} (h : l ≠ []) : (nx l).2 ≤ l.length := by rw [nx_size h]; exact (decodeL_le l h).2

theorem runesF_nil (f : Nat) : runesF f [] = [] := by cases f <;> simp [runesF]
theorem runesF_more : ∀ (f : Nat) (l : List UInt8), l.length ≤ f → runesF f l = runesF l.length l
  | 0, l, h => by
    have : l = [] := List.eq_nil_of_length_eq_zero (by omega)
    subst this; rfl
  | f + 1, l, h => by
    by_cases hl : l = []
    · subst hl; rw [runesF_nil, runesF_nil]
    · obtain ⟨n, hn⟩ : ∃ n, l.length = n + 1 := ⟨l.length - 1, by have := List.length_pos_iff.2 hl; omega⟩
      have h1 := nx_pos hl
      have hd : (l.drop (nx l).2).length ≤ n := by rw [List.length_drop]; omega
      rw [hn]
      simp only [runesF, if_neg hl]
      rw [runesF_more f _ (by omega), runesF_more n _ hd]
theorem runes_nil : runes [] = [] := rfl
theorem runes_cons {l : List UInt8} (h : l ≠ []) : runes l = ((nx l).1, l.take (nx l).2) :: runes (l.drop (nx l).2) := by
  obtain ⟨n, hn⟩ : ∃ n, l.length = n + 1 := ⟨l.length - 1, by have := List.length_pos_iff.2 h; omega⟩
  have h1 := nx_pos h
  unfold runes
  rw [hn]
  simp only [runesF, if_neg h]
  rw [runesF_more n _ (by rw [List.length_drop]; omega)]

theorem nx_ascii {c : UInt8} (h : c.toNat < 128) (r : List UInt8) : nx (c :: r) = ((c.toNat : Int), 1) := by
  have e : decodeL (c :: r) = (c.toNat, 1) := by rw [decodeL_N]; exact decodeN_ascii _ _ _ _ _ h
  unfold nx
  rw [if_neg (by simp), e, if_neg (by simp only; omega)]
theorem runes_ascii {c : UInt8} (h : c.toNat < 128) (r : List UInt8) : runes (c :: r) = ((c.toNat : Int), [c]) :: runes r := by
  rw [runes_cons (by simp), nx_ascii h]
  rfl
theorem nx_big {c : UInt8} (h : ¬ c.toNat < 128) (r : List UInt8) : (nx (c :: r)).1 = -1 ∨ 128 ≤ (nx (c :: r)).1 := by
  unfold nx
  rw [if_neg (by simp)]
  split
  · exact .inl rfl
  · right
    have e := decodeL_N (c :: r)
    rcases decodeN_shape (c :: r).length ((c :: r).getD 0 0).toNat ((c :: r).getD 1 0).toNat ((c :: r).getD 2 0).toNat ((c :: r).getD 3 0).toNat with ⟨hb, _⟩ | ⟨_, _, _, _, e2⟩ | ⟨_, _, _, _, _, _, e2⟩ | ⟨_, _, _, _, _, _, _, e2⟩ | e2
    · simp at hb; omega
    all_goals (rw [e, e2]; simp only; omega)

/-- A rune's bytes, whatever stands behind them. -/
def Good (v : Ru) : Prop := v.2 ≠ [] ∧ ∀ b, nx (v.2 ++ b) = (v.1, v.2.length)

theorem runes_good {v : Ru} (h : Good v) (b : List UInt8) : runes (v.2 ++ b) = v :: runes b := by
  rw [runes_cons (by intro e; exact h.1 (List.append_eq_nil_iff.1 e).1), h.2 b]
  simp only [List.take_left, List.drop_left]

/-- The bytes of runes. -/
def byt (vs : List Ru) : List UInt8 := vs.flatMap (·.2)
theorem byt_cons (v : Ru) (vs : List Ru) : byt (v :: vs) = v.2 ++ byt vs := rfl
theorem byt_append (a b : List Ru) : byt (a ++ b) = byt a ++ byt b := by simp [byt]

theorem runes_goods : ∀ (vs : List Ru) (b : List UInt8), (∀ v ∈ vs, Good v) → runes (byt vs ++ b) = vs ++ runes b
  | [], b, _ => rfl
  | v :: vs, b, h => by
    rw [byt_cons, List.append_assoc, runes_good (h v (by simp)), runes_goods vs b (fun x hx => h x (by simp [hx]))]
    rfl

/-- The runes of a text make the text. -/
theorem byt_runes : ∀ (n : Nat) (l : List UInt8), l.length ≤ n → byt (runes l) = l
  | 0, l, h => by
    have : l = [] := List.eq_nil_of_length_eq_zero (by omega)
    subst this; rfl
  | n + 1, l, h => by
    by_cases hl : l = []
    · subst hl; rfl
    · have h1 := nx_pos hl
      rw [runes_cons hl, byt_cons, byt_runes n _ (by rw [List.length_drop]; omega), List.take_append_drop]

theorem getD_app_lt {a b : List UInt8} {i : Nat} (h : i < a.length) : (a ++ b).getD i 0 = a.getD i 0 := by simp [List.getD, List.getElem?_append_left h]

/-- What is told of the bytes that a rune has is told of any text that begins with them. -/
theorem good_of {l : List UInt8} (hl : l ≠ []) (hr : (nx l).1 ≠ -1) : Good ((nx l).1, l.take (nx l).2) := by
  have hlen := List.length_pos_iff.2 hl
  have hle := nx_le hl
  have hps := nx_pos hl
  have htl : (l.take (nx l).2).length = (nx l).2 := by rw [List.length_take]; omega
  have hne : l.take (nx l).2 ≠ [] := by intro e; rw [e] at htl; simp at htl; omega
  refine ⟨hne, fun b => ?_⟩
  show nx (l.take (nx l).2 ++ b) = ((nx l).1, (l.take (nx l).2).length)
  rw [htl]
  have hnx : nx l = (((decodeL l).1 : Int), (decodeL l).2) := by
    unfold nx at hr ⊢
    rw [if_neg hl] at hr ⊢
    split
    · rename_i h; rw [if_pos h] at hr; exact absurd rfl hr
    · rfl
  have key : decodeL (l.take (nx l).2 ++ b) = decodeL l := by
    have g : ∀ i, i < (nx l).2 → (l.take (nx l).2 ++ b).getD i 0 = l.getD i 0 := fun i hi => by rw [getD_app_lt (by omega), getD_takeU _ _ _ hi]
    have hL : (nx l).2 ≤ (l.take (nx l).2 ++ b).length := by rw [List.length_append]; omega
    have hsz := congrArg Prod.snd hnx
    simp only at hsz
    rw [decodeL_N, decodeL_N]
    have e := decodeL_N l
    rcases decodeN_shape l.length (l.getD 0 0).toNat (l.getD 1 0).toNat (l.getD 2 0).toNat (l.getD 3 0).toNat with ⟨h0, e2⟩ | ⟨h0, h1, h2, h3, e2⟩ | ⟨h0, h1, h2, h3, h4, h5, e2⟩ | ⟨h0, h1, h2, h3, h4, h5, h6, e2⟩ | e2
    · rw [g 0 (by omega), e2, decodeN_ascii _ _ _ _ _ h0]
    · have k2 : (nx l).2 = 2 := by rw [hsz, e, e2]
      rw [g 0 (by omega), g 1 (by omega), e2]
      unfold decodeN
      rw [if_neg (by omega), if_pos ⟨h0, by omega, h2⟩, if_pos h3]
    · have k3 : (nx l).2 = 3 := by rw [hsz, e, e2]
      rw [g 0 (by omega), g 1 (by omega), g 2 (by omega), e2]
      unfold decodeN
      rw [if_neg (by omega), if_neg (by omega), if_pos ⟨h0, ⟨by omega, h2⟩, ⟨by omega, h3⟩⟩, if_pos ⟨h4, by omega⟩]
    · have k4 : (nx l).2 = 4 := by rw [hsz, e, e2]
      rw [g 0 (by omega), g 1 (by omega), g 2 (by omega), g 3 (by omega), e2]
      unfold decodeN
      rw [if_neg (by omega), if_neg (by omega), if_neg (by omega), if_pos ⟨h0, ⟨by omega, h2⟩, ⟨by omega, h3⟩, ⟨by omega, h4⟩⟩, if_pos ⟨h5, by omega⟩]
    · exfalso
      apply hr
      unfold nx
      rw [if_neg hl, e, e2, if_pos (by simp)]
  have hne2 : l.take (nx l).2 ++ b ≠ [] := by intro e; exact hne (List.append_eq_nil_iff.1 e).1
  exact nx_congr hne2 hl key

theorem stop1 (m b0 c c2 c3 b1 b2 b3 : Nat) (hc : c / 64 ≠ 2) : decodeN (1 + (m + 1)) b0 c c2 c3 = decodeN 1 b0 b1 b2 b3 := by
  by_cases h : b0 < 128
  · rw [decodeN_ascii _ _ _ _ _ h, decodeN_ascii _ _ _ _ _ h]
  · rw [decodeN_alone _ _ _ _ _ (by omega) (.inr hc), decodeN_alone _ _ _ _ _ (by omega) (.inl (Nat.le_refl _))]
set_option maxRecDepth 100000 in
theorem stop2 (m b0 b1 c c3 b2 b3 : Nat) (hc : c / 64 ≠ 2) : decodeN (2 + (m + 1)) b0 b1 c c3 = decodeN 2 b0 b1 b2 b3 := by
  unfold decodeN
  repeat' split
  all_goals first | rfl | (exfalso; omega)
set_option maxRecDepth 100000 in
theorem stop3 (m b0 b1 b2 c b3 : Nat) (hc : c / 64 ≠ 2) : decodeN (3 + (m + 1)) b0 b1 b2 c = decodeN 3 b0 b1 b2 b3 := by
  unfold decodeN
  repeat' split
  all_goals first | rfl | (exfalso; omega)
set_option maxRecDepth 100000 in
theorem stop4 (n m b0 b1 b2 b3 : Nat) (h : 3 < n) : decodeN (n + (m + 1)) b0 b1 b2 b3 = decodeN n b0 b1 b2 b3 := by
  unfold decodeN
  repeat' split
  all_goals first | rfl | (exfalso; omega)

/-- A sign of ASCII behind a text: the text's own runes stay as they are. -/
theorem decodeL_stop {a : List UInt8} (ha : a ≠ []) {c : UInt8} (hc : c.toNat < 128) (b : List UInt8) : decodeL (a ++ c :: b) = decodeL a := by
  rw [decodeL_N, decodeL_N]
  have hlen := List.length_pos_iff.2 ha
  have g : ∀ i, i < a.length → (a ++ c :: b).getD i 0 = a.getD i 0 := fun i hi => getD_app_lt hi
  have gc : (a ++ c :: b).getD a.length 0 = c := by simp [List.getD]
  have hL : (a ++ c :: b).length = a.length + (b.length + 1) := by simp
  have c64 : c.toNat / 64 ≠ 2 := by omega
  rw [g 0 hlen, hL]
  rcases Nat.lt_or_ge 1 a.length with h1 | h1
  · rw [g 1 h1]
    rcases Nat.lt_or_ge 2 a.length with h2 | h2
    · rw [g 2 h2]
      rcases Nat.lt_or_ge 3 a.length with h3 | h3
      · rw [g 3 h3]
        exact stop4 _ _ _ _ _ _ h3
      · have e3 : a.length = 3 := by omega
        rw [e3] at gc ⊢
        rw [gc]
        exact stop3 _ _ _ _ _ _ c64
    · have e2 : a.length = 2 := by omega
      rw [e2] at gc ⊢
      rw [gc]
      exact stop2 _ _ _ _ _ _ _ c64
  · have e1 : a.length = 1 := by omega
    rw [e1] at gc ⊢
    rw [gc]
    exact stop1 _ _ _ _ _ _ _ _ c64
theorem nx_stop {a : List UInt8} (ha : a ≠ []) {c : UInt8} (hc : c.toNat < 128) (b : List UInt8) : nx (a ++ c :: b) = nx a := by
  unfold nx
  rw [if_neg ha, if_neg (by simp), decodeL_stop ha hc b]
theorem runes_stop : ∀ (n : Nat) (a : List UInt8), a.length ≤ n → ∀ {c : UInt8}, c.toNat < 128 → ∀ b, runes (a ++ c :: b) = runes a ++ runes (c :: b)
  | 0, a, h, c, hc, b => by
    have : a = [] := List.eq_nil_of_length_eq_zero (by omega)
    subst this; rfl
  | n + 1, a, h, c, hc, b => by
    by_cases ha : a = []
    · subst ha; rfl
    · have h1 := nx_pos ha
      have h2 := nx_le ha
      rw [runes_cons (by simp : a ++ c :: b ≠ []), runes_cons ha, nx_stop ha hc b, List.take_append_of_le_length h2, List.drop_append_of_le_length h2, runes_stop n _ (by rw [List.length_drop]; omega) hc b]
      rfl

/-- Every rune of a text that is one is good. -/
theorem runes_are_good : ∀ (n : Nat) (l : List UInt8), l.length ≤ n → ∀ v ∈ runes l, v.1 ≠ -1 → Good v
  | 0, l, h, v, hv, hr => by
    have : l = [] := List.eq_nil_of_length_eq_zero (by omega)
    subst this; cases hv
  | n + 1, l, h, v, hv, hr => by
    by_cases hl : l = []
    · subst hl; cases hv
    · have h1 := nx_pos hl
      rw [runes_cons hl] at hv
      rcases List.mem_cons.1 hv with rfl | hv
      · exact good_of hl hr
      · exact runes_are_good n _ (by rw [List.length_drop]; omega) v hv hr
end Go.Proofs.YtccmmkhcacglhaaGreatDoor

/- The words of runes: what the document says, and that they are the same written again, a line further down, beside a remark. -/
namespace Go.Proofs.YtccmmkhcacglhaaGreatDoor
open Go.Lib
set_option linter.unusedSimpArgs false
set_option linter.unusedVariables false

def letter (r : Int) : Bool := decide (97 ≤ r ∧ r ≤ 122 ∨ 65 ≤ r ∧ r ≤ 90 ∨ 1072 ≤ r ∧ r ≤ 1103)
def dgt (r : Int) : Bool := decide (48 ≤ r ∧ r ≤ 57)
def insd (r : Int) : Bool := letter r || dgt r || r == 95

/-- How many runes that may stand in a name runes begin with. -/
def spn : List Ru → Nat
  | [] => 0
  | v :: t => if insd v.1 = true then spn t + 1 else 0
def val (n : Int) : List Ru → Int
  | [] => n
  | v :: t => val (10 * n + (v.1 - 48)) t
/-- Are they a number? -/
def numb (rs : List Ru) : Bool :=
  decide (1 ≤ rs.length ∧ rs.length ≤ 10) && !(decide ((rs.headD (0, [])).1 = 48) && decide (1 < rs.length)) && rs.all (fun v => dgt v.1) && decide (val 0 rs ≤ 1000000000)
def one (a : Int) : Nat := if a = 123 ∨ a = 125 ∨ a = 40 ∨ a = 41 ∨ a = 61 ∨ a = 33 ∨ a = 60 ∨ a = 43 ∨ a = 45 ∨ a = 42 then 1 else 0
def pair (a b : Int) : Bool := decide (b = 61 ∧ (a = 61 ∨ a = 33 ∨ a = 60) ∨ a = 38 ∧ b = 38 ∨ a = 124 ∧ b = 124)
/-- How many runes of a sign runes begin with. -/
def sgn : List Ru → Nat
  | [] => 0
  | [v] => one v.1
  | v :: u :: _ => if pair v.1 u.1 = true then 2 else one v.1
/-- The kind of the word that runes begin with, and how many of them it has; 0: there is none. -/
def fst1 : List Ru → Nat × Nat
  | [] => (0, 0)
  | v :: t => if letter v.1 = true then (if spn (v :: t) ≤ 24 then (1, spn (v :: t)) else (0, 0))
    else if dgt v.1 = true then (if numb ((v :: t).take (spn (v :: t))) = true then (2, spn (v :: t)) else (0, 0))
    else if sgn (v :: t) = 0 then (0, 0) else (3, sgn (v :: t))

/-- A word: its kind, its runes, its place. -/
abbrev Wd := Nat × List Ru × Int × Int
/-- The words, a place, an error. -/
abbrev Rs := List Wd × (Int × Int) × Int
def pre (w : Wd) (r : Rs) : Rs := if r.2.2 = 0 then (w :: r.1, r.2) else r
/-- How many runes there are ahead of the line's end. -/
def rest : List Ru → Nat
  | [] => 0
  | v :: t => if v.1 = 10 then 0 else rest t + 1

def wrd : Nat → List Ru → Int → Int → Nat → Rs
  | 0, _, _, _, _ => ([], (0, 0), 0)
  | _ + 1, [], _, _, _ => ([], (0, 0), 0)
  | f + 1, v :: t, ln, co, n =>
    if v.1 = 10 then wrd f t (ln + 1) 1 n
    else if v.1 = 32 ∨ v.1 = 9 then wrd f t ln (co + 1) n
    else if v.1 = 35 then wrd f ((v :: t).drop (rest (v :: t))) ln (co + rest (v :: t)) n
    else if (fst1 (v :: t)).1 = 0 then ([], (ln, co), 11)
    else if n = 3000 then ([], (ln, co), 4)
    else pre ((fst1 (v :: t)).1, (v :: t).take (fst1 (v :: t)).2, ln, co) (wrd f ((v :: t).drop (fst1 (v :: t)).2) ln (co + (fst1 (v :: t)).2) (n + 1))
def wrds (rs : List Ru) (ln co : Int) (n : Nat) : Rs := wrd rs.length rs ln co n

theorem spn_le : ∀ rs : List Ru, spn rs ≤ rs.length
  | [] => Nat.le_refl _
  | v :: t => by
    unfold spn
    split
    · have := spn_le t; simp; omega
    · simp
theorem spn_pos {v : Ru} {t : List Ru} (h : insd v.1 = true) : 1 ≤ spn (v :: t) := by unfold spn; rw [if_pos h]; omega
theorem letter_insd {r : Int} (h : letter r = true) : insd r = true := by simp [insd, h]
theorem dgt_insd {r : Int} (h : dgt r = true) : insd r = true := by simp [insd, h]
theorem one_le (a : Int) : one a ≤ 1 := by unfold one; split <;> omega
theorem sgn_le : ∀ rs : List Ru, sgn rs ≤ rs.length
  | [] => Nat.le_refl _
  | [v] => one_le _
  | v :: u :: t => by
    have := one_le v.1
    show (if pair v.1 u.1 = true then 2 else one v.1) ≤ _
    split <;> simp <;> omega
theorem fst1_le (v : Ru) (t : List Ru) (h : (fst1 (v :: t)).1 ≠ 0) : 1 ≤ (fst1 (v :: t)).2 ∧ (fst1 (v :: t)).2 ≤ (v :: t).length := by
  have h1 := spn_le (v :: t)
  have h2 := sgn_le (v :: t)
  unfold fst1 at h ⊢
  by_cases a : letter v.1 = true
  · have := spn_pos (t := t) (letter_insd a)
    simp only [if_pos a] at h ⊢
    by_cases b : spn (v :: t) ≤ 24
    · simp only [if_pos b]; exact ⟨this, h1⟩
    · simp only [if_neg b] at h; exact absurd rfl h
  · simp only [if_neg a] at h ⊢
    by_cases d : dgt v.1 = true
    · have := spn_pos (t := t) (dgt_insd d)
      simp only [if_pos d] at h ⊢
      by_cases b : numb ((v :: t).take (spn (v :: t))) = true
      · simp only [if_pos b]; exact ⟨this, h1⟩
      · simp only [if_neg b] at h; exact absurd rfl h
    · simp only [if_neg d] at h ⊢
      by_cases b : sgn (v :: t) = 0
      · simp only [if_pos b] at h; exact absurd rfl h
      · simp only [if_neg b]; exact ⟨by omega, h2⟩
theorem rest_le : ∀ rs : List Ru, rest rs ≤ rs.length
  | [] => Nat.le_refl _
  | v :: t => by
    have := rest_le t
    unfold rest
    split <;> simp <;> omega
theorem rest_pos {v : Ru} {t : List Ru} (h : v.1 ≠ 10) : 1 ≤ rest (v :: t) := by unfold rest; rw [if_neg h]; omega

theorem wrd_nil (f : Nat) (ln co : Int) (n : Nat) : wrd f [] ln co n = ([], (0, 0), 0) := by cases f <;> rfl
theorem wrd_more : ∀ (f : Nat) (rs : List Ru) (ln co : Int) (n : Nat), rs.length ≤ f → wrd f rs ln co n = wrds rs ln co n
  | 0, rs, ln, co, n, h => by
    have : rs = [] := List.eq_nil_of_length_eq_zero (by omega)
    subst this; rfl
  | f + 1, [], ln, co, n, h => rfl
  | f + 1, v :: t, ln, co, n, h => by
    have ht : t.length ≤ f := by simp at h; omega
    unfold wrds
    simp only [List.length_cons, wrd]
    by_cases c1 : v.1 = 10
    · simp only [if_pos c1]; rw [wrd_more f t _ _ _ ht]; rfl
    simp only [if_neg c1]
    by_cases c2 : v.1 = 32 ∨ v.1 = 9
    · simp only [if_pos c2]; rw [wrd_more f t _ _ _ ht]; rfl
    simp only [if_neg c2]
    by_cases c3 : v.1 = 35
    · simp only [if_pos c3]
      have hp := rest_pos (t := t) c1
      have hd : ((v :: t).drop (rest (v :: t))).length ≤ t.length := by rw [List.length_drop]; simp; omega
      rw [wrd_more f _ _ _ _ (by omega), wrd_more t.length _ _ _ _ hd]
    simp only [if_neg c3]
    by_cases c4 : (fst1 (v :: t)).1 = 0
    · simp only [if_pos c4]
    simp only [if_neg c4]
    have hm := (fst1_le v t c4).1
    have hd : ((v :: t).drop (fst1 (v :: t)).2).length ≤ t.length := by rw [List.length_drop]; simp; omega
    rw [wrd_more f _ _ _ _ (by omega), wrd_more t.length _ _ _ _ hd]

theorem wrds_nil (ln co : Int) (n : Nat) : wrds [] ln co n = ([], (0, 0), 0) := rfl
theorem wrds_cons (v : Ru) (t : List Ru) (ln co : Int) (n : Nat) : wrds (v :: t) ln co n =
    if v.1 = 10 then wrds t (ln + 1) 1 n
    else if v.1 = 32 ∨ v.1 = 9 then wrds t ln (co + 1) n
    else if v.1 = 35 then wrds ((v :: t).drop (rest (v :: t))) ln (co + rest (v :: t)) n
    else if (fst1 (v :: t)).1 = 0 then ([], (ln, co), 11)
    else if n = 3000 then ([], (ln, co), 4)
    else pre ((fst1 (v :: t)).1, (v :: t).take (fst1 (v :: t)).2, ln, co) (wrds ((v :: t).drop (fst1 (v :: t)).2) ln (co + (fst1 (v :: t)).2) (n + 1)) := by
  have hw : wrds (v :: t) ln co n = wrd (t.length + 1) (v :: t) ln co n := rfl
  rw [hw]
  simp only [wrd]
  by_cases c1 : v.1 = 10
  · simp only [if_pos c1]; rfl
  simp only [if_neg c1]
  by_cases c2 : v.1 = 32 ∨ v.1 = 9
  · simp only [if_pos c2]; rfl
  simp only [if_neg c2]
  by_cases c3 : v.1 = 35
  · simp only [if_pos c3]
    have hp := rest_pos (t := t) c1
    rw [wrd_more t.length _ _ _ _ (by rw [List.length_drop]; simp; omega)]
  simp only [if_neg c3]
  by_cases c4 : (fst1 (v :: t)).1 = 0
  · simp only [if_pos c4]
  simp only [if_neg c4]
  have hm := (fst1_le v t c4).1
  rw [wrd_more t.length _ _ _ _ (by rw [List.length_drop]; simp; omega)]

/-- Kinds and runes alone, and the error. -/
def er (r : Rs) : List (Nat × List Ru) × Int := (r.1.map (fun w => (w.1, w.2.1)), r.2.2)
theorem er_pre (w : Wd) (r : Rs) : er (pre w r) = if r.2.2 = 0 then ((w.1, w.2.1) :: (er r).1, (er r).2) else er r := by
  unfold pre
  split <;> rfl
theorem er_snd (r : Rs) : (er r).2 = r.2.2 := rfl
theorem er_pre_same {w w' : Wd} {r r' : Rs} (hk : w.1 = w'.1) (ht : w.2.1 = w'.2.1) (h : er r = er r') : er (pre w r) = er (pre w' r') := by
  have h2 : (er r).2 = (er r').2 := congrArg Prod.snd h
  rw [er_snd, er_snd] at h2
  rw [er_pre, er_pre, hk, ht, h, h2]

/-- Places are nothing to kinds, texts and errors. -/
theorem er_place : ∀ (f : Nat) (rs : List Ru), rs.length ≤ f → ∀ (ln co ln' co' : Int) (n : Nat), er (wrds rs ln co n) = er (wrds rs ln' co' n)
  | 0, rs, h, ln, co, ln', co', n => by
    have : rs = [] := List.eq_nil_of_length_eq_zero (by omega)
    subst this; rfl
  | f + 1, [], h, _, _, _, _, _ => rfl
  | f + 1, v :: t, h, ln, co, ln', co', n => by
    have ht : t.length ≤ f := by simp at h; omega
    rw [wrds_cons, wrds_cons]
    by_cases c1 : v.1 = 10
    · simp only [if_pos c1]; exact er_place f t ht _ _ _ _ _
    simp only [if_neg c1]
    by_cases c2 : v.1 = 32 ∨ v.1 = 9
    · simp only [if_pos c2]; exact er_place f t ht _ _ _ _ _
    simp only [if_neg c2]
    by_cases c3 : v.1 = 35
    · simp only [if_pos c3]
      have hp := rest_pos (t := t) c1
      exact er_place f _ (by rw [List.length_drop]; simp; omega) _ _ _ _ _
    simp only [if_neg c3]
    by_cases c4 : (fst1 (v :: t)).1 = 0
    · simp only [if_pos c4]; rfl
    simp only [if_neg c4]
    by_cases c5 : n = 3000
    · simp only [if_pos c5]; rfl
    simp only [if_neg c5]
    have hm := (fst1_le v t c4).1
    exact er_pre_same rfl rfl (er_place f _ (by rw [List.length_drop]; simp; omega) _ _ _ _ _)

/-- A line further down. -/
def up (r : Rs) : Rs := (r.1.map (fun w => (w.1, w.2.1, w.2.2.1 + 1, w.2.2.2)), (if r.2.2 = 0 then r.2.1 else (r.2.1.1 + 1, r.2.1.2)), r.2.2)
theorem up_pre (w : Wd) (r : Rs) : up (pre w r) = pre (w.1, w.2.1, w.2.2.1 + 1, w.2.2.2) (up r) := by
  unfold pre
  by_cases h : r.2.2 = 0
  · rw [if_pos h, if_pos (show (up r).2.2 = 0 from h)]; rfl
  · rw [if_neg h, if_neg (show ¬ (up r).2.2 = 0 from h)]
theorem wrds_up : ∀ (f : Nat) (rs : List Ru), rs.length ≤ f → ∀ (ln co : Int) (n : Nat), wrds rs (ln + 1) co n = up (wrds rs ln co n)
  | 0, rs, h, ln, co, n => by
    have : rs = [] := List.eq_nil_of_length_eq_zero (by omega)
    subst this; rfl
  | f + 1, [], h, _, _, _ => rfl
  | f + 1, v :: t, h, ln, co, n => by
    have ht : t.length ≤ f := by simp at h; omega
    rw [wrds_cons, wrds_cons]
    by_cases c1 : v.1 = 10
    · simp only [if_pos c1]; exact wrds_up f t ht _ _ _
    simp only [if_neg c1]
    by_cases c2 : v.1 = 32 ∨ v.1 = 9
    · simp only [if_pos c2]; exact wrds_up f t ht _ _ _
    simp only [if_neg c2]
    by_cases c3 : v.1 = 35
    · simp only [if_pos c3]
      have hp := rest_pos (t := t) c1
      exact wrds_up f _ (by rw [List.length_drop]; simp; omega) _ _ _
    simp only [if_neg c3]
    by_cases c4 : (fst1 (v :: t)).1 = 0
    · simp only [if_pos c4]; rfl
    simp only [if_neg c4]
    by_cases c5 : n = 3000
    · simp only [if_pos c5]; rfl
    simp only [if_neg c5]
    have hm := (fst1_le v t c4).1
    rw [up_pre, wrds_up f _ (by rw [List.length_drop]; simp; omega)]

/-- A rune that is no part of a word: a blank, a line feed. -/
def Stop (z : Ru) : Prop := insd z.1 = false ∧ z.1 ≠ 61 ∧ z.1 ≠ 38 ∧ z.1 ≠ 124
theorem spn_stop {z : Ru} (hz : Stop z) : ∀ (a b : List Ru), spn (a ++ z :: b) = spn a
  | [], b => by simp [spn, hz.1]
  | v :: t, b => by
    have := spn_stop hz t b
    simp only [List.cons_append, spn, this]
theorem sgn_stop {z : Ru} (hz : Stop z) : ∀ (a b : List Ru), a ≠ [] → sgn (a ++ z :: b) = sgn a
  | [], b, h => absurd rfl h
  | [v], b, h => by
    show (if pair v.1 z.1 = true then 2 else one v.1) = one v.1
    rw [if_neg]
    intro hp
    rcases of_decide_eq_true hp with ⟨h1, _⟩ | ⟨_, h1⟩ | ⟨_, h1⟩
    · exact hz.2.1 h1
    · exact hz.2.2.1 h1
    · exact hz.2.2.2 h1
  | v :: u :: t, b, h => rfl
theorem fst1_cons (v : Ru) (t : List Ru) : fst1 (v :: t) = if letter v.1 = true then (if spn (v :: t) ≤ 24 then (1, spn (v :: t)) else (0, 0))
    else if dgt v.1 = true then (if numb ((v :: t).take (spn (v :: t))) = true then (2, spn (v :: t)) else (0, 0))
    else if sgn (v :: t) = 0 then (0, 0) else (3, sgn (v :: t)) := rfl
theorem fst1_stop {z : Ru} (hz : Stop z) (a b : List Ru) (ha : a ≠ []) : fst1 (a ++ z :: b) = fst1 a := by
  have h1 := spn_stop hz a b
  have h2 := sgn_stop hz a b ha
  have h3 := spn_le a
  match a, ha with
  | v :: t, _ =>
    have e : (v :: t ++ z :: b) = v :: (t ++ z :: b) := rfl
    rw [e] at h1 h2 ⊢
    have e2 : (v :: (t ++ z :: b)).take (spn (v :: t)) = (v :: t).take (spn (v :: t)) := by rw [← e, List.take_append_of_le_length h3]
    rw [fst1_cons, fst1_cons, h1, h2, e2]
theorem rest_stop {z : Ru} (hz : z.1 = 10) : ∀ (a b : List Ru), rest (a ++ z :: b) = rest a
  | [], b => by simp [rest, hz]
  | v :: t, b => by
    have := rest_stop hz t b
    simp only [List.cons_append, rest, this]

theorem stop_feed : Stop (10, [10]) := by refine ⟨by decide, by decide, by decide, by decide⟩
theorem stop_blank : Stop (32, [32]) := by refine ⟨by decide, by decide, by decide, by decide⟩

/-- What stands behind a line feed alone parts two texts that are alike ahead of it. -/
theorem er_behind {B B' : List Ru} (H : ∀ (ln ln' : Int) (n : Nat), er (wrds B ln 1 n) = er (wrds B' ln' 1 n)) :
    ∀ (f : Nat) (a : List Ru), a.length ≤ f → ∀ (ln co ln' co' : Int) (n : Nat), er (wrds (a ++ (10, [10]) :: B) ln co n) = er (wrds (a ++ (10, [10]) :: B') ln' co' n)
  | _, [], _, ln, co, ln', co', n => by
    show er (wrds ((10, [10]) :: B) ln co n) = er (wrds ((10, [10]) :: B') ln' co' n)
    rw [wrds_cons, wrds_cons]
    simp only [if_true]
    exact H _ _ _
  | 0, v :: t, h, _, _, _, _, _ => by simp at h
  | f + 1, v :: t, h, ln, co, ln', co', n => by
    have ht : t.length ≤ f := by simp at h; omega
    have hle := rest_le (v :: t)
    show er (wrds (v :: (t ++ (10, [10]) :: B)) ln co n) = er (wrds (v :: (t ++ (10, [10]) :: B')) ln' co' n)
    have r1 : rest (v :: (t ++ (10, [10]) :: B)) = rest (v :: t) := rest_stop rfl (v :: t) B
    have r2 : rest (v :: (t ++ (10, [10]) :: B')) = rest (v :: t) := rest_stop rfl (v :: t) B'
    have s1 : fst1 (v :: (t ++ (10, [10]) :: B)) = fst1 (v :: t) := fst1_stop stop_feed (v :: t) B (by simp)
    have s2 : fst1 (v :: (t ++ (10, [10]) :: B')) = fst1 (v :: t) := fst1_stop stop_feed (v :: t) B' (by simp)
    have dr : ∀ (k : Nat) (X : List Ru), k ≤ (v :: t).length → (v :: (t ++ (10, [10]) :: X)).drop k = (v :: t).drop k ++ (10, [10]) :: X := fun k X hk => List.drop_append_of_le_length hk
    have tk : ∀ (k : Nat) (X : List Ru), k ≤ (v :: t).length → (v :: (t ++ (10, [10]) :: X)).take k = (v :: t).take k := fun k X hk => List.take_append_of_le_length hk
    rw [wrds_cons, wrds_cons]
    by_cases c1 : v.1 = 10
    · simp only [if_pos c1]; exact er_behind H f t ht _ _ _ _ _
    simp only [if_neg c1]
    by_cases c2 : v.1 = 32 ∨ v.1 = 9
    · simp only [if_pos c2]; exact er_behind H f t ht _ _ _ _ _
    simp only [if_neg c2]
    by_cases c3 : v.1 = 35
    · simp only [if_pos c3]
      have hp := rest_pos (t := t) c1
      rw [r1, r2, dr _ _ hle, dr _ _ hle]
      exact er_behind H f _ (by rw [List.length_drop]; simp; omega) _ _ _ _ _
    simp only [if_neg c3, s1, s2]
    by_cases c4 : (fst1 (v :: t)).1 = 0
    · simp only [if_pos c4]; rfl
    simp only [if_neg c4]
    by_cases c5 : n = 3000
    · simp only [if_pos c5]; rfl
    simp only [if_neg c5]
    obtain ⟨hm, hm2⟩ := fst1_le v t c4
    rw [dr _ _ hm2, dr _ _ hm2, tk _ _ hm2, tk _ _ hm2]
    exact er_pre_same rfl rfl (er_behind H f _ (by rw [List.length_drop]; simp; omega) _ _ _ _ _)

/-- A remark says nothing. -/
theorem rest_all : ∀ (a : List Ru), (∀ v ∈ a, v.1 ≠ 10) → rest a = a.length
  | [], _ => rfl
  | v :: t, h => by
    unfold rest
    rw [if_neg (h v (by simp)), rest_all t (fun x hx => h x (by simp [hx]))]
    rfl
theorem er_remark (rem beh : List Ru) (hr : ∀ v ∈ rem, v.1 ≠ 10) (ln ln' : Int) (n : Nat) : er (wrds beh ln 1 n) = er (wrds ((35, [35]) :: (rem ++ (10, [10]) :: beh)) ln' 1 n) := by
  have hk : rest ((35, [35]) :: (rem ++ (10, [10]) :: beh)) = rem.length + 1 := by
    have := rest_stop (z := (10, [10])) rfl ((35, [35]) :: rem) beh
    have h35 : ∀ v ∈ ((35, [35]) : Ru) :: rem, v.1 ≠ 10 := by
      intro v hv
      rcases List.mem_cons.1 hv with rfl | hv
      · decide
      · exact hr v hv
    rw [rest_all _ h35] at this
    exact this
  have hd : ((35, [35]) :: (rem ++ (10, [10]) :: beh)).drop (rem.length + 1) = (10, [10]) :: beh := by rw [List.drop_succ_cons, List.drop_left]
  rw [wrds_cons, if_neg (by decide), if_neg (by decide), if_pos (by rfl), hk, hd, wrds_cons, if_pos (by rfl)]
  exact er_place _ _ (Nat.le_refl _) _ _ _ _ _
end Go.Proofs.YtccmmkhcacglhaaGreatDoor

/- A text's words, and the three laws of them: written again, a line further down, beside a remark. -/
namespace Go.Proofs.YtccmmkhcacglhaaGreatDoor
open Go.Lib
set_option linter.unusedSimpArgs false
set_option linter.unusedVariables false

def wordsS (l : List UInt8) : Rs := if 12000 < l.length then ([], (1, 1), 4) else wrds (runes l) 1 1 0

theorem spn_take : ∀ rs : List Ru, spn (rs.take (spn rs)) = spn rs
  | [] => rfl
  | v :: t => by
    have := spn_take t
    by_cases h : insd v.1 = true
    · have e : spn (v :: t) = spn t + 1 := if_pos h
      rw [e, List.take_succ_cons]
      show (if insd v.1 = true then spn (t.take (spn t)) + 1 else 0) = spn t + 1
      rw [if_pos h, this]
    · have e : spn (v :: t) = 0 := if_neg h
      rw [e]; rfl
theorem spn_all : ∀ (rs : List Ru), ∀ v ∈ rs.take (spn rs), insd v.1 = true
  | [], v, h => by simp [spn] at h
  | u :: t, v, h => by
    by_cases hu : insd u.1 = true
    · have e : spn (u :: t) = spn t + 1 := if_pos hu
      rw [e, List.take_succ_cons] at h
      rcases List.mem_cons.1 h with rfl | h
      · exact hu
      · exact spn_all t v h
    · have e : spn (u :: t) = 0 := if_neg hu
      rw [e] at h
      simp at h
theorem insd_ne {r : Int} (h : insd r = true) : r ≠ -1 := by
  rintro rfl
  revert h
  decide
theorem one_ne {a : Int} (h : one a ≠ 0) : a ≠ -1 := by
  rintro rfl
  exact h (by decide)
theorem pair_ne {a b : Int} (h : pair a b = true) : a ≠ -1 ∧ b ≠ -1 := by
  have := of_decide_eq_true h
  omega

theorem sgn_take : ∀ rs : List Ru, sgn (rs.take (sgn rs)) = sgn rs
  | [] => rfl
  | [v] => by
    show sgn ([v].take (one v.1)) = one v.1
    have := one_le v.1
    rcases Nat.eq_zero_or_pos (one v.1) with h | h
    · rw [h]; rfl
    · have e : one v.1 = 1 := by omega
      rw [e]
      exact e
  | v :: u :: t => by
    show sgn ((v :: u :: t).take (if pair v.1 u.1 = true then 2 else one v.1)) = if pair v.1 u.1 = true then 2 else one v.1
    by_cases hp : pair v.1 u.1 = true
    · rw [if_pos hp]
      show (if pair v.1 u.1 = true then 2 else one v.1) = 2
      rw [if_pos hp]
    · rw [if_neg hp]
      have := one_le v.1
      rcases Nat.eq_zero_or_pos (one v.1) with h | h
      · rw [h]; rfl
      · have e : one v.1 = 1 := by omega
        rw [e]
        exact e
theorem sgn_ne : ∀ (rs : List Ru), ∀ v ∈ rs.take (sgn rs), v.1 ≠ -1
  | [], v, h => by simp [sgn] at h
  | [u], v, h => by
    have hm := List.mem_of_mem_take h
    rcases List.mem_cons.1 hm with rfl | hm
    · refine one_ne (fun e => ?_)
      have : sgn [v] = 0 := e
      rw [this] at h
      simp at h
    · simp at hm
  | u :: x :: t, v, h => by
    have e : sgn (u :: x :: t) = if pair u.1 x.1 = true then 2 else one u.1 := rfl
    by_cases hp : pair u.1 x.1 = true
    · rw [e, if_pos hp] at h
      simp only [List.take_succ_cons, List.take_zero, List.mem_cons, List.not_mem_nil, or_false] at h
      rcases h with rfl | rfl
      · exact (pair_ne hp).1
      · exact (pair_ne hp).2
    · rw [e, if_neg hp] at h
      have := one_le u.1
      rcases Nat.eq_zero_or_pos (one u.1) with h0 | h0
      · rw [h0] at h; simp at h
      · have e1 : one u.1 = 1 := by omega
        rw [e1] at h
        simp only [List.take_succ_cons, List.take_zero, List.mem_cons, List.not_mem_nil, or_false] at h
        subst h
        exact one_ne (by omega)

/-- A word alone is that word; its runes are runes. -/
theorem fst1_take {v : Ru} {t : List Ru} (h : (fst1 (v :: t)).1 ≠ 0) : fst1 ((v :: t).take (fst1 (v :: t)).2) = fst1 (v :: t) ∧ ∀ x ∈ (v :: t).take (fst1 (v :: t)).2, x.1 ≠ -1 := by
  have hle := fst1_le v t h
  rw [fst1_cons] at h hle ⊢
  by_cases a : letter v.1 = true
  · simp only [if_pos a] at h hle ⊢
    by_cases b : spn (v :: t) ≤ 24
    · simp only [if_pos b] at hle ⊢
      refine ⟨?_, fun x hx => insd_ne (spn_all _ x hx)⟩
      have hs := spn_take (v :: t)
      obtain ⟨m, hm⟩ : ∃ m, spn (v :: t) = m + 1 := ⟨spn (v :: t) - 1, by omega⟩
      rw [hm, List.take_succ_cons] at hs ⊢
      rw [fst1_cons, if_pos a, hs, if_pos (by omega)]
    · simp only [if_neg b] at h; exact absurd rfl h
  · simp only [if_neg a] at h hle ⊢
    by_cases d : dgt v.1 = true
    · simp only [if_pos d] at h hle ⊢
      by_cases b : numb ((v :: t).take (spn (v :: t))) = true
      · simp only [if_pos b] at hle ⊢
        refine ⟨?_, fun x hx => insd_ne (spn_all _ x hx)⟩
        have hs := spn_take (v :: t)
        obtain ⟨m, hm⟩ : ∃ m, spn (v :: t) = m + 1 := ⟨spn (v :: t) - 1, by omega⟩
        rw [hm, List.take_succ_cons] at hs b ⊢
        have e : (v :: t.take m).take (m + 1) = v :: t.take m := by rw [List.take_succ_cons, List.take_take, Nat.min_self]
        rw [fst1_cons, if_neg a, if_pos d, hs, e, if_pos b]
      · simp only [if_neg b] at h; exact absurd rfl h
    · simp only [if_neg d] at h hle ⊢
      by_cases b : sgn (v :: t) = 0
      · simp only [if_pos b] at h; exact absurd rfl h
      · simp only [if_neg b] at hle ⊢
        refine ⟨?_, fun x hx => sgn_ne _ x hx⟩
        have hs := sgn_take (v :: t)
        obtain ⟨m, hm⟩ : ∃ m, sgn (v :: t) = m + 1 := ⟨sgn (v :: t) - 1, by omega⟩
        rw [hm, List.take_succ_cons] at hs ⊢
        rw [fst1_cons, if_neg a, if_neg d, hs, if_neg (by omega)]

theorem pre_ok {w : Wd} {r : Rs} (h : (pre w r).2.2 = 0) : r.2.2 = 0 ∧ (pre w r).1 = w :: r.1 := by
  unfold pre at h ⊢
  by_cases h0 : r.2.2 = 0
  · rw [if_pos h0]; exact ⟨h0, rfl⟩
  · rw [if_neg h0] at h; exact absurd h h0

/-- The runes of words, a blank behind each. -/
def again (X : List Wd) : List Ru := X.flatMap (fun w => w.2.1 ++ [(32, [32])])

theorem wrds_again : ∀ (f : Nat) (rs : List Ru), rs.length ≤ f → ∀ (ln co : Int) (n : Nat), (wrds rs ln co n).2.2 = 0 →
    (∀ w ∈ (wrds rs ln co n).1, ∀ v ∈ w.2.1, v ∈ rs ∧ v.1 ≠ -1) ∧ ∀ ln' co', er (wrds (again (wrds rs ln co n).1) ln' co' n) = er (wrds rs ln co n)
  | 0, rs, h, ln, co, n, _ => by
    have : rs = [] := List.eq_nil_of_length_eq_zero (by omega)
    subst this
    exact ⟨(fun w hw => (by cases hw)), fun _ _ => rfl⟩
  | f + 1, [], h, ln, co, n, _ => ⟨(fun w hw => (by cases hw)), fun _ _ => rfl⟩
  | f + 1, v :: t, h, ln, co, n, h0 => by
    have ht : t.length ≤ f := by simp at h; omega
    have e := wrds_cons v t ln co n
    by_cases c1 : v.1 = 10
    · simp only [if_pos c1] at e
      rw [e] at h0 ⊢
      have ih := wrds_again f t ht _ _ _ h0
      exact ⟨fun w hw x hx => ⟨List.mem_cons_of_mem _ (ih.1 w hw x hx).1, (ih.1 w hw x hx).2⟩, ih.2⟩
    simp only [if_neg c1] at e
    by_cases c2 : v.1 = 32 ∨ v.1 = 9
    · simp only [if_pos c2] at e
      rw [e] at h0 ⊢
      have ih := wrds_again f t ht _ _ _ h0
      exact ⟨fun w hw x hx => ⟨List.mem_cons_of_mem _ (ih.1 w hw x hx).1, (ih.1 w hw x hx).2⟩, ih.2⟩
    simp only [if_neg c2] at e
    by_cases c3 : v.1 = 35
    · simp only [if_pos c3] at e
      have hp := rest_pos (t := t) c1
      rw [e] at h0 ⊢
      have ih := wrds_again f _ (by rw [List.length_drop]; simp; omega) _ _ _ h0
      exact ⟨fun w hw x hx => ⟨List.mem_of_mem_drop (ih.1 w hw x hx).1, (ih.1 w hw x hx).2⟩, ih.2⟩
    simp only [if_neg c3] at e
    by_cases c4 : (fst1 (v :: t)).1 = 0
    · simp only [if_pos c4] at e
      rw [e] at h0; simp at h0
    simp only [if_neg c4] at e
    by_cases c5 : n = 3000
    · simp only [if_pos c5] at e
      rw [e] at h0; simp at h0
    simp only [if_neg c5] at e
    obtain ⟨hm, hm2⟩ := fst1_le v t c4
    obtain ⟨hf, hg⟩ := fst1_take c4
    obtain ⟨k, hk⟩ : ∃ k, (fst1 (v :: t)).1 = k := ⟨_, rfl⟩
    obtain ⟨m, hmm⟩ : ∃ m, (fst1 (v :: t)).2 = m + 1 := ⟨(fst1 (v :: t)).2 - 1, by omega⟩
    rw [hk, hmm] at e
    rw [hmm] at hf hg hm2
    rw [e] at h0 ⊢
    obtain ⟨hr0, hX⟩ := pre_ok h0
    have ih := wrds_again f _ (by rw [List.length_drop]; simp; omega) _ _ _ hr0
    rw [hX]
    constructor
    · intro w hw x hx
      rcases List.mem_cons.1 hw with rfl | hw
      · exact ⟨List.mem_of_mem_take hx, hg x hx⟩
      · exact ⟨List.mem_of_mem_drop (ih.1 w hw x hx).1, (ih.1 w hw x hx).2⟩
    · intro ln' co'
      obtain ⟨Y, hY⟩ : ∃ Y, (wrds ((v :: t).drop (m + 1)) ln (co + ((m + 1 : Nat) : Int)) (n + 1)).1 = Y := ⟨_, rfl⟩
      have hag : again ((k, (v :: t).take (m + 1), ln, co) :: Y) = v :: (t.take m ++ (32, [32]) :: again Y) := by
        simp [again, List.take_succ_cons]
      have hs : fst1 (v :: (t.take m ++ (32, [32]) :: again Y)) = fst1 (v :: t) := by
        rw [← hf, List.take_succ_cons]
        exact fst1_stop stop_blank (v :: t.take m) _ (by simp)
      have hl : (v :: t.take m).length = m + 1 := by rw [← List.take_succ_cons, List.length_take]; omega
      have hd : (v :: (t.take m ++ (32, [32]) :: again Y)).drop (m + 1) = (32, [32]) :: again Y := by
        rw [← hl, ← List.cons_append]; exact List.drop_left
      have htk : (v :: (t.take m ++ (32, [32]) :: again Y)).take (m + 1) = (v :: t).take (m + 1) := by
        rw [← hl, ← List.cons_append, List.take_left, hl, List.take_succ_cons]
      rw [hY] at ih ⊢
      rw [hag, wrds_cons, if_neg c1, if_neg c2, if_neg c3, hs, if_neg c4, if_neg c5, hk, hmm, hd, htk]
      refine er_pre_same rfl rfl ?_
      rw [wrds_cons, if_neg (by decide), if_pos (by decide)]
      exact ih.2 _ _

/-- The text of words, a blank behind each. -/
def text (X : List Wd) : List UInt8 := X.flatMap (fun w => byt w.2.1 ++ [32])
theorem runes_text : ∀ (X : List Wd), (∀ w ∈ X, ∀ v ∈ w.2.1, Good v) → runes (text X) = again X
  | [], _ => rfl
  | w :: X, h => by
    have e : text (w :: X) = byt w.2.1 ++ (32 :: text X) := by simp [text]
    have e2 : again (w :: X) = w.2.1 ++ ((32, [32]) :: again X) := by simp [again]
    rw [e, e2, runes_goods _ _ (h w (by simp)), runes_ascii (by decide), runes_text X (fun x hx => h x (by simp [hx]))]
    rfl

theorem words_again {l : List UInt8} (h : (wordsS l).2.2 = 0) (hs : ¬ 12000 < (text (wordsS l).1).length) : er (wordsS (text (wordsS l).1)) = er (wordsS l) := by
  by_cases hl : 12000 < l.length
  · unfold wordsS at h; rw [if_pos hl] at h; simp at h
  have e : wordsS l = wrds (runes l) 1 1 0 := by unfold wordsS; rw [if_neg hl]
  rw [e] at h hs ⊢
  have ih := wrds_again _ _ (Nat.le_refl _) 1 1 0 h
  have e2 : wordsS (text (wrds (runes l) 1 1 0).1) = wrds (runes (text (wrds (runes l) 1 1 0).1)) 1 1 0 := by unfold wordsS; rw [if_neg hs]
  rw [e2, runes_text _ (fun w hw v hv => runes_are_good _ l (Nat.le_refl _) v (ih.1 w hw v hv).1 (ih.1 w hw v hv).2)]
  exact ih.2 1 1
theorem words_long {l : List UInt8} (h : 12000 < l.length) : wordsS l = ([], (1, 1), 4) := by unfold wordsS; rw [if_pos h]

theorem words_down {l : List UInt8} (h : l.length ≤ 8000) : wordsS (10 :: l) = up (wordsS l) := by
  unfold wordsS
  rw [if_neg (by simp; omega), if_neg (by omega), runes_ascii (by decide), wrds_cons, if_pos (by rfl)]
  exact wrds_up _ _ (Nat.le_refl _) 1 1 0

theorem feed_in : ∀ (n : Nat) (l : List UInt8), l.length ≤ n → ∀ v ∈ runes l, v.1 = 10 → (10 : UInt8) ∈ l
  | 0, l, h, v, hv, _ => by
    have : l = [] := List.eq_nil_of_length_eq_zero (by omega)
    subst this; cases hv
  | n + 1, l, h, v, hv, h10 => by
    match l with
    | [] => cases hv
    | c :: r =>
      by_cases hc : c.toNat < 128
      · rw [runes_ascii hc] at hv
        rcases List.mem_cons.1 hv with rfl | hv
        · have : c.toNat = 10 := by simp only at h10; omega
          have : c = 10 := UInt8.toNat_inj.1 (by rw [this]; rfl)
          simp [this]
        · exact List.mem_cons_of_mem _ (feed_in n r (by simp at h; omega) v hv h10)
      · have h1 := nx_pos (l := c :: r) (by simp)
        rw [runes_cons (by simp)] at hv
        rcases List.mem_cons.1 hv with rfl | hv
        · have := nx_big hc r
          simp only at h10
          omega
        · exact List.mem_of_mem_drop (feed_in n _ (by rw [List.length_drop]; omega) v hv h10)

theorem words_remark {l rem beh : List UInt8} (h1 : l.length ≤ 3000) (h2 : rem.length ≤ 3000) (h3 : beh.length ≤ 3000) (hr : (10 : UInt8) ∉ rem) :
    er (wordsS (l ++ 10 :: beh)) = er (wordsS (l ++ 10 :: 35 :: (rem ++ 10 :: beh))) := by
  unfold wordsS
  rw [if_neg (by simp; omega), if_neg (by simp; omega), runes_stop _ l (Nat.le_refl _) (by decide), runes_stop _ l (Nat.le_refl _) (by decide), runes_ascii (by decide), runes_ascii (by decide), runes_ascii (by decide), runes_stop _ rem (Nat.le_refl _) (by decide), runes_ascii (by decide)]
  exact er_behind (fun ln ln' n => er_remark _ _ (fun v hv e => hr (feed_in _ rem (Nat.le_refl _) v hv e)) ln ln' n) _ _ (Nat.le_refl _) _ _ _ _ _
end Go.Proofs.YtccmmkhcacglhaaGreatDoor
