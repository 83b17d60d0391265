
/- Texts as runes: what a text begins with, all its runes, and what a sign of ASCII parts. -/
import Derived.Lib.TrimUEq
import Derived.Lib.MapLaws
namespace Go.Proofs.Ytdekboacjjpjeaa
open Go.Lib
set_option linter.unusedSimpArgs false
set_option linter.unusedVariables false

/-- The rune that a text begins with, and how many bytes it has; -1: it is none. -/
def nx (l : List UInt8) : Int × Nat :=
  if l = [] then (-1, 0) else if (decodeL l).1 = 65533 ∧ (decodeL l).2 ≤ 1 then (-1, (decodeL l).2) else (((decodeL l).1 : Int), (decodeL l).2)

abbrev Ru := Int × List UInt8

def runesF : Nat → List UInt8 → List Ru
  | 0, _ => []
  | f + 1, l => if l = [] then [] else ((nx l).1, l.take (nx l).2) :: runesF f (l.drop (nx l).2)
def runes (l : List UInt8) : List Ru := runesF l.length l

theorem decodeL_le (l : List UInt8) (h : l ≠ []) : 1 ≤ (decodeL l).2 ∧ (decodeL l).2 ≤ l.length := by
  have hl : 1 ≤ l.length := List.length_pos_iff.2 h
  rw [decodeL_N]
  rcases decodeN_shape l.length (l.getD 0 0).toNat (l.getD 1 0).toNat (l.getD 2 0).toNat (l.getD 3 0).toNat with ⟨_, e⟩ | ⟨_, h1, _, _, e⟩ | ⟨_, h1, _, _, _, _, e⟩ | ⟨_, h1, _, _, _, _, _, e⟩ | e <;> rw [e] <;> simp only <;> omega

theorem nx_size {l : List UInt8} (h : l ≠ []) : (nx l).2 = (decodeL l).2 := by
  unfold nx
  rw [if_neg h]
  split <;> rfl
theorem nx_congr {a b : List UInt8} (ha : a ≠ []) (hb : b ≠ []) (h : decodeL a = decodeL b) : nx a = nx b := by
  unfold nx
  rw [if_neg ha, if_neg hb, h]
theorem nx_pos {l : List UInt8} (h : l ≠ []) : 1 ≤ (nx l).2 := by rw [nx_size h]; exact (decodeL_le l h).1
theorem nx_le {l : List UInt8} (h : l ≠ []) : (nx l).2 ≤ l.length := by rw [nx_size h]; exact (decodeL_le l h).2

theorem runesF_nil (f : Nat) : runesF f [] = [] := by cases f <;> simp [runesF]
theorem runesF_more : ∀ (f : Nat) (l : List UInt8), l.length ≤ f → runesF f l = runesF l.length l
  | 0, l, h => by
    have : l = [] := List.eq_nil_of_length_eq_zero (by omega)
    subst this; rfl
  | f + 1, l, h => by
    by_cases hl : l = []
    · subst hl; rw [runesF_nil, runesF_nil]
    · obtain ⟨n, hn⟩ : ∃ n, l.length = n + 1 := ⟨l.length - 1, by have := List.length_pos_iff.2 hl; omega⟩
      have h1 := nx_pos hl
      have hd : (l.drop (nx l).2).length ≤ n := by rw [List.length_drop]; omega
      rw [hn]
      simp only [runesF, if_neg hl]
      rw [runesF_more f _ (by omega), runesF_more n _ hd]
theorem runes_nil : runes [] = [] := rfl
theorem runes_cons {l : List UInt8} (h : l ≠ []) : runes l = ((nx l).1, l.take (nx l).2) :: runes (l.drop (nx l).2) := by
  obtain ⟨n, hn⟩ : ∃ n, l.length = n + 1 := ⟨l.length - 1, by have := List.length_pos_iff.2 h; omega⟩
  have h1 := nx_pos h
  unfold runes
  rw [hn]
  simp only [runesF, if_neg h]
  rw [runesF_more n _ (by rw [List.length_drop]; omega)]

theorem nx_ascii {c : UInt8} (h : c.toNat < 128) (r : List UInt8) : nx (c :: r) = ((c.toNat : Int), 1) := by
  have e : decodeL (c :: r) = (c.toNat, 1) := by rw [decodeL_N]; exact decodeN_ascii _ _ _ _ _ h
  unfold nx
  rw [if_neg (by simp), e, if_neg (by simp only; omega)]
theorem runes_ascii {c : UInt8} (h : c.toNat < 128) (r : List UInt8) : runes (c :: r) = ((c.toNat : Int), [c]) :: runes r := by
  rw [runes_cons (by simp), nx_ascii h]
  rfl
theorem nx_big {c : UInt8} (h : ¬ c.toNat < 128) (r : List UInt8) : (nx (c :: r)).1 = -1 ∨ 128 ≤ (nx (c :: r)).1 := by
  unfold nx
  rw [if_neg (by simp)]
  split
  · exact .inl rfl
  · right
    have e := decodeL_N (c :: r)
    rcases decodeN_shape (c :: r).length ((c :: r).getD 0 0).toNat ((c :: r).getD 1 0).toNat ((c :: r).getD 2 0).toNat ((c :: r).getD 3 0).toNat with ⟨hb, _⟩ | ⟨_, _, _, _, e2⟩ | ⟨_, _, _, _, _, _, e2⟩ | ⟨_, _, _, _, _, _, _, e2⟩ | e2
    · simp at hb; omega
    all_goals (rw [e, e2]; simp only; omega)

/-- A rune's bytes, whatever stands behind them. -/
def Good (v : Ru) : Prop := v.2 ≠ [] ∧ ∀ b, nx (v.2 ++ b) = (v.1, v.2.length)

theorem runes_good {v : Ru} (h : Good v) (b : List UInt8) : runes (v.2 ++ b) = v :: runes b := by
  rw [runes_cons (by intro e; exact h.1 (List.append_eq_nil_iff.1 e).1), h.2 b]
  simp only [List.take_left, List.drop_left]

/-- The bytes of runes. -/
def byt (vs : List Ru) : List UInt8 := vs.flatMap (·.2)
theorem byt_cons (v : Ru) (vs : List Ru) : byt (v :: vs) = v.2 ++ byt vs := rfl
theorem byt_append (a b : List Ru) : byt (a ++ b) = byt a ++ byt b := by simp [byt]

theorem runes_goods : ∀ (vs : List Ru) (b : List UInt8), (∀ v ∈ vs, Good v) → runes (byt vs ++ b) = vs ++ runes b
  | [], b, _ => rfl
  | v :: vs, b, h => by
    rw [byt_cons, List.append_assoc, runes_good (h v (by simp)), runes_goods vs b (fun x hx => h x (by simp [hx]))]
    rfl

/-- The runes of a text make the text. -/
theorem byt_runes : ∀ (n : Nat) (l : List UInt8), l.length ≤ n → byt (runes l) = l
  | 0, l, h => by
    have : l = [] := List.eq_nil_of_length_eq_zero (by omega)
    subst this; rfl
  | n + 1, l, h => by
    by_cases hl : l = []
    · subst hl; rfl
    · have h1 := nx_pos hl
      rw [runes_cons hl, byt_cons, byt_runes n _ (by rw [List.length_drop]; omega), List.take_append_drop]

theorem getD_app_lt {a b : List UInt8} {i : Nat} (h : i < a.length) : (a ++ b).getD i 0 = a.getD i 0 := by simp [List.getD, List.getElem?_append_left h]

/-- What is told of the bytes that a rune has is told of any text that begins with them. -/
theorem good_of {l : List UInt8} (hl : l ≠ []) (hr : (nx l).1 ≠ -1) : Good ((nx l).1, l.take (nx l).2) := by
  have hlen := List.length_pos_iff.2 hl
  have hle := nx_le hl
  have hps := nx_pos hl
  have htl : (l.take (nx l).2).length = (nx l).2 := by rw [List.length_take]; omega
  have hne : l.take (nx l).2 ≠ [] := by intro e; rw [e] at htl; simp at htl; omega
  refine ⟨hne, fun b => ?_⟩
  show nx (l.take (nx l).2 ++ b) = ((nx l).1, (l.take (nx l).2).length)
  rw [htl]
  have hnx : nx l = (((decodeL l).1 : Int), (decodeL l).2) := by
    unfold nx at hr ⊢
    rw [if_neg hl] at hr ⊢
    split
    · rename_i h; rw [if_pos h] at hr; exact absurd rfl hr
    · rfl
  have key : decodeL (l.take (nx l).2 ++ b) = decodeL l := by
    have g : ∀ i, i < (nx l).2 → (l.take (nx l).2 ++ b).getD i 0 = l.getD i 0 := fun i hi => by rw [getD_app_lt (by omega), getD_takeU _ _ _ hi]
    have hL : (nx l).2 ≤ (l.take (nx l).2 ++ b).length := by rw [List.length_append]; omega
    have hsz := congrArg Prod.snd hnx
    simp only at hsz
    rw [decodeL_N, decodeL_N]
    have e := decodeL_N l
    rcases decodeN_shape l.length (l.getD 0 0).toNat (l.getD 1 0).toNat (l.getD 2 0).toNat (l.getD 3 0).toNat with ⟨h0, e2⟩ | ⟨h0, h1, h2, h3, e2⟩ | ⟨h0, h1, h2, h3, h4, h5, e2⟩ | ⟨h0, h1, h2, h3, h4, h5, h6, e2⟩ | e2
    · rw [g 0 (by omega), e2, decodeN_ascii _ _ _ _ _ h0]
    · have k2 : (nx l).2 = 2 := by rw [hsz, e, e2]
      rw [g 0 (by omega), g 1 (by omega), e2]
      unfold decodeN
      rw [if_neg (by omega), if_pos ⟨h0, by omega, h2⟩, if_pos h3]
    · have k3 : (nx l).2 = 3 := by rw [hsz, e, e2]
      rw [g 0 (by omega), g 1 (by omega), g 2 (by omega), e2]
      unfold decodeN
      rw [if_neg (by omega), if_neg (by omega), if_pos ⟨h0, ⟨by omega, h2⟩, ⟨by omega, h3⟩⟩, if_pos ⟨h4, by omega⟩]
    · have k4 : (nx l).2 = 4 := by rw [hsz, e, e2]
      rw [g 0 (by omega), g 1 (by omega), g 2 (by omega), g 3 (by omega), e2]
      unfold decodeN
      rw [if_neg (by omega), if_neg (by omega), if_neg (by omega), if_pos ⟨h0, ⟨by omega, h2⟩, ⟨by omega, h3⟩, ⟨by omega, h4⟩⟩, if_pos ⟨h5, by omega⟩]
    · exfalso
      apply hr
      unfold nx
      rw [if_neg hl, e, e2, if_pos (by simp)]
  have hne2 : l.take (nx l).2 ++ b ≠ [] := by intro e; exact hne (List.append_eq_nil_iff.1 e).1
  exact nx_congr hne2 hl key

theorem stop1 (m b0 c c2 c3 b1 b2 b3 : Nat) (hc : c / 64 ≠ 2) : decodeN (1 + (m + 1)) b0 c c2 c3 = decodeN 1 b0 b1 b2 b3 := by
  by_cases h : b0 < 128
  · rw [decodeN_ascii _ _ _ _ _ h, decodeN_ascii _ _ _ _ _ h]
  · rw [decodeN_alone _ _ _ _ _ (by omega) (.inr hc), decodeN_alone _ _ _ _ _ (by omega) (.inl (Nat.le_refl _))]
set_option maxRecDepth 100000 in
theorem stop2 (m b0 b1 c c3 b2 b3 : Nat) (hc : c / 64 ≠ 2) : decodeN (2 + (m + 1)) b0 b1 c c3 = decodeN 2 b0 b1 b2 b3 := by
  unfold decodeN
  repeat' split
  all_goals first | rfl | (exfalso; omega)
set_option maxRecDepth 100000 in
theorem stop3 (m b0 b1 b2 c b3 : Nat) (hc : c / 64 ≠ 2) : decodeN (3 + (m + 1)) b0 b1 b2 c = decodeN 3 b0 b1 b2 b3 := by
  unfold decodeN
  repeat' split
  all_goals first | rfl | (exfalso; omega)
set_option maxRecDepth 100000 in
theorem stop4 (n m b0 b1 b2 b3 : Nat) (h : 3 < n) : decodeN (n + (m + 1)) b0 b1 b2 b3 = decodeN n b0 b1 b2 b3 := by
  unfold decodeN
  repeat' split
  all_goals first | rfl | (exfalso; omega)

/-- A sign of ASCII behind a text: the text's own runes stay as they are. -/
theorem decodeL_stop {a : List UInt8} (ha : a ≠ []) {c : UInt8} (hc : c.toNat < 128) (b : List UInt8) : decodeL (a ++ c :: b) = decodeL a := by
  rw [decodeL_N, decodeL_N]
  have hlen := List.length_pos_iff.2 ha
  have g : ∀ i, i < a.length → (a ++ c :: b).getD i 0 = a.getD i 0 := fun i hi => getD_app_lt hi
  have gc : (a ++ c :: b).getD a.length 0 = c := by simp [List.getD]
  have hL : (a ++ c :: b).length = a.length + (b.length + 1) := by simp
  have c64 : c.toNat / 64 ≠ 2 := by omega
  rw [g 0 hlen, hL]
  rcases Nat.lt_or_ge 1 a.length with h1 | h1
  · rw [g 1 h1]
    rcases Nat.lt_or_ge 2 a.length with h2 | h2
    · rw [g 2 h2]
      rcases Nat.lt_or_ge 3 a.length with h3 | h3
      · rw [g 3 h3]
        exact stop4 _ _ _ _ _ _ h3
      · have e3 : a.length = 3 := by omega
        rw [e3] at gc ⊢
        rw [gc]
        exact stop3 _ _ _ _ _ _ c64
    · have e2 : a.length = 2 := by omega
      rw [e2] at gc ⊢
      rw [gc]
      exact stop2 _ _ _ _ _ _ _ c64
  · have e1 : a.length = 1 := by omega
    rw [e1] at gc ⊢
    rw [gc]
    exact stop1 _ _ _ _ _ _ _ _ c64
theorem nx_stop {a : List UInt8} (ha : a ≠ []) {c : UInt8} (hc : c.toNat < 128) (b : List UInt8) : nx (a ++ c :: b) = nx a := by
  unfold nx
  rw [if_neg ha, if_neg (by simp), decodeL_stop ha hc b]
theorem runes_stop : ∀ (n : Nat) (a : List UInt8), a.length ≤ n → ∀ {c : UInt8}, c.toNat < 128 → ∀ b, runes (a ++ c :: b) = runes a ++ runes (c :: b)
  | 0, a, h, c, hc, b => by
    have : a = [] := List.eq_nil_of_length_eq_zero (by omega)
    subst this; rfl
  | n + 1, a, h, c, hc, b => by
    by_cases ha : a = []
    · subst ha; rfl
    · have h1 := nx_pos ha
      have h2 := nx_le ha
      rw [runes_cons (by simp : a ++ c :: b ≠ []), runes_cons ha, nx_stop ha hc b, List.take_append_of_le_length h2, List.drop_append_of_le_length h2, runes_stop n _ (by rw [List.length_drop]; omega) hc b]
      rfl

/-- Every rune of a text that is one is good. -/
theorem runes_are_good : ∀ (n : Nat) (l : List UInt8), l.length ≤ n → ∀ v ∈ runes l, v.1 ≠ -1 → Good v
  | 0, l, h, v, hv, hr => by
    have : l = [] := List.eq_nil_of_length_eq_zero (by omega)
    subst this; cases hv
  | n + 1, l, h, v, hv, hr => by
    by_cases hl : l = []
    · subst hl; cases hv
    · have h1 := nx_pos hl
      rw [runes_cons hl] at hv
      rcases List.mem_cons.1 hv with rfl | hv
      · exact good_of hl hr
      · exact runes_are_good n _ (by rw [List.length_drop]; omega) v hv hr
end Go.Proofs.Ytdekboacjjpjeaa
