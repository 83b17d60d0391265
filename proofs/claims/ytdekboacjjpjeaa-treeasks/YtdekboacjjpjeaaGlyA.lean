
/- A text's words, and the three laws of them: written again, a line further down, beside a remark. -/
import Derived.Test.YtdekboacjjpjeaaGlyM
namespace Go.Proofs.Ytdekboacjjpjeaa
open Go.Lib
set_option linter.unusedSimpArgs false
set_option linter.unusedVariables false

def wordsS (l : List UInt8) : Rs := if 12000 < l.length then ([], (1, 1), 4) else wrds (runes l) 1 1 0

theorem spn_take : ∀ rs : List Ru, spn (rs.take (spn rs)) = spn rs
  | [] => rfl
  | v :: t => by
    have := spn_take t
    by_cases h : insd v.1 = true
    · have e : spn (v :: t) = spn t + 1 := if_pos h
      rw [e, List.take_succ_cons]
      show (if insd v.1 = true then spn (t.take (spn t)) + 1 else 0) = spn t + 1
      rw [if_pos h, this]
    · have e : spn (v :: t) = 0 := if_neg h
      rw [e]; rfl
theorem spn_all : ∀ (rs : List Ru), ∀ v ∈ rs.take (spn rs), insd v.1 = true
  | [], v, h => by simp [spn] at h
  | u :: t, v, h => by
    by_cases hu : insd u.1 = true
    · have e : spn (u :: t) = spn t + 1 := if_pos hu
      rw [e, List.take_succ_cons] at h
      rcases List.mem_cons.1 h with rfl | h
      · exact hu
      · exact spn_all t v h
    · have e : spn (u :: t) = 0 := if_neg hu
      rw [e] at h
      simp at h
theorem insd_ne {r : Int} (h : insd r = true) : r ≠ -1 := by
  rintro rfl
  revert h
  decide
theorem one_ne {a : Int} (h : one a ≠ 0) : a ≠ -1 := by
  rintro rfl
  exact h (by decide)
theorem pair_ne {a b : Int} (h : pair a b = true) : a ≠ -1 ∧ b ≠ -1 := by
  have := of_decide_eq_true h
  omega

theorem sgn_take : ∀ rs : List Ru, sgn (rs.take (sgn rs)) = sgn rs
  | [] => rfl
  | [v] => by
    show sgn ([v].take (one v.1)) = one v.1
    have := one_le v.1
    rcases Nat.eq_zero_or_pos (one v.1) with h | h
    · rw [h]; rfl
    · have e : one v.1 = 1 := by omega
      rw [e]
      exact e
  | v :: u :: t => by
    show sgn ((v :: u :: t).take (if pair v.1 u.1 = true then 2 else one v.1)) = if pair v.1 u.1 = true then 2 else one v.1
    by_cases hp : pair v.1 u.1 = true
    · rw [if_pos hp]
      show (if pair v.1 u.1 = true then 2 else one v.1) = 2
      rw [if_pos hp]
    · rw [if_neg hp]
      have := one_le v.1
      rcases Nat.eq_zero_or_pos (one v.1) with h | h
      · rw [h]; rfl
      · have e : one v.1 = 1 := by omega
        rw [e]
        exact e
theorem sgn_ne : ∀ (rs : List Ru), ∀ v ∈ rs.take (sgn rs), v.1 ≠ -1
  | [], v, h => by simp [sgn] at h
  | [u], v, h => by
    have hm := List.mem_of_mem_take h
    rcases List.mem_cons.1 hm with rfl | hm
    · refine one_ne (fun e => ?_)
      have : sgn [v] = 0 := e
      rw [this] at h
      simp at h
    · simp at hm
  | u :: x :: t, v, h => by
    have e : sgn (u :: x :: t) = if pair u.1 x.1 = true then 2 else one u.1 := rfl
    by_cases hp : pair u.1 x.1 = true
    · rw [e, if_pos hp] at h
      simp only [List.take_succ_cons, List.take_zero, List.mem_cons, List.not_mem_nil, or_false] at h
      rcases h with rfl | rfl
      · exact (pair_ne hp).1
      · exact (pair_ne hp).2
    · rw [e, if_neg hp] at h
      have := one_le u.1
      rcases Nat.eq_zero_or_pos (one u.1) with h0 | h0
      · rw [h0] at h; simp at h
      · have e1 : one u.1 = 1 := by omega
        rw [e1] at h
        simp only [List.take_succ_cons, List.take_zero, List.mem_cons, List.not_mem_nil, or_false] at h
        subst h
        exact one_ne (by omega)

/-- A word alone is that word; its runes are runes. -/
theorem fst1_take {v : Ru} {t : List Ru} (h : (fst1 (v :: t)).1 ≠ 0) : fst1 ((v :: t).take (fst1 (v :: t)).2) = fst1 (v :: t) ∧ ∀ x ∈ (v :: t).take (fst1 (v :: t)).2, x.1 ≠ -1 := by
  have hle := fst1_le v t h
  rw [fst1_cons] at h hle ⊢
  by_cases a : letter v.1 = true
  · simp only [if_pos a] at h hle ⊢
    by_cases b : spn (v :: t) ≤ 24
    · simp only [if_pos b] at hle ⊢
      refine ⟨?_, fun x hx => insd_ne (spn_all _ x hx)⟩
      have hs := spn_take (v :: t)
      obtain ⟨m, hm⟩ : ∃ m, spn (v :: t) = m + 1 := ⟨spn (v :: t) - 1, by omega⟩
      rw [hm, List.take_succ_cons] at hs ⊢
      rw [fst1_cons, if_pos a, hs, if_pos (by omega)]
    · simp only [if_neg b] at h; exact absurd rfl h
  · simp only [if_neg a] at h hle ⊢
    by_cases d : dgt v.1 = true
    · simp only [if_pos d] at h hle ⊢
      by_cases b : numb ((v :: t).take (spn (v :: t))) = true
      · simp only [if_pos b] at hle ⊢
        refine ⟨?_, fun x hx => insd_ne (spn_all _ x hx)⟩
        have hs := spn_take (v :: t)
        obtain ⟨m, hm⟩ : ∃ m, spn (v :: t) = m + 1 := ⟨spn (v :: t) - 1, by omega⟩
        rw [hm, List.take_succ_cons] at hs b ⊢
        have e : (v :: t.take m).take (m + 1) = v :: t.take m := by rw [List.take_succ_cons, List.take_take, Nat.min_self]
        rw [fst1_cons, if_neg a, if_pos d, hs, e, if_pos b]
      · simp only [if_neg b] at h; exact absurd rfl h
    · simp only [if_neg d] at h hle ⊢
      by_cases b : sgn (v :: t) = 0
      · simp only [if_pos b] at h; exact absurd rfl h
      · simp only [if_neg b] at hle ⊢
        refine ⟨?_, fun x hx => sgn_ne _ x hx⟩
        have hs := sgn_take (v :: t)
        obtain ⟨m, hm⟩ : ∃ m, sgn (v :: t) = m + 1 := ⟨sgn (v :: t) - 1, by omega⟩
        rw [hm, List.take_succ_cons] at hs ⊢
        rw [fst1_cons, if_neg a, if_neg d, hs, if_neg (by omega)]

theorem pre_ok {w : Wd} {r : Rs} (h : (pre w r).2.2 = 0) : r.2.2 = 0 ∧ (pre w r).1 = w :: r.1 := by
  unfold pre at h ⊢
  by_cases h0 : r.2.2 = 0
  · rw [if_pos h0]; exact ⟨h0, rfl⟩
  · rw [if_neg h0] at h; exact absurd h h0

/-- The runes of words, a blank behind each. -/
def again (X : List Wd) : List Ru := X.flatMap (fun w => w.2.1 ++ [(32, [32])])

theorem wrds_again : ∀ (f : Nat) (rs : List Ru), rs.length ≤ f → ∀ (ln co : Int) (n : Nat), (wrds rs ln co n).2.2 = 0 →
    (∀ w ∈ (wrds rs ln co n).1, ∀ v ∈ w.2.1, v ∈ rs ∧ v.1 ≠ -1) ∧ ∀ ln' co', er (wrds (again (wrds rs ln co n).1) ln' co' n) = er (wrds rs ln co n)
  | 0, rs, h, ln, co, n, _ => by
    have : rs = [] := List.eq_nil_of_length_eq_zero (by omega)
    subst this
    exact ⟨(fun w hw => (by cases hw)), fun _ _ => rfl⟩
  | f + 1, [], h, ln, co, n, _ => ⟨(fun w hw => (by cases hw)), fun _ _ => rfl⟩
  | f + 1, v :: t, h, ln, co, n, h0 => by
    have ht : t.length ≤ f := by simp at h; omega
    have e := wrds_cons v t ln co n
    by_cases c1 : v.1 = 10
    · simp only [if_pos c1] at e
      rw [e] at h0 ⊢
      have ih := wrds_again f t ht _ _ _ h0
      exact ⟨fun w hw x hx => ⟨List.mem_cons_of_mem _ (ih.1 w hw x hx).1, (ih.1 w hw x hx).2⟩, ih.2⟩
    simp only [if_neg c1] at e
    by_cases c2 : v.1 = 32 ∨ v.1 = 9
    · simp only [if_pos c2] at e
      rw [e] at h0 ⊢
      have ih := wrds_again f t ht _ _ _ h0
      exact ⟨fun w hw x hx => ⟨List.mem_cons_of_mem _ (ih.1 w hw x hx).1, (ih.1 w hw x hx).2⟩, ih.2⟩
    simp only [if_neg c2] at e
    by_cases c3 : v.1 = 35
    · simp only [if_pos c3] at e
      have hp := rest_pos (t := t) c1
      rw [e] at h0 ⊢
      have ih := wrds_again f _ (by rw [List.length_drop]; simp; omega) _ _ _ h0
      exact ⟨fun w hw x hx => ⟨List.mem_of_mem_drop (ih.1 w hw x hx).1, (ih.1 w hw x hx).2⟩, ih.2⟩
    simp only [if_neg c3] at e
    by_cases c4 : (fst1 (v :: t)).1 = 0
    · simp only [if_pos c4] at e
      rw [e] at h0; simp at h0
    simp only [if_neg c4] at e
    by_cases c5 : n = 3000
    · simp only [if_pos c5] at e
      rw [e] at h0; simp at h0
    simp only [if_neg c5] at e
    obtain ⟨hm, hm2⟩ := fst1_le v t c4
    obtain ⟨hf, hg⟩ := fst1_take c4
    obtain ⟨k, hk⟩ : ∃ k, (fst1 (v :: t)).1 = k := ⟨_, rfl⟩
    obtain ⟨m, hmm⟩ : ∃ m, (fst1 (v :: t)).2 = m + 1 := ⟨(fst1 (v :: t)).2 - 1, by omega⟩
    rw [hk, hmm] at e
    rw [hmm] at hf hg hm2
    rw [e] at h0 ⊢
    obtain ⟨hr0, hX⟩ := pre_ok h0
    have ih := wrds_again f _ (by rw [List.length_drop]; simp; omega) _ _ _ hr0
    rw [hX]
    constructor
    · intro w hw x hx
      rcases List.mem_cons.1 hw with rfl | hw
      · exact ⟨List.mem_of_mem_take hx, hg x hx⟩
      · exact ⟨List.mem_of_mem_drop (ih.1 w hw x hx).1, (ih.1 w hw x hx).2⟩
    · intro ln' co'
      obtain ⟨Y, hY⟩ : ∃ Y, (wrds ((v :: t).drop (m + 1)) ln (co + ((m + 1 : Nat) : Int)) (n + 1)).1 = Y := ⟨_, rfl⟩
      have hag : again ((k, (v :: t).take (m + 1), ln, co) :: Y) = v :: (t.take m ++ (32, [32]) :: again Y) := by
        simp [again, List.take_succ_cons]
      have hs : fst1 (v :: (t.take m ++ (32, [32]) :: again Y)) = fst1 (v :: t) := by
        rw [← hf, List.take_succ_cons]
        exact fst1_stop stop_blank (v :: t.take m) _ (by simp)
      have hl : (v :: t.take m).length = m + 1 := by rw [← List.take_succ_cons, List.length_take]; omega
      have hd : (v :: (t.take m ++ (32, [32]) :: again Y)).drop (m + 1) = (32, [32]) :: again Y := by
        rw [← hl, ← List.cons_append]; exact List.drop_left
      have htk : (v :: (t.take m ++ (32, [32]) :: again Y)).take (m + 1) = (v :: t).take (m + 1) := by
        rw [← hl, ← List.cons_append, List.take_left, hl, List.take_succ_cons]
      rw [hY] at ih ⊢
      rw [hag, wrds_cons, if_neg c1, if_neg c2, if_neg c3, hs, if_neg c4, if_neg c5, hk, hmm, hd, htk]
      refine er_pre_same rfl rfl ?_
      rw [wrds_cons, if_neg (by decide), if_pos (by decide)]
      exact ih.2 _ _

/-- The text of words, a blank behind each. -/
def text (X : List Wd) : List UInt8 := X.flatMap (fun w => byt w.2.1 ++ [32])
theorem runes_text : ∀ (X : List Wd), (∀ w ∈ X, ∀ v ∈ w.2.1, Good v) → runes (text X) = again X
  | [], _ => rfl
  | w :: X, h => by
    have e : text (w :: X) = byt w.2.1 ++ (32 :: text X) := by simp [text]
    have e2 : again (w :: X) = w.2.1 ++ ((32, [32]) :: again X) := by simp [again]
    rw [e, e2, runes_goods _ _ (h w (by simp)), runes_ascii (by decide), runes_text X (fun x hx => h x (by simp [hx]))]
    rfl

theorem words_again {l : List UInt8} (h : (wordsS l).2.2 = 0) (hs : ¬ 12000 < (text (wordsS l).1).length) : er (wordsS (text (wordsS l).1)) = er (wordsS l) := by
  by_cases hl : 12000 < l.length
  · unfold wordsS at h; rw [if_pos hl] at h; simp at h
  have e : wordsS l = wrds (runes l) 1 1 0 := by unfold wordsS; rw [if_neg hl]
  rw [e] at h hs ⊢
  have ih := wrds_again _ _ (Nat.le_refl _) 1 1 0 h
  have e2 : wordsS (text (wrds (runes l) 1 1 0).1) = wrds (runes (text (wrds (runes l) 1 1 0).1)) 1 1 0 := by unfold wordsS; rw [if_neg hs]
  rw [e2, runes_text _ (fun w hw v hv => runes_are_good _ l (Nat.le_refl _) v (ih.1 w hw v hv).1 (ih.1 w hw v hv).2)]
  exact ih.2 1 1
theorem words_long {l : List UInt8} (h : 12000 < l.length) : wordsS l = ([], (1, 1), 4) := by unfold wordsS; rw [if_pos h]

theorem words_down {l : List UInt8} (h : l.length ≤ 8000) : wordsS (10 :: l) = up (wordsS l) := by
  unfold wordsS
  rw [if_neg (by simp; omega), if_neg (by omega), runes_ascii (by decide), wrds_cons, if_pos (by rfl)]
  exact wrds_up _ _ (Nat.le_refl _) 1 1 0

theorem feed_in : ∀ (n : Nat) (l : List UInt8), l.length ≤ n → ∀ v ∈ runes l, v.1 = 10 → (10 : UInt8) ∈ l
  | 0, l, h, v, hv, _ => by
    have : l = [] := List.eq_nil_of_length_eq_zero (by omega)
    subst this; cases hv
  | n + 1, l, h, v, hv, h10 => by
    match l with
    | [] => cases hv
    | c :: r =>
      by_cases hc : c.toNat < 128
      · rw [runes_ascii hc] at hv
        rcases List.mem_cons.1 hv with rfl | hv
        · have : c.toNat = 10 := by simp only at h10; omega
          have : c = 10 := UInt8.toNat_inj.1 (by rw [this]; rfl)
          simp [this]
        · exact List.mem_cons_of_mem _ (feed_in n r (by simp at h; omega) v hv h10)
      · have h1 := nx_pos (l := c :: r) (by simp)
        rw [runes_cons (by simp)] at hv
        rcases List.mem_cons.1 hv with rfl | hv
        · have := nx_big hc r
          simp only at h10
          omega
        · exact List.mem_of_mem_drop (feed_in n _ (by rw [List.length_drop]; omega) v hv h10)

theorem words_remark {l rem beh : List UInt8} (h1 : l.length ≤ 3000) (h2 : rem.length ≤ 3000) (h3 : beh.length ≤ 3000) (hr : (10 : UInt8) ∉ rem) :
    er (wordsS (l ++ 10 :: beh)) = er (wordsS (l ++ 10 :: 35 :: (rem ++ 10 :: beh))) := by
  unfold wordsS
  rw [if_neg (by simp; omega), if_neg (by simp; omega), runes_stop _ l (Nat.le_refl _) (by decide), runes_stop _ l (Nat.le_refl _) (by decide), runes_ascii (by decide), runes_ascii (by decide), runes_ascii (by decide), runes_stop _ rem (Nat.le_refl _) (by decide), runes_ascii (by decide)]
  exact er_behind (fun ln ln' n => er_remark _ _ (fun v hv e => hr (feed_in _ rem (Nat.le_refl _) v hv e)) ln ln' n) _ _ (Nat.le_refl _) _ _ _ _ _
end Go.Proofs.Ytdekboacjjpjeaa
