/- Where words lie; how many there are; what is written of them. -/
import Derived.Test.YtlnldpkackmceaaGlyC
import Derived.BigQuiet
import Derived.Deep.QuietTactic
namespace Go.Proofs.Ytlnldpkackmceaa
open Go.RowKit Go.Lib
set_option linter.unusedSimpArgs false
set_option linter.unusedVariables false

theorem celsW_at : ∀ (l : List Wd) (k : Nat) (h : k < l.length), (celsW l)[k * 4]? = some (.int .i64 ((l[k]).1 : Int)) ∧ (celsW l)[k * 4 + 1]? = some (.string (txt (l[k]).2.1)) ∧ (celsW l)[k * 4 + 2]? = some (.int .i64 (l[k]).2.2.1) ∧ (celsW l)[k * 4 + 3]? = some (.int .i64 (l[k]).2.2.2)
  | [], k, h => by simp at h
  | x :: t, 0, h => ⟨rfl, rfl, rfl, rfl⟩
  | x :: t, k + 1, h => by
    have ih := celsW_at t k (by simpa using h)
    have e : ∀ i, (celsW (x :: t))[(k + 1) * 4 + i]? = (celsW t)[k * 4 + i]? := fun i => by
      show (celW x ++ celsW t)[(k + 1) * 4 + i]? = _
      rw [List.getElem?_append_right (by simp [celW]; omega)]
      congr 1
      simp [celW]; omega
    refine ⟨(e 0).trans ih.1, (e 1).trans ih.2.1, (e 2).trans ih.2.2.1, (e 3).trans ih.2.2.2⟩
/-- Where words lie. -/
theorem liesW {w : World} {base e : Nat} {v : Value} {l : List Wd} (h : OwnW w base e v l) (h0 : 0 < l.length) : ∃ g cap, v = .slice (some ⟨g, 0, none⟩) l.length cap ∧ l.length ≤ cap ∧ cap ≤ maxLen ∧ g < w.heap.size ∧
    ∀ (i : Nat) (hi : i < l.length), w.cell? ⟨g, i * 4, none⟩ = some (.int .i64 ((l[i]).1 : Int)) ∧ w.cell? ⟨g, i * 4 + 1, none⟩ = some (.string (txt (l[i]).2.1)) ∧ w.cell? ⟨g, i * 4 + 2, none⟩ = some (.int .i64 (l[i]).2.2.1) ∧ w.cell? ⟨g, i * 4 + 3, none⟩ = some (.int .i64 (l[i]).2.2.2) := by
  rcases h.2 with ⟨_, hn⟩ | ⟨g, cap, cur, rfl, hbg, hg, hnc, hcm, _⟩
  · omega
  · refine ⟨g, cap, rfl, hnc, hcm, (Array.getElem?_eq_some_iff.1 hg).1, fun i hi => ?_⟩
    obtain ⟨a, b, c, d⟩ := celsW_at l i hi
    exact ⟨cellW h a, cellW h b, cellW h c, cellW h d⟩
theorem pre_len (w : Wd) (r : Rs) : (pre w r).1.length ≤ r.1.length + 1 := by unfold pre; split <;> simp
theorem wrds_few : ∀ (f : Nat) (rs : List Ru), rs.length ≤ f → ∀ (ln co : Int) (n : Nat), n ≤ 3000 → (wrds rs ln co n).1.length + n ≤ 3000
  | 0, rs, h, ln, co, n, hn => by
    have : rs = [] := List.eq_nil_of_length_eq_zero (by omega)
    subst this; simpa [wrds_nil] using hn
  | f + 1, [], h, _, _, n, hn => by simpa [wrds_nil] using hn
  | f + 1, v :: t, h, ln, co, n, hn => by
    have ht : t.length ≤ f := by simp at h; omega
    rw [wrds_cons]
    by_cases c1 : v.1 = 10
    · simp only [if_pos c1]; exact wrds_few f t ht _ _ _ hn
    simp only [if_neg c1]
    by_cases c2 : v.1 = 32 ∨ v.1 = 9
    · simp only [if_pos c2]; exact wrds_few f t ht _ _ _ hn
    simp only [if_neg c2]
    by_cases c3 : v.1 = 35
    · simp only [if_pos c3]
      have hp := rest_pos (t := t) c1
      exact wrds_few f _ (by rw [List.length_drop]; simp; omega) _ _ _ hn
    simp only [if_neg c3]
    by_cases c4 : (fst1 (v :: t)).1 = 0
    · simp only [if_pos c4]; simpa using hn
    simp only [if_neg c4]
    by_cases c5 : n = 3000
    · simp only [if_pos c5]; simpa using hn
    simp only [if_neg c5]
    have hm := (fst1_le v t c4).1
    have ih := wrds_few f ((v :: t).drop (fst1 (v :: t)).2) (by rw [List.length_drop]; simp; omega) ln (co + (fst1 (v :: t)).2) (n + 1) (by omega)
    have := pre_len ((fst1 (v :: t)).1, (v :: t).take (fst1 (v :: t)).2, ln, co) (wrds ((v :: t).drop (fst1 (v :: t)).2) ln (co + (fst1 (v :: t)).2) (n + 1))
    omega
theorem words_few (l : List UInt8) : (wordsS l).1.length ≤ 3000 := by
  unfold wordsS
  split
  · simp
  · exact wrds_few _ _ (Nat.le_refl _) 1 1 0 (by omega)
theorem pre_err {w : Wd} {r : Rs} (h : (pre w r).2.2 ≠ 0) : pre w r = r := by
  unfold pre at h ⊢
  by_cases h0 : r.2.2 = 0
  · rw [if_pos h0] at h; exact absurd h0 h
  · rw [if_neg h0]
theorem wrds_err : ∀ (f : Nat) (rs : List Ru), rs.length ≤ f → ∀ (ln co : Int) (n : Nat), (wrds rs ln co n).2.2 ≠ 0 → (wrds rs ln co n).1 = []
  | 0, rs, h, ln, co, n, hn => by
    have : rs = [] := List.eq_nil_of_length_eq_zero (by omega)
    subst this; rfl
  | f + 1, [], h, _, _, n, hn => rfl
  | f + 1, v :: t, h, ln, co, n, hn => by
    have ht : t.length ≤ f := by simp at h; omega
    rw [wrds_cons] at hn ⊢
    by_cases c1 : v.1 = 10
    · simp only [if_pos c1] at hn ⊢; exact wrds_err f t ht _ _ _ hn
    simp only [if_neg c1] at hn ⊢
    by_cases c2 : v.1 = 32 ∨ v.1 = 9
    · simp only [if_pos c2] at hn ⊢; exact wrds_err f t ht _ _ _ hn
    simp only [if_neg c2] at hn ⊢
    by_cases c3 : v.1 = 35
    · simp only [if_pos c3] at hn ⊢
      have hp := rest_pos (t := t) c1
      exact wrds_err f _ (by rw [List.length_drop]; simp; omega) _ _ _ hn
    simp only [if_neg c3] at hn ⊢
    by_cases c4 : (fst1 (v :: t)).1 = 0
    · simp only [if_pos c4]
    simp only [if_neg c4] at hn ⊢
    by_cases c5 : n = 3000
    · simp only [if_pos c5]
    simp only [if_neg c5] at hn ⊢
    have hm := (fst1_le v t c4).1
    have hp := pre_err hn
    rw [hp] at hn
    rw [hp]
    exact wrds_err f _ (by rw [List.length_drop]; simp; omega) _ _ _ hn
theorem words_err {l : List UInt8} (h : (wordsS l).2.2 ≠ 0) : (wordsS l).1 = [] := by
  unfold wordsS at h ⊢
  by_cases hl : 12000 < l.length
  · rw [if_pos hl]
  · rw [if_neg hl] at h ⊢
    exact wrds_err _ _ (Nat.le_refl _) _ _ _ h
/-- Where words lie, if there are any. -/
theorem formW {w : World} {base e : Nat} {v : Value} {l : List Wd} (h : OwnW w base e v l) : ∃ a cap, v = .slice a l.length cap ∧ l.length ≤ cap ∧
    ∀ (i : Nat) (hi : i < l.length), ∃ g, a = some ⟨g, 0, none⟩ ∧ g < w.heap.size ∧ w.cell? ⟨g, i * 4, none⟩ = some (.int .i64 ((l[i]).1 : Int)) ∧ w.cell? ⟨g, i * 4 + 1, none⟩ = some (.string (txt (l[i]).2.1)) ∧ w.cell? ⟨g, i * 4 + 2, none⟩ = some (.int .i64 (l[i]).2.2.1) ∧ w.cell? ⟨g, i * 4 + 3, none⟩ = some (.int .i64 (l[i]).2.2.2) := by
  rcases Nat.eq_zero_or_pos l.length with h0 | h0
  · rcases h.2 with ⟨hv, hn⟩ | ⟨g, cap, cur, hv, hbg, hg, hnc, _⟩
    · exact ⟨none, 0, by rw [hv, h0], by omega, fun i hi => by omega⟩
    · exact ⟨_, cap, hv, hnc, fun i hi => by omega⟩
  · obtain ⟨g, cap, hv, hc, _, hg, hcell⟩ := liesW h h0
    exact ⟨_, cap, hv, hc, fun i hi => ⟨g, rfl, hg, hcell i hi⟩⟩
theorem text_snoc (X : List Wd) (k : Nat) (h : k < X.length) : text (X.take (k + 1)) = text (X.take k) ++ (byt (X[k]).2.1 ++ [32]) := by
  unfold text
  rw [List.take_succ_eq_append_getElem h, List.flatMap_append]
  simp
theorem text_cons (w : Wd) (X : List Wd) : (text (w :: X)).length = (byt w.2.1).length + 1 + (text X).length := by simp [text]; omega
theorem wrds_size : ∀ (f : Nat) (rs : List Ru), rs.length ≤ f → ∀ (ln co : Int) (n : Nat), (text (wrds rs ln co n).1).length ≤ (byt rs).length + (wrds rs ln co n).1.length
  | 0, rs, h, ln, co, n => by
    have : rs = [] := List.eq_nil_of_length_eq_zero (by omega)
    subst this; simp [wrds_nil, text]
  | f + 1, [], h, _, _, n => by simp [wrds_nil, text]
  | f + 1, v :: t, h, ln, co, n => by
    have ht : t.length ≤ f := by simp at h; omega
    have hbt : (byt t).length ≤ (byt (v :: t)).length := by rw [byt_cons, List.length_append]; omega
    rw [wrds_cons]
    by_cases c1 : v.1 = 10
    · simp only [if_pos c1]; exact Nat.le_trans (wrds_size f t ht _ _ _) (by omega)
    simp only [if_neg c1]
    by_cases c2 : v.1 = 32 ∨ v.1 = 9
    · simp only [if_pos c2]; exact Nat.le_trans (wrds_size f t ht _ _ _) (by omega)
    simp only [if_neg c2]
    by_cases c3 : v.1 = 35
    · simp only [if_pos c3]
      have hp := rest_pos (t := t) c1
      have hsp := byt_split (v :: t) (rest (v :: t))
      exact Nat.le_trans (wrds_size f _ (by rw [List.length_drop]; simp; omega) _ _ _) (by omega)
    simp only [if_neg c3]
    by_cases c4 : (fst1 (v :: t)).1 = 0
    · simp only [if_pos c4]; simp [text]
    simp only [if_neg c4]
    by_cases c5 : n = 3000
    · simp only [if_pos c5]; simp [text]
    simp only [if_neg c5]
    have hm := (fst1_le v t c4).1
    have ih := wrds_size f ((v :: t).drop (fst1 (v :: t)).2) (by rw [List.length_drop]; simp; omega) ln (co + (fst1 (v :: t)).2) (n + 1)
    have hsp := byt_split (v :: t) (fst1 (v :: t)).2
    unfold pre
    split
    · rw [text_cons, List.length_cons]
      simp only
      omega
    · omega
theorem words_size (l : List UInt8) (h : l.length ≤ 12000) : (text (wordsS l).1).length ≤ 15000 := by
  have hf := words_few l
  have e : wordsS l = wrds (runes l) 1 1 0 := by unfold wordsS; rw [if_neg (by omega)]
  rw [e] at hf ⊢
  have := wrds_size _ (runes l) (Nat.le_refl _) 1 1 0
  rw [byt_runes _ l (Nat.le_refl _)] at this
  omega
theorem text_take (X : List Wd) (k : Nat) : (text (X.take k)).length ≤ (text X).length := by
  have e : text X = text (X.take k) ++ text (X.drop k) := by unfold text; rw [← List.flatMap_append, List.take_append_drop]
  rw [e, List.length_append]; omega
theorem bl_cat (a b : ByteArray) : bl (a ++ b) = bl a ++ bl b := by
  show (a ++ b).data.toList = _
  rw [ByteArray.data_append]; simp
theorem bl_txt (seg : List Ru) : bl (txt seg) = byt seg := by simp [bl, txt]
theorem feed_not {l : List UInt8} (h : ∀ (i : Nat) (hi : i < l.length), (l[i]).toNat ≠ 10) : (10 : UInt8) ∉ l := by
  intro hm
  obtain ⟨i, hi, e⟩ := List.mem_iff_getElem.1 hm
  exact h i hi (by rw [e]; rfl)
end Go.Proofs.Ytlnldpkackmceaa
