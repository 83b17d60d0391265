
/- What Take and Parse answer; and that what was printed is parsed as it was. Math alone. -/
import Derived.Test.YtiddccohldjjcaaDoorGdV
namespace Go.Proofs.YtiddccohldjjcaaDoor
open Go.RowKit Go.Lib
set_option linter.unusedSimpArgs false
set_option linter.unusedVariables false

section
variable {nb : List UInt8 → Int} {rsv : List UInt8 → Bool} {l : List Tk}
theorem psr_up (f k n : Nat) (hk : 1 ≤ k) (hk6 : k ≤ 6) : BadOr (fun n n' _ => n < n') n (psr nb rsv l f k n (-1)) :=
  psr_all (fun n w x _ _ => Nat.lt_succ_self n) (fun n n' k x _ h => by omega) (fun n m n' w x y _ _ h h' => by omega) (fun n n' x h => by omega) f k n hk hk6
theorem lop_same {next next' : Nat → Int → Rd3} {k n0 : Nat} (hN : ∀ n, n0 ≤ n → n < l.length → next (n + 1) (-1) = next' (n + 1) (-1)) (hU : ∀ n, BadOr (fun n n' _ => n < n') n (next n (-1))) : ∀ (G n : Nat) (x : Sx), n0 ≤ n → lop l next k G (x, n, -1) = lop l next' k G (x, n, -1)
  | 0, n, x, _ => rfl
  | G + 1, n, x, h => by
    unfold lop
    cases hw : l[n]? with
    | none => rfl
    | some w =>
      have hlt := (List.getElem?_eq_some_iff.1 hw).1
      simp only
      rw [hN n h hlt]
      by_cases hc : (-1 : Int) < 0 ∧ lv w.2 = k
      · rw [if_pos hc, if_pos hc]
        by_cases h3 : k = 3
        · rw [if_pos h3, if_pos h3]
        · rw [if_neg h3, if_neg h3]
          obtain ⟨r, hr⟩ : ∃ r, next' (n + 1) (-1) = r := ⟨_, rfl⟩
          have hb := hU (n + 1)
          rw [hN n h hlt, hr] at hb
          rw [hr]
          obtain ⟨y, n', b'⟩ := r
          rcases hb with ⟨e1, e2⟩ | e1
          · simp only at e1 e2
            subst e1
            exact lop_same hN hU G n' _ (by omega)
          · simp only at e1
            rw [lop_pos e1, lop_pos e1]
      · rw [if_neg hc, if_neg hc]
theorem psr_lev {f k n : Nat} {b : Int} (h : ¬ k = 6) : psr nb rsv l (f + 1) k n b = lop l (psr nb rsv l f (k + 1)) k l.length (psr nb rsv l f (k + 1) n b) := by rw [psr, if_neg h]
theorem psr_more : ∀ (f k n : Nat), 1 ≤ k → k ≤ 6 → 7 * (l.length - n) + (6 - k) < f → psr nb rsv l (f + 1) k n (-1) = psr nb rsv l f k n (-1)
  | 0, k, n, _, _, h => absurd h (Nat.not_lt_zero _)
  | f + 1, k, n, hk, hk6, h => by
    by_cases h6 : k = 6
    · subst h6
      cases hw : l[n]? with
      | none => rw [psr6_end hw, psr6_end hw]
      | some w =>
        have hlt := (List.getElem?_eq_some_iff.1 hw).1
        by_cases hu : w.2 = [33] ∨ w.2 = [45]
        · rw [psr6_un hw hu, psr6_un hw hu, psr_more f 6 (n + 1) (by omega) (by omega) (by omega)]
        · by_cases h40 : w.2 = [40]
          · rw [psr6_par hw h40, psr6_par hw h40, psr_more f 1 (n + 1) (by omega) (by omega) (by omega)]
          · rw [psr6_leaf hw hu h40, psr6_leaf hw hu h40]
    · rw [psr_lev h6, psr_lev h6, psr_more f (k + 1) n (by omega) (by omega) (by omega)]
      obtain ⟨r, hr⟩ : ∃ r, psr nb rsv l f (k + 1) n (-1) = r := ⟨_, rfl⟩
      have hb := psr_up (nb := nb) (rsv := rsv) (l := l) f (k + 1) n (by omega) (by omega)
      rw [hr] at hb ⊢
      obtain ⟨y, n', b'⟩ := r
      rcases hb with ⟨e1, e2⟩ | e1
      · simp only at e1 e2
        subst e1
        exact lop_same (n0 := n) (fun m hm hml => psr_more f (k + 1) (m + 1) (by omega) (by omega) (by omega)) (fun m => psr_up (f + 1) (k + 1) m (by omega) (by omega)) _ _ _ (by omega)
      · simp only at e1
        rw [lop_pos e1, lop_pos e1]
theorem psr_same {k n f : Nat} (hk : 1 ≤ k) (hk6 : k ≤ 6) (h : 7 * (l.length - n) + (6 - k) < f) : ∀ j, psr nb rsv l (f + j) k n (-1) = psr nb rsv l f k n (-1)
  | 0 => rfl
  | j + 1 => (psr_more (f + j) k n hk hk6 (by omega)).trans (psr_same hk hk6 h j)
end

def fmX (x : Sx) : Bool := fmC x.1 x.2
/-- What the words are read as. -/
def rdC (l : List Tk) : Rd3 := psr (valB 0) rsvB l (7 * l.length + 6) 1 0 (-1)
/-- The expression that the words begin with, how many of them it is, or an error. -/
def takeC (l : List Tk) : Sx × Nat × Int := if 0 ≤ (rdC l).2.2 then (noX, (rdC l).2.2.toNat, 12) else if fmX (rdC l).1 = true then ((rdC l).1, (rdC l).2.1, 0) else (noX, 0, 13)
/-- The expression of a text, or an error. -/
def parseC (s : List UInt8) : Sx × Int := if (wordsS s).2.2 ≠ 0 then (noX, (wordsS s).2.2) else
  if (takeC ((wordsS s).1.map tkW)).2.2 ≠ 0 then (noX, (takeC ((wordsS s).1.map tkW)).2.2) else
  if (takeC ((wordsS s).1.map tkW)).2.1 < (wordsS s).1.length then (noX, 12) else ((takeC ((wordsS s).1.map tkW)).1, 0)
theorem Alk.fm {x : Sx} {d : Nat} {t : T d} (h : Alk x t) : fmX x = fmC d t := by
  unfold fmX fmC
  have h1 : ndC x.1 x.2 = ndC d t := h.1 _ _
  have h2 : dpC x.1 x.2 = dpC d t := h.1 _ _
  have h3 : sdC x.1 x.2 = sdC d t := h.1 _ _
  rw [h1, h2, h3]

theorem aroT_len (c : Nat × List Tk) (m : Nat) : (aroT c m).length ≤ c.2.length + 2 := by
  unfold aroT; split
  · simp
  · omega
theorem aroP_len (c : Nat × List Pc) (m : Nat) : (txP (aroP c m)).length ≤ (txP c.2).length + 2 := by
  unfold aroP; split
  · rw [txP_cons, txP_app, List.length_append, List.length_append]
    show 1 + (_ + 1) ≤ _
    omega
  · omega
theorem tks_len (dc : Int → List UInt8) : ∀ (d : Nat) (t : T d), Cl d t → (tks dc d t).2.length ≤ 5 * cnt d t
  | 0, t, _ => Empty.elim t
  | d + 1, t, hc => by
    rcases hc.cases with ⟨n, rfl⟩ | ⟨s, rfl⟩ | ⟨k, p, hk, rfl, hp⟩ | ⟨s, p, q, rfl, hp, hq⟩ | rfl
    · show 1 ≤ 5 * 1; omega
    · show 1 ≤ 5 * 1; omega
    · have ih := tks_len dc d p hp
      have ha := aroT_len (tks dc d p) 6
      have e : (tks dc (d + 1) (mkT k 0 ⟨#[]⟩ [p] : T (d + 1))).2.length = (aroT (tks dc d p) 6).length + 1 := by rcases hk with rfl | rfl <;> rfl
      rw [e, cnt_mk]
      show _ ≤ 5 * (cnt d p + 0 + 1)
      omega
    · have i1 := tks_len dc d p hp
      have i2 := tks_len dc d q hq
      have a1 := aroT_len (tks dc d p) (if lv s.data.toList = 3 then 4 else lv s.data.toList)
      have a2 := aroT_len (tks dc d q) (lv s.data.toList + 1)
      rw [tks_bin, cnt_mk, List.length_append, List.length_cons]
      show _ ≤ 5 * (cnt d p + (cnt d q + 0) + 1)
      omega
    · show (aroT (0, []) (if lv [] = 3 then 4 else lv []) ++ (3, []) :: aroT (0, []) (lv [] + 1)).length ≤ 5 * 1
      decide
theorem op_len {s : List UInt8} (h : opB s) : s.length ≤ 2 := by
  rcases h with rfl | rfl | rfl | rfl | rfl | rfl | rfl | rfl | rfl <;> decide
theorem pcs_len : ∀ (d : Nat) (t : T d), Cl d t → rtT dcN d t → (txP (pcs dcN d t).2).length ≤ 100 * cnt d t
  | 0, t, _, _ => Empty.elim t
  | d + 1, t, hc, hr => by
    rcases hc.cases with ⟨n, rfl⟩ | ⟨s, rfl⟩ | ⟨k, p, hk, rfl, hp⟩ | ⟨s, p, q, rfl, hp, hq⟩ | rfl
    · have hn : numB (dcN n) = true := hr.1 rfl
      have := (num_len hn).1
      show (dcN n ++ []).length ≤ 100 * 1
      rw [List.append_nil]; omega
    · have hn : nameS s.data.toList = true := hr.2.1 rfl
      have := name_len hn
      show (s.data.toList ++ []).length ≤ 100 * 1
      rw [List.append_nil]; omega
    · have hrp : rtT dcN d p := by
        have h2 : ∀ z ∈ [fold (rtF dcN) d p], z := hr.2.2.2.2
        exact h2 (fold (rtF dcN) d p) List.mem_cons_self
      have ih := pcs_len d p hp hrp
      have ha := aroP_len (pcs dcN d p) 6
      have e : (txP (pcs dcN (d + 1) (mkT k 0 ⟨#[]⟩ [p] : T (d + 1))).2).length = (txP (aroP (pcs dcN d p) 6)).length + 1 := by rcases hk with rfl | rfl <;> rfl
      rw [e, cnt_mk]
      show _ ≤ 100 * (cnt d p + 0 + 1)
      omega
    · have h2 : ∀ z ∈ [fold (rtF dcN) d p, fold (rtF dcN) d q], z := hr.2.2.2.2
      have ho : s.data.toList.length ≤ 2 := op_len (hr.2.2.1 rfl : opB s.data.toList)
      have i1 := pcs_len d p hp (h2 (fold (rtF dcN) d p) List.mem_cons_self)
      have i2 := pcs_len d q hq (h2 (fold (rtF dcN) d q) (List.mem_cons_of_mem _ List.mem_cons_self))
      have a1 := aroP_len (pcs dcN d p) (if lv s.data.toList = 3 then 4 else lv s.data.toList)
      have a2 := aroP_len (pcs dcN d q) (lv s.data.toList + 1)
      have e : (pcs dcN (d + 1) (mkT 5 0 s [p, q] : T (d + 1))).2 = aroP (pcs dcN d p) (if lv s.data.toList = 3 then 4 else lv s.data.toList) ++ none :: some (3, s.data.toList) :: none :: aroP (pcs dcN d q) (lv s.data.toList + 1) := rfl
      rw [e, cnt_mk, txP_app, txP_cons, txP_cons, txP_cons, List.length_append, List.length_append, List.length_append, List.length_append]
      show _ + (1 + (s.data.toList.length + (1 + _))) ≤ 100 * (cnt d p + (cnt d q + 0) + 1)
      omega
    · have : (1 : Int) ≤ 0 ∧ (0 : Int) ≤ 5 := hr.2.2.2.1
      omega
theorem nd_cnt : ∀ (d : Nat) (t : T d), ndC d t = min (cnt d t) 41
  | 0, t => Empty.elim t
  | d + 1, t => by
    obtain ⟨k, n, s, ps, rfl⟩ := T.open t
    rw [ndC_mk, cnt_mk]
    have : ∀ l : List (T d), min ((l.map (ndC d)).sum + 1) 41 = min ((l.map (cnt d)).sum + 1) 41 := fun l => by
      induction l with
      | nil => rfl
      | cons p r ih =>
        have := nd_cnt d p
        simp only [List.map_cons, List.sum_cons]
        omega
    exact this ps
theorem fm_parts {d : Nat} {t : T d} (h : fmC d t = true) : cnt d t ≤ 40 ∧ sdC d t = true := by
  unfold fmC at h
  simp only [Bool.and_eq_true, decide_eq_true_eq] at h
  have := nd_cnt d t
  exact ⟨by omega, h.2⟩
/-- The text of an expression. -/
def txtC (d : Nat) (t : T d) : List UInt8 := txP (pcs dcN d t).2
theorem er_words {l : List UInt8} {ts : List Tk} (h : er (wordsS l) = (ts.map (fun w => (w.1, runes w.2)), 0)) : (wordsS l).2.2 = 0 ∧ (wordsS l).1.map tkW = ts := by
  refine ⟨congrArg Prod.snd h, ?_⟩
  have h1 : (wordsS l).1.map (fun w => (w.1, w.2.1)) = ts.map (fun w => (w.1, runes w.2)) := congrArg Prod.fst h
  have h2 := congrArg (List.map (fun x : Nat × List Ru => (x.1, byt x.2))) h1
  rw [List.map_map, List.map_map] at h2
  have e : ts.map ((fun x : Nat × List Ru => (x.1, byt x.2)) ∘ fun w => (w.1, runes w.2)) = ts := by
    have : ∀ w ∈ ts, ((fun x : Nat × List Ru => (x.1, byt x.2)) ∘ fun w : Tk => (w.1, runes w.2)) w = id w := fun w _ => by
      show (w.1, byt (runes w.2)) = w
      rw [byt_runes _ _ (Nat.le_refl _)]
    rw [List.map_congr_left this, List.map_id]
  rw [e] at h2
  exact h2
theorem parse_of {s : List UInt8} {ts : List Tk} {x : Sx} (hw : er (wordsS s) = (ts.map (fun w => (w.1, runes w.2)), 0)) (hr : rdC ts = (x, ts.length, -1)) (hf : fmX x = true) : parseC s = (x, 0) := by
  obtain ⟨h1, h2⟩ := er_words hw
  have hl : (wordsS s).1.length = ts.length := by rw [← h2, List.length_map]
  have ht : takeC ts = (x, ts.length, 0) := by
    unfold takeC
    rw [hr, if_neg (by show ¬ (0 : Int) ≤ -1; decide), if_pos hf]
  unfold parseC
  rw [h2, ht, hl, if_neg (by simpa using h1), if_neg (by simp), if_neg (by simp)]
/-- What was printed is parsed as it was. -/
theorem parse_printed {d : Nat} {t : T d} (hc : Cl d t) (hf : fmC d t = true) (hp : plC d t = true) : ∃ x, parseC (txtC d t) = (x, 0) ∧ Alk x t := by
  obtain ⟨h40, hs⟩ := fm_parts hf
  obtain ⟨ho, hr⟩ := ok_sound d t hc hs hp
  have hl := tks_len dcN d t hc
  have hb := pcs_len d t hc hr
  have hw := printed_words hc hr (by omega) (by omega)
  obtain ⟨x, hx, ha⟩ := reads_back hc ho (f := 7 * (tks dcN d t).2.length + 6 + (7 * d + 5)) (by omega)
  rw [psr_same (by omega) (by omega) (by omega)] at hx
  exact ⟨x, parse_of hw hx (by rw [ha.fm, hf]), ha⟩
/-- With brackets around it, too. -/
theorem parse_par {d : Nat} {t : T d} (hc : Cl d t) (hf : fmC d t = true) (hp : plC d t = true) : ∃ x, parseC (40 :: (txtC d t ++ [41])) = (x, 0) ∧ Alk x t := by
  obtain ⟨h40, hs⟩ := fm_parts hf
  obtain ⟨ho, hr⟩ := ok_sound d t hc hs hp
  have hl := tks_len dcN d t hc
  have hb := pcs_len d t hc hr
  obtain ⟨q1, q2⟩ := pcs_tks dcN d t
  have htk : tkP (some (3, [40]) :: ((pcs dcN d t).2 ++ [some (3, [41])])) = (3, [40]) :: ((tks dcN d t).2 ++ [(3, [41])]) := by
    show (3, [40]) :: tkP ((pcs dcN d t).2 ++ [some (3, [41])]) = _
    rw [tkP_app, q2]; rfl
  have htx : txP (some (3, [40]) :: ((pcs dcN d t).2 ++ [some (3, [41])])) = 40 :: (txtC d t ++ [41]) := by
    show [40] ++ txP ((pcs dcN d t).2 ++ [some (3, [41])]) = _
    rw [txP_app]; rfl
  have hfit : FitsAll (some (3, [40]) :: ((pcs dcN d t).2 ++ [some (3, [41])])) [] := ⟨fits_open _, fits_app _ _ _ ((fits_tree dcN d t hc hr).1 _ (post_shut [])) ⟨fits_shut _, trivial⟩⟩
  have hw : er (wordsS (40 :: (txtC d t ++ [41]))) = (((3, [40]) :: ((tks dcN d t).2 ++ [(3, [41])])).map (fun w : Tk => (w.1, runes w.2)), 0) := by
    rw [← htx, ← htk]
    unfold wordsS
    have hlen : (txP (some (3, [40]) :: ((pcs dcN d t).2 ++ [some (3, [41])]))).length ≤ 12000 := by
      rw [htx, List.length_cons, List.length_append]
      show (txP (pcs dcN d t).2).length + 1 + 1 ≤ 12000
      omega
    rw [if_neg (by omega), words_pcs _ 1 1 0 hfit (by rw [htk]; simp; omega)]
  obtain ⟨ts, hts⟩ : ∃ ts, ((3, [40]) : Tk) :: ((tks dcN d t).2 ++ [(3, [41])]) = ts := ⟨_, rfl⟩
  rw [hts] at hw
  obtain ⟨x, hx, ha⟩ := par_any (nb := valB 0) (rsv := rsvB) (l := ts) (both_any (valB 0) rsvB ts dcN d).1 hc ho (k := 1) (f := 7 * ts.length + 6 + (7 * d + 11)) (at' := 0) (post := []) (by omega) (by omega) (by omega) (by rw [hts]; simp) (fun w r hw => by cases hw)
  rw [psr_same (by omega) (by omega) (by omega), hts, Nat.zero_add] at hx
  exact ⟨x, parse_of hw hx (by rw [ha.fm, hf]), ha⟩
/-- What is parsed is fine, and formed. -/
theorem parse_fine {s : List UInt8} (h : (parseC s).2 = 0) : Fine (parseC s).1 ∧ fmX (parseC s).1 = true := by
  unfold parseC at h ⊢
  by_cases h1 : (wordsS s).2.2 ≠ 0
  · rw [if_pos h1] at h; exact absurd h h1
  rw [if_neg h1] at h ⊢
  by_cases h2 : (takeC ((wordsS s).1.map tkW)).2.2 ≠ 0
  · rw [if_pos h2] at h; exact absurd h h2
  rw [if_neg h2] at h ⊢
  by_cases h3 : (takeC ((wordsS s).1.map tkW)).2.1 < (wordsS s).1.length
  · rw [if_pos h3] at h; simp at h
  rw [if_neg h3] at h ⊢
  simp only
  have ho := (words_one (by simpa using h1)).1
  have hb : BadOr _ 0 (rdC ((wordsS s).1.map tkW)) := fine_read ho _ 1 0 (by omega) (by omega)
  unfold takeC at h2 ⊢
  rcases hb with ⟨e1, e2⟩ | e1
  · rw [if_neg (by omega)] at h2 ⊢
    by_cases hq : fmX (rdC ((wordsS s).1.map tkW)).1 = true
    · rw [if_pos hq]; exact ⟨e2.1, hq⟩
    · rw [if_neg hq] at h2; simp at h2
  · rw [if_pos e1] at h2; simp at h2
end Go.Proofs.YtiddccohldjjcaaDoor
