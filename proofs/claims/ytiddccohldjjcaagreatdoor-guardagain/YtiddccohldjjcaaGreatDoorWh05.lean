import Derived.Test.YtiddccohldjjcaaGreatDoorWh04
import Derived.Test.YtiddccohldjjcaaGreatDoorRows
import Derived.Test.YtiddccohldjjcaaGreatDoorWh01
import Derived.Test.YtiddccohldjjcaaGreatDoorWh02
import Derived.Deep.RegionHeld
import Derived.Deep.DrawnRows
import Derived.WalkSmall

/- What Take and Parse answer; and that what was printed is parsed as it was. Math alone. -/
namespace Go.Proofs.YtiddccohldjjcaaGreatDoor
open Go.RowKit Go.Lib
set_option linter.unusedSimpArgs false
set_option linter.unusedVariables false

section
variable {nb : List UInt8 → Int} {rsv : List UInt8 → Bool} {l : List Tk}
theorem psr_up (f k n : Nat) (hk : 1 ≤ k) (hk6 : k ≤ 6) : BadOr (fun n n' _ => n < n') n (psr nb rsv l f k n (-1)) :=
  psr_all (fun n w x _ _ => Nat.lt_succ_self n) (fun n n' k x _ h => by omega) (fun n m n' w x y _ _ h h' => by omega) (fun n n' x h => by omega) f k n hk hk6
theorem lop_same {next next' : Nat → Int → Rd3} {k n0 : Nat} (hN : ∀ n, n0 ≤ n → n < l.length → next (n + 1) (-1) = next' (n + 1) (-1)) (hU : ∀ n, BadOr (fun n n' _ => n < n') n (next n (-1))) : ∀ (G n : Nat) (x : Sx), n0 ≤ n → lop l next k G (x, n, -1) = lop l next' k G (x, n, -1)
  | 0, n, x, _ => rfl
  | G + 1, n, x, h => by
    unfold lop
    cases hw : l[n]? with
    | none => rfl
    | some w =>
      have hlt := (List.getElem?_eq_some_iff.1 hw).1
      simp only
      rw [hN n h hlt]
      by_cases hc : (-1 : Int) < 0 ∧ lv w.2 = k
      · rw [if_pos hc, if_pos hc]
        by_cases h3 : k = 3
        · rw [if_pos h3, if_pos h3]
        · rw [if_neg h3, if_neg h3]
          obtain ⟨r, hr⟩ : ∃ r, next' (n + 1) (-1) = r := ⟨_, rfl⟩
          have hb := hU (n + 1)
          rw [hN n h hlt, hr] at hb
          rw [hr]
          obtain ⟨y, n', b'⟩ := r
          rcases hb with ⟨e1, e2⟩ | e1
          · simp only at e1 e2
            subst e1
            exact lop_same hN hU G n' _ (by omega)
          · simp only at e1
            rw [lop_pos e1, lop_pos e1]
      · rw [if_neg hc, if_neg hc]
theorem psr_lev {f k n : Nat} {b : Int} (h : ¬ k = 6) : psr nb rsv l (f + 1) k n b = lop l (psr nb rsv l f (k + 1)) k l.length (psr nb rsv l f (k + 1) n b) := by rw [psr, if_neg h]
theorem psr_more : ∀ (f k n : Nat), 1 ≤ k → k ≤ 6 → 7 * (l.length - n) + (6 - k) < f → psr nb rsv l (f + 1) k n (-1) = psr nb rsv l f k n (-1)
  | 0, k, n, _, _, h => absurd h (Nat.not_lt_zero _)
  | f + 1, k, n, hk, hk6, h => by
    by_cases h6 : k = 6
    · subst h6
      cases hw : l[n]? with
      | none => rw [psr6_end hw, psr6_end hw]
      | some w =>
        have hlt := (List.getElem?_eq_some_iff.1 hw).1
        by_cases hu : w.2 = [33] ∨ w.2 = [45]
        · rw [psr6_un hw hu, psr6_un hw hu, psr_more f 6 (n + 1) (by omega) (by omega) (by omega)]
        · by_cases h40 : w.2 = [40]
          · rw [psr6_par hw h40, psr6_par hw h40, psr_more f 1 (n + 1) (by omega) (by omega) (by omega)]
          · rw [psr6_leaf hw hu h40, psr6_leaf hw hu h40]
    · rw [psr_lev h6, psr_lev h6, psr_more f (k + 1) n (by omega) (by omega) (by omega)]
      obtain ⟨r, hr⟩ : ∃ r, psr nb rsv l f (k + 1) n (-1) = r := ⟨_, rfl⟩
      have hb := psr_up (nb := nb) (rsv := rsv) (l := l) f (k + 1) n (by omega) (by omega)
      rw [hr] at hb ⊢
      obtain ⟨y, n', b'⟩ := r
      rcases hb with ⟨e1, e2⟩ | e1
      · simp only at e1 e2
        subst e1
        exact lop_same (n0 := n) (fun m hm hml => psr_more f (k + 1) (m + 1) (by omega) (by omega) (by omega)) (fun m => psr_up (f + 1) (k + 1) m (by omega) (by omega)) _ _ _ (by omega)
      · simp only at e1
        rw [lop_pos e1, lop_pos e1]
theorem psr_same {k n f : Nat} (hk : 1 ≤ k) (hk6 : k ≤ 6) (h : 7 * (l.length - n) + (6 - k) < f) : ∀ j, psr nb rsv l (f + j) k n (-1) = psr nb rsv l f k n (-1)
  | 0 => rfl
  | j + 1 => (psr_more (f + j) k n hk hk6 (by omega)).trans (psr_same hk hk6 h j)
end

def fmX (x : Sx) : Bool := fmC x.1 x.2
/-- What the words are read as. -/
def rdC (l : List Tk) : Rd3 := psr (valB 0) rsvB l (7 * l.length + 6) 1 0 (-1)
/-- The expression that the words begin with, how many of them it is, or an error. -/
def takeC (l : List Tk) : Sx × Nat × Int := if 0 ≤ (rdC l).2.2 then (noX, (rdC l).2.2.toNat, 12) else if fmX (rdC l).1 = true then ((rdC l).1, (rdC l).2.1, 0) else (noX, 0, 13)
/-- The expression of a text, or an error. -/
def parseC (s : List UInt8) : Sx × Int := if (wordsS s).2.2 ≠ 0 then (noX, (wordsS s).2.2) else
  if (takeC ((wordsS s).1.map tkW)).2.2 ≠ 0 then (noX, (takeC ((wordsS s).1.map tkW)).2.2) else
  if (takeC ((wordsS s).1.map tkW)).2.1 < (wordsS s).1.length then (noX, 12) else ((takeC ((wordsS s).1.map tkW)).1, 0)
theorem Alk.fm {x : Sx} {d : Nat} {t : T d} (h : Alk x t) : fmX x = fmC d t := by
  unfold fmX fmC
  have h1 : ndC x.1 x.2 = ndC d t := h.1 _ _
  have h2 : dpC x.1 x.2 = dpC d t := h.1 _ _
  have h3 : sdC x.1 x.2 = sdC d t := h.1 _ _
  rw [h1, h2, h3]

theorem aroT_len (c : Nat × List Tk) (m : Nat) : (aroT c m).length ≤ c.2.length + 2 := by
  unfold aroT; split
  · simp
  · omega
theorem aroP_len (c : Nat × List Pc) (m : Nat) : (txP (aroP c m)).length ≤ (txP c.2).length + 2 := by
  unfold aroP; split
  · rw [txP_cons, txP_app, List.length_append, List.length_append]
    show 1 + (_ + 1) ≤ _
    omega
  · omega
theorem tks_len (dc : Int → List UInt8) : ∀ (d : Nat) (t : T d), Cl d t → (tks dc d t).2.length ≤ 5 * cnt d t
  | 0, t, _ => Empty.elim t
  | d + 1, t, hc => by
    rcases hc.cases with ⟨n, rfl⟩ | ⟨s, rfl⟩ | ⟨k, p, hk, rfl, hp⟩ | ⟨s, p, q, rfl, hp, hq⟩ | rfl
    · show 1 ≤ 5 * 1; omega
    · show 1 ≤ 5 * 1; omega
    · have ih := tks_len dc d p hp
      have ha := aroT_len (tks dc d p) 6
      have e : (tks dc (d + 1) (mkT k 0 ⟨#[]⟩ [p] : T (d + 1))).2.length = (aroT (tks dc d p) 6).length + 1 := by rcases hk with rfl | rfl <;> rfl
      rw [e, cnt_mk]
      show _ ≤ 5 * (cnt d p + 0 + 1)
      omega
    · have i1 := tks_len dc d p hp
      have i2 := tks_len dc d q hq
      have a1 := aroT_len (tks dc d p) (if lv s.data.toList = 3 then 4 else lv s.data.toList)
      have a2 := aroT_len (tks dc d q) (lv s.data.toList + 1)
      rw [tks_bin, cnt_mk, List.length_append, List.length_cons]
      show _ ≤ 5 * (cnt d p + (cnt d q + 0) + 1)
      omega
    · show (aroT (0, []) (if lv [] = 3 then 4 else lv []) ++ (3, []) :: aroT (0, []) (lv [] + 1)).length ≤ 5 * 1
      decide
theorem op_len {s : List UInt8} (h : opB s) : s.length ≤ 2 := by
  rcases h with rfl | rfl | rfl | rfl | rfl | rfl | rfl | rfl | rfl <;> decide
theorem pcs_len : ∀ (d : Nat) (t : T d), Cl d t → rtT dcN d t → (txP (pcs dcN d t).2).length ≤ 100 * cnt d t
  | 0, t, _, _ => Empty.elim t
  | d + 1, t, hc, hr => by
    rcases hc.cases with ⟨n, rfl⟩ | ⟨s, rfl⟩ | ⟨k, p, hk, rfl, hp⟩ | ⟨s, p, q, rfl, hp, hq⟩ | rfl
    · have hn : numB (dcN n) = true := hr.1 rfl
      have := (num_len hn).1
      show (dcN n ++ []).length ≤ 100 * 1
      rw [List.append_nil]; omega
    · have hn : nameS s.data.toList = true := hr.2.1 rfl
      have := name_len hn
      show (s.data.toList ++ []).length ≤ 100 * 1
      rw [List.append_nil]; omega
    · have hrp : rtT dcN d p := by
        have h2 : ∀ z ∈ [fold (rtF dcN) d p], z := hr.2.2.2.2
        exact h2 (fold (rtF dcN) d p) List.mem_cons_self
      have ih := pcs_len d p hp hrp
      have ha := aroP_len (pcs dcN d p) 6
      have e : (txP (pcs dcN (d + 1) (mkT k 0 ⟨#[]⟩ [p] : T (d + 1))).2).length = (txP (aroP (pcs dcN d p) 6)).length + 1 := by rcases hk with rfl | rfl <;> rfl
      rw [e, cnt_mk]
      show _ ≤ 100 * (cnt d p + 0 + 1)
      omega
    · have h2 : ∀ z ∈ [fold (rtF dcN) d p, fold (rtF dcN) d q], z := hr.2.2.2.2
      have ho : s.data.toList.length ≤ 2 := op_len (hr.2.2.1 rfl : opB s.data.toList)
      have i1 := pcs_len d p hp (h2 (fold (rtF dcN) d p) List.mem_cons_self)
      have i2 := pcs_len d q hq (h2 (fold (rtF dcN) d q) (List.mem_cons_of_mem _ List.mem_cons_self))
      have a1 := aroP_len (pcs dcN d p) (if lv s.data.toList = 3 then 4 else lv s.data.toList)
      have a2 := aroP_len (pcs dcN d q) (lv s.data.toList + 1)
      have e : (pcs dcN (d + 1) (mkT 5 0 s [p, q] : T (d + 1))).2 = aroP (pcs dcN d p) (if lv s.data.toList = 3 then 4 else lv s.data.toList) ++ none :: some (3, s.data.toList) :: none :: aroP (pcs dcN d q) (lv s.data.toList + 1) := rfl
      rw [e, cnt_mk, txP_app, txP_cons, txP_cons, txP_cons, List.length_append, List.length_append, List.length_append, List.length_append]
      show _ + (1 + (s.data.toList.length + (1 + _))) ≤ 100 * (cnt d p + (cnt d q + 0) + 1)
      omega
    · have : (1 : Int) ≤ 0 ∧ (0 : Int) ≤ 5 := hr.2.2.2.1
      omega
theorem nd_cnt : ∀ (d : Nat) (t : T d), ndC d t = min (cnt d t) 41
  | 0, t => Empty.elim t
  | d + 1, t => by
    obtain ⟨k, n, s, ps, rfl⟩ := T.open t
    rw [ndC_mk, cnt_mk]
    have : ∀ l : List (T d), min ((l.map (ndC d)).sum + 1) 41 = min ((l.map (cnt d)).sum + 1) 41 := fun l => by
      induction l with
      | nil => rfl
      | cons p r ih =>
        have := nd_cnt d p
        simp only [List.map_cons, List.sum_cons]
        omega
    exact this ps
theorem fm_parts {d : Nat} {t : T d} (h : fmC d t = true) : cnt d t ≤ 40 ∧ sdC d t = true := by
  unfold fmC at h
  simp only [Bool.and_eq_true, decide_eq_true_eq] at h
  have := nd_cnt d t
  exact ⟨by omega, h.2⟩
/-- The text of an expression. -/
def txtC (d : Nat) (t : T d) : List UInt8 := txP (pcs dcN d t).2
theorem er_words {l : List UInt8} {ts : List Tk} (h : er (wordsS l) = (ts.map (fun w => (w.1, runes w.2)), 0)) : (wordsS l).2.2 = 0 ∧ (wordsS l).1.map tkW = ts := by
  refine ⟨congrArg Prod.snd h, ?_⟩
  have h1 : (wordsS l).1.map (fun w => (w.1, w.2.1)) = ts.map (fun w => (w.1, runes w.2)) := congrArg Prod.fst h
  have h2 := congrArg (List.map (fun x : Nat × List Ru => (x.1, byt x.2))) h1
  rw [List.map_map, List.map_map] at h2
  have e : ts.map ((fun x : Nat × List Ru => (x.1, byt x.2)) ∘ fun w => (w.1, runes w.2)) = ts := by
    have : ∀ w ∈ ts, ((fun x : Nat × List Ru => (x.1, byt x.2)) ∘ fun w : Tk => (w.1, runes w.2)) w = id w := fun w _ => by
      show (w.1, byt (runes w.2)) = w
      rw [byt_runes _ _ (Nat.le_refl _)]
    rw [List.map_congr_left this, List.map_id]
  rw [e] at h2
  exact h2
theorem parse_of {s : List UInt8} {ts : List Tk} {x : Sx} (hw : er (wordsS s) = (ts.map (fun w => (w.1, runes w.2)), 0)) (hr : rdC ts = (x, ts.length, -1)) (hf : fmX x = true) : parseC s = (x, 0) := by
  obtain ⟨h1, h2⟩ := er_words hw
  have hl : (wordsS s).1.length = ts.length := by rw [← h2, List.length_map]
  have ht : takeC ts = (x, ts.length, 0) := by
    unfold takeC
    rw [hr, if_neg (by show ¬ (0 : Int) ≤ -1; decide), if_pos hf]
  unfold parseC
  rw [h2, ht, hl, if_neg (by simpa using h1), if_neg (by simp), if_neg (by simp)]
/-- What was printed is parsed as it was. -/
theorem parse_printed {d : Nat} {t : T d} (hc : Cl d t) (hf : fmC d t = true) (hp : plC d t = true) : ∃ x, parseC (txtC d t) = (x, 0) ∧ Alk x t := by
  obtain ⟨h40, hs⟩ := fm_parts hf
  obtain ⟨ho, hr⟩ := ok_sound d t hc hs hp
  have hl := tks_len dcN d t hc
  have hb := pcs_len d t hc hr
  have hw := printed_words hc hr (by omega) (by omega)
  obtain ⟨x, hx, ha⟩ := reads_back hc ho (f := 7 * (tks dcN d t).2.length + 6 + (7 * d + 5)) (by omega)
  rw [psr_same (by omega) (by omega) (by omega)] at hx
  exact ⟨x, parse_of hw hx (by rw [ha.fm, hf]), ha⟩
/-- With brackets around it, too. -/
theorem parse_par {d : Nat} {t : T d} (hc : Cl d t) (hf : fmC d t = true) (hp : plC d t = true) : ∃ x, parseC (40 :: (txtC d t ++ [41])) = (x, 0) ∧ Alk x t := by
  obtain ⟨h40, hs⟩ := fm_parts hf
  obtain ⟨ho, hr⟩ := ok_sound d t hc hs hp
  have hl := tks_len dcN d t hc
  have hb := pcs_len d t hc hr
  obtain ⟨q1, q2⟩ := pcs_tks dcN d t
  have htk : tkP (some (3, [40]) :: ((pcs dcN d t).2 ++ [some (3, [41])])) = (3, [40]) :: ((tks dcN d t).2 ++ [(3, [41])]) := by
    show (3, [40]) :: tkP ((pcs dcN d t).2 ++ [some (3, [41])]) = _
    rw [tkP_app, q2]; rfl
  have htx : txP (some (3, [40]) :: ((pcs dcN d t).2 ++ [some (3, [41])])) = 40 :: (txtC d t ++ [41]) := by
    show [40] ++ txP ((pcs dcN d t).2 ++ [some (3, [41])]) = _
    rw [txP_app]; rfl
  have hfit : FitsAll (some (3, [40]) :: ((pcs dcN d t).2 ++ [some (3, [41])])) [] := ⟨fits_open _, fits_app _ _ _ ((fits_tree dcN d t hc hr).1 _ (post_shut [])) ⟨fits_shut _, trivial⟩⟩
  have hw : er (wordsS (40 :: (txtC d t ++ [41]))) = (((3, [40]) :: ((tks dcN d t).2 ++ [(3, [41])])).map (fun w : Tk => (w.1, runes w.2)), 0) := by
    rw [← htx, ← htk]
    unfold wordsS
    have hlen : (txP (some (3, [40]) :: ((pcs dcN d t).2 ++ [some (3, [41])]))).length ≤ 12000 := by
      rw [htx, List.length_cons, List.length_append]
      show (txP (pcs dcN d t).2).length + 1 + 1 ≤ 12000
      omega
    rw [if_neg (by omega), words_pcs _ 1 1 0 hfit (by rw [htk]; simp; omega)]
  obtain ⟨ts, hts⟩ : ∃ ts, ((3, [40]) : Tk) :: ((tks dcN d t).2 ++ [(3, [41])]) = ts := ⟨_, rfl⟩
  rw [hts] at hw
  obtain ⟨x, hx, ha⟩ := par_any (nb := valB 0) (rsv := rsvB) (l := ts) (both_any (valB 0) rsvB ts dcN d).1 hc ho (k := 1) (f := 7 * ts.length + 6 + (7 * d + 11)) (at' := 0) (post := []) (by omega) (by omega) (by omega) (by rw [hts]; simp) (fun w r hw => by cases hw)
  rw [psr_same (by omega) (by omega) (by omega), hts, Nat.zero_add] at hx
  exact ⟨x, parse_of hw hx (by rw [ha.fm, hf]), ha⟩
/-- What is parsed is fine, and formed. -/
theorem parse_fine {s : List UInt8} (h : (parseC s).2 = 0) : Fine (parseC s).1 ∧ fmX (parseC s).1 = true := by
  unfold parseC at h ⊢
  by_cases h1 : (wordsS s).2.2 ≠ 0
  · rw [if_pos h1] at h; exact absurd h h1
  rw [if_neg h1] at h ⊢
  by_cases h2 : (takeC ((wordsS s).1.map tkW)).2.2 ≠ 0
  · rw [if_pos h2] at h; exact absurd h h2
  rw [if_neg h2] at h ⊢
  by_cases h3 : (takeC ((wordsS s).1.map tkW)).2.1 < (wordsS s).1.length
  · rw [if_pos h3] at h; simp at h
  rw [if_neg h3] at h ⊢
  simp only
  have ho := (words_one (by simpa using h1)).1
  have hb : BadOr _ 0 (rdC ((wordsS s).1.map tkW)) := fine_read ho _ 1 0 (by omega) (by omega)
  unfold takeC at h2 ⊢
  rcases hb with ⟨e1, e2⟩ | e1
  · rw [if_neg (by omega)] at h2 ⊢
    by_cases hq : fmX (rdC ((wordsS s).1.map tkW)).1 = true
    · rw [if_pos hq]; exact ⟨e2.1, hq⟩
    · rw [if_neg hq] at h2; simp at h2
  · rw [if_pos e1] at h2; simp at h2
end Go.Proofs.YtiddccohldjjcaaGreatDoor

/- What the program's levelOf and Reserved do. -/
namespace Go.Proofs.YtiddccohldjjcaaGreatDoor
open Go.RowKit Go.Lib
set_option linter.unusedSimpArgs false
set_option linter.unusedVariables false
attribute [local go_sem ↓] Go.wp_at_zero Go.wp_at_succ

set_option maxRecDepth 100000 in
set_option maxHeartbeats 2000000 in
theorem pLevel_any (s : ByteArray) (w : World) : Calls Tryz.prog 54 #[.string s] w fun e w' => e = .returned (.int .i64 (lv (bl s) : Int)) ∧ w = w' := by
  have hS : ∀ x, (s.toList == x) = (bl s == x) := fun x => by rw [ByteArray.toList_eq]
  obtain ⟨l, hl⟩ : ∃ l, bl s = l := ⟨_, rfl⟩
  rw [hl]
  simp only [hl] at hS
  clear hl
  have q0 : (s.toList == [124, 124]) = (l == [124, 124]) := hS _
  have q1 : (s.toList == [38, 38]) = (l == [38, 38]) := hS _
  have q2 : (s.toList == [60]) = (l == [60]) := hS _
  have q3 : (s.toList == [60, 61]) = (l == [60, 61]) := hS _
  have q4 : (s.toList == [61, 61]) = (l == [61, 61]) := hS _
  have q5 : (s.toList == [33, 61]) = (l == [33, 61]) := hS _
  have q6 : (s.toList == [43]) = (l == [43]) := hS _
  have q7 : (s.toList == [45]) = (l == [45]) := hS _
  have q8 : (s.toList == [42]) = (l == [42]) := hS _
  clear hS
  cases r0 : (l == [124, 124])
  case true => rw [r0] at q0; clear q1 q2 q3 q4 q5 q6 q7 q8; go_enter Tryz.func54, Tryz.ntmps54; go_wp2; go_ret; exact ⟨by rw [eq_of_beq r0]; rfl, rfl⟩
  rw [r0] at q0
  cases r1 : (l == [38, 38])
  case true => rw [r1] at q1; clear q2 q3 q4 q5 q6 q7 q8; go_enter Tryz.func54, Tryz.ntmps54; go_wp2; go_ret; exact ⟨by rw [eq_of_beq r1]; rfl, rfl⟩
  rw [r1] at q1
  cases r2 : (l == [60])
  case true => rw [r2] at q2; clear q3 q4 q5 q6 q7 q8; go_enter Tryz.func54, Tryz.ntmps54; go_wp2; go_ret; exact ⟨by rw [eq_of_beq r2]; rfl, rfl⟩
  rw [r2] at q2
  cases r3 : (l == [60, 61])
  case true => rw [r3] at q3; clear q4 q5 q6 q7 q8; go_enter Tryz.func54, Tryz.ntmps54; go_wp2; go_ret; exact ⟨by rw [eq_of_beq r3]; rfl, rfl⟩
  rw [r3] at q3
  cases r4 : (l == [61, 61])
  case true => rw [r4] at q4; clear q5 q6 q7 q8; go_enter Tryz.func54, Tryz.ntmps54; go_wp2; go_ret; exact ⟨by rw [eq_of_beq r4]; rfl, rfl⟩
  rw [r4] at q4
  cases r5 : (l == [33, 61])
  case true => rw [r5] at q5; clear q6 q7 q8; go_enter Tryz.func54, Tryz.ntmps54; go_wp2; go_ret; exact ⟨by rw [eq_of_beq r5]; rfl, rfl⟩
  rw [r5] at q5
  cases r6 : (l == [43])
  case true => rw [r6] at q6; clear q7 q8; go_enter Tryz.func54, Tryz.ntmps54; go_wp2; go_ret; exact ⟨by rw [eq_of_beq r6]; rfl, rfl⟩
  rw [r6] at q6
  cases r7 : (l == [45])
  case true => rw [r7] at q7; clear q8; go_enter Tryz.func54, Tryz.ntmps54; go_wp2; go_ret; exact ⟨by rw [eq_of_beq r7]; rfl, rfl⟩
  rw [r7] at q7
  cases r8 : (l == [42])
  case true => rw [r8] at q8; go_enter Tryz.func54, Tryz.ntmps54; go_wp2; go_ret; exact ⟨by rw [eq_of_beq r8]; rfl, rfl⟩
  rw [r8] at q8
  go_enter Tryz.func54, Tryz.ntmps54
  go_wp2
  go_ret
  exact ⟨by have e : lv l = 0 := by simp [lv, beq_eq_false_iff_ne.1 r0, beq_eq_false_iff_ne.1 r1, beq_eq_false_iff_ne.1 r2, beq_eq_false_iff_ne.1 r3, beq_eq_false_iff_ne.1 r4, beq_eq_false_iff_ne.1 r5, beq_eq_false_iff_ne.1 r6, beq_eq_false_iff_ne.1 r7, beq_eq_false_iff_ne.1 r8]
            rw [e]; rfl, rfl⟩
set_option maxRecDepth 100000 in
set_option maxHeartbeats 2000000 in
theorem pReserved_any (s : ByteArray) (w : World) : Calls Tryz.prog 12 #[.string s] w fun e w' => e = .returned (.bool (rsvB (bl s))) ∧ w = w' := by
  have hS : ∀ x, (s.toList == x) = (bl s == x) := fun x => by rw [ByteArray.toList_eq]
  obtain ⟨l, hl⟩ : ∃ l, bl s = l := ⟨_, rfl⟩
  rw [hl]
  simp only [hl] at hS
  clear hl
  have q0 : (s.toList == [99, 104, 97, 114, 116]) = (l == [99, 104, 97, 114, 116]) := hS _
  have q1 : (s.toList == [118, 97, 114]) = (l == [118, 97, 114]) := hS _
  have q2 : (s.toList == [115, 116, 97, 116, 101]) = (l == [115, 116, 97, 116, 101]) := hS _
  have q3 : (s.toList == [97, 108, 108]) = (l == [97, 108, 108]) := hS _
  have q4 : (s.toList == [101, 110, 100]) = (l == [101, 110, 100]) := hS _
  have q5 : (s.toList == [100, 111]) = (l == [100, 111]) := hS _
  have q6 : (s.toList == [117, 110, 100, 111]) = (l == [117, 110, 100, 111]) := hS _
  have q7 : (s.toList == [97, 116]) = (l == [97, 116]) := hS _
  have q8 : (s.toList == [114, 101, 116, 114, 105, 101, 115]) = (l == [114, 101, 116, 114, 105, 101, 115]) := hS _
  have q9 : (s.toList == [111, 110]) = (l == [111, 110]) := hS _
  have q10 : (s.toList == [105, 102]) = (l == [105, 102]) := hS _
  have q11 : (s.toList == [103, 111]) = (l == [103, 111]) := hS _
  have q12 : (s.toList == [115, 101, 116]) = (l == [115, 101, 116]) := hS _
  clear hS
  cases r0 : (l == [99, 104, 97, 114, 116])
  case true => rw [r0] at q0; clear q1 q2 q3 q4 q5 q6 q7 q8 q9 q10 q11 q12; go_enter Tryz.func12, Tryz.ntmps12; go_wp2; go_ret; exact ⟨by rw [eq_of_beq r0]; rfl, rfl⟩
  rw [r0] at q0
  cases r1 : (l == [118, 97, 114])
  case true => rw [r1] at q1; clear q2 q3 q4 q5 q6 q7 q8 q9 q10 q11 q12; go_enter Tryz.func12, Tryz.ntmps12; go_wp2; go_ret; exact ⟨by rw [eq_of_beq r1]; rfl, rfl⟩
  rw [r1] at q1
  cases r2 : (l == [115, 116, 97, 116, 101])
  case true => rw [r2] at q2; clear q3 q4 q5 q6 q7 q8 q9 q10 q11 q12; go_enter Tryz.func12, Tryz.ntmps12; go_wp2; go_ret; exact ⟨by rw [eq_of_beq r2]; rfl, rfl⟩
  rw [r2] at q2
  cases r3 : (l == [97, 108, 108])
  case true => rw [r3] at q3; clear q4 q5 q6 q7 q8 q9 q10 q11 q12; go_enter Tryz.func12, Tryz.ntmps12; go_wp2; go_ret; exact ⟨by rw [eq_of_beq r3]; rfl, rfl⟩
  rw [r3] at q3
  cases r4 : (l == [101, 110, 100])
  case true => rw [r4] at q4; clear q5 q6 q7 q8 q9 q10 q11 q12; go_enter Tryz.func12, Tryz.ntmps12; go_wp2; go_ret; exact ⟨by rw [eq_of_beq r4]; rfl, rfl⟩
  rw [r4] at q4
  cases r5 : (l == [100, 111])
  case true => rw [r5] at q5; clear q6 q7 q8 q9 q10 q11 q12; go_enter Tryz.func12, Tryz.ntmps12; go_wp2; go_ret; exact ⟨by rw [eq_of_beq r5]; rfl, rfl⟩
  rw [r5] at q5
  cases r6 : (l == [117, 110, 100, 111])
  case true => rw [r6] at q6; clear q7 q8 q9 q10 q11 q12; go_enter Tryz.func12, Tryz.ntmps12; go_wp2; go_ret; exact ⟨by rw [eq_of_beq r6]; rfl, rfl⟩
  rw [r6] at q6
  cases r7 : (l == [97, 116])
  case true => rw [r7] at q7; clear q8 q9 q10 q11 q12; go_enter Tryz.func12, Tryz.ntmps12; go_wp2; go_ret; exact ⟨by rw [eq_of_beq r7]; rfl, rfl⟩
  rw [r7] at q7
  cases r8 : (l == [114, 101, 116, 114, 105, 101, 115])
  case true => rw [r8] at q8; clear q9 q10 q11 q12; go_enter Tryz.func12, Tryz.ntmps12; go_wp2; go_ret; exact ⟨by rw [eq_of_beq r8]; rfl, rfl⟩
  rw [r8] at q8
  cases r9 : (l == [111, 110])
  case true => rw [r9] at q9; clear q10 q11 q12; go_enter Tryz.func12, Tryz.ntmps12; go_wp2; go_ret; exact ⟨by rw [eq_of_beq r9]; rfl, rfl⟩
  rw [r9] at q9
  cases r10 : (l == [105, 102])
  case true => rw [r10] at q10; clear q11 q12; go_enter Tryz.func12, Tryz.ntmps12; go_wp2; go_ret; exact ⟨by rw [eq_of_beq r10]; rfl, rfl⟩
  rw [r10] at q10
  cases r11 : (l == [103, 111])
  case true => rw [r11] at q11; clear q12; go_enter Tryz.func12, Tryz.ntmps12; go_wp2; go_ret; exact ⟨by rw [eq_of_beq r11]; rfl, rfl⟩
  rw [r11] at q11
  cases r12 : (l == [115, 101, 116])
  case true => rw [r12] at q12; go_enter Tryz.func12, Tryz.ntmps12; go_wp2; go_ret; exact ⟨by rw [eq_of_beq r12]; rfl, rfl⟩
  rw [r12] at q12
  go_enter Tryz.func12, Tryz.ntmps12
  go_wp2
  go_ret
  exact ⟨by have e : rsvB l = false := by simp [rsvB, rsv13, beq_eq_false_iff_ne.1 r0, beq_eq_false_iff_ne.1 r1, beq_eq_false_iff_ne.1 r2, beq_eq_false_iff_ne.1 r3, beq_eq_false_iff_ne.1 r4, beq_eq_false_iff_ne.1 r5, beq_eq_false_iff_ne.1 r6, beq_eq_false_iff_ne.1 r7, beq_eq_false_iff_ne.1 r8, beq_eq_false_iff_ne.1 r9, beq_eq_false_iff_ne.1 r10, beq_eq_false_iff_ne.1 r11, beq_eq_false_iff_ne.1 r12]
            rw [e]; rfl, rfl⟩
end Go.Proofs.YtiddccohldjjcaaGreatDoor

/- Trees in memory. -/
namespace Go.Proofs.YtiddccohldjjcaaGreatDoor
open Go.RowKit
set_option linter.unusedSimpArgs false
set_option linter.unusedVariables false

theorem add_plain (b off i : Nat) : (⟨b, off, none⟩ : Addr).add i = ⟨b, off + i, none⟩ := by unfold Addr.add; split <;> simp_all

/-- The slice v reads as the list l, four cells an element. -/
def RdP {α : Type} (ok : Nat → Prop) (w : World) (R : α → Value → Prop) (l : List α) (v : Value) : Prop :=
  ∃ a cap, v = .slice a l.length cap ∧ l.length ≤ cap ∧ cap ≤ maxLen ∧ (a = none → l = []) ∧
    ∀ x, a = some x → ∀ (i : Nat) (h : i < l.length), ok x.block ∧ ∃ c0 c1 c2 c3, R l[i] (.agg #[c0, c1, c2, c3]) ∧ w.cell? (x.add (i * 4)) = some c0 ∧ w.cell? (x.add (i * 4 + 1)) = some c1 ∧ w.cell? (x.add (i * 4 + 2)) = some c2 ∧ w.cell? (x.add (i * 4 + 3)) = some c3
/-- The value v reads as the tree t. -/
def RdT (ok : Nat → Prop) (w : World) : (d : Nat) → T d → Value → Prop
  | 0, t, _ => Empty.elim t
  | d + 1, t, v => ∃ sl, v = .agg #[.int .i64 (show Int × Int × ByteArray × List (T d) from t).1, .int .i64 (show Int × Int × ByteArray × List (T d) from t).2.1, .string (show Int × Int × ByteArray × List (T d) from t).2.2.1, sl] ∧ RdP ok w (RdT ok w d) (show Int × Int × ByteArray × List (T d) from t).2.2.2 sl
theorem rdT_mk {ok : Nat → Prop} {w : World} {d : Nat} {k n : Int} {s : ByteArray} {ps : List (T d)} {v : Value} : RdT ok w (d + 1) (mkT k n s ps) v ↔ ∃ sl, v = .agg #[.int .i64 k, .int .i64 n, .string s, sl] ∧ RdP ok w (RdT ok w d) ps sl := Iff.rfl

theorem keep_cell {w w' : World} {p : Addr} {u : Value} (h : w'.heap[p.block]? = w.heap[p.block]?) (hc : w.cell? p = some u) : w'.cell? p = some u := by
  unfold World.cell? at hc ⊢
  rw [h]
  exact hc
theorem add_block (x : Addr) (i : Nat) : (x.add i).block = x.block := by unfold Addr.add; split <;> rfl
/-- What is read stays where its blocks stay. -/
theorem RdP.keep {α : Type} {ok ok' : Nat → Prop} {w w' : World} {R R' : α → Value → Prop} {l : List α} {v : Value} (h : RdP ok w R l v) (hR : ∀ x ∈ l, ∀ u, R x u → R' x u) (hk : ∀ b, ok b → b < w.heap.size → ok' b ∧ w'.heap[b]? = w.heap[b]?) : RdP ok' w' R' l v := by
  obtain ⟨a, cap, rfl, hc, hm, hn, hcell⟩ := h
  refine ⟨a, cap, rfl, hc, hm, hn, fun x hx i hi => ?_⟩
  obtain ⟨ho, c0, c1, c2, c3, h0, h1, h2, h3, h4⟩ := hcell x hx i hi
  have hb : x.block < w.heap.size := by
    have := World.block_lt_of_cell? w _ h1
    rw [add_block] at this
    exact this
  obtain ⟨ho', hs⟩ := hk _ ho hb
  have kk : ∀ j u, w.cell? (x.add j) = some u → w'.cell? (x.add j) = some u := fun j u hu => keep_cell (by rw [add_block]; exact hs) hu
  exact ⟨ho', c0, c1, c2, c3, hR _ (List.getElem_mem hi) _ h0, kk _ _ h1, kk _ _ h2, kk _ _ h3, kk _ _ h4⟩
theorem RdT.keep {ok ok' : Nat → Prop} {w w' : World} (hk : ∀ b, ok b → b < w.heap.size → ok' b ∧ w'.heap[b]? = w.heap[b]?) : ∀ {d : Nat} {t : T d} {v : Value}, RdT ok w d t v → RdT ok' w' d t v
  | 0, t, v, h => Empty.elim t
  | d + 1, t, v, h => by
    obtain ⟨sl, hv, hp⟩ := h
    exact ⟨sl, hv, hp.keep (fun x _ u hu => RdT.keep hk hu) hk⟩
theorem RdT.below {ok : Nat → Prop} {w w' : World} {B : Nat} (hb : Below B w w') (hB : w.heap.size ≤ B) {d : Nat} {t : T d} {v : Value} (h : RdT ok w d t v) : RdT ok w' d t v :=
  RdT.keep (fun b ho hl => ⟨ho, hb.block b (by omega)⟩) h
theorem RdP.below {ok : Nat → Prop} {w w' : World} {d : Nat} {l : List (T d)} {v : Value} {B : Nat} (h : RdP ok w (RdT ok w d) l v) (hb : Below B w w') (hB : w.heap.size ≤ B) : RdP ok w' (RdT ok w' d) l v :=
  h.keep (fun x _ u hu => RdT.below hb hB hu) (fun b ho hl => ⟨ho, hb.block b (by omega)⟩)
/-- Where its elements lie. -/
theorem RdP.form {α : Type} {ok : Nat → Prop} {w : World} {R : α → Value → Prop} {l : List α} {v : Value} (h : RdP ok w R l v) : ∃ a cap, v = .slice a l.length cap ∧ l.length ≤ cap ∧ cap ≤ 9223372036854775807 ∧
    ∀ (i : Nat) (hi : i < l.length), ∃ b off c0 c1 c2 c3, a = some ⟨b, off, none⟩ ∧ b < w.heap.size ∧ R l[i] (.agg #[c0, c1, c2, c3]) ∧ w.cell? ⟨b, off + i * 4, none⟩ = some c0 ∧ w.cell? ⟨b, off + i * 4 + 1, none⟩ = some c1 ∧ w.cell? ⟨b, off + i * 4 + 2, none⟩ = some c2 ∧ w.cell? ⟨b, off + i * 4 + 3, none⟩ = some c3 := by
  obtain ⟨a, cap, rfl, hc, hm, hn, hcell⟩ := h
  refine ⟨a, cap, rfl, hc, by unfold maxLen at hm; omega, fun i hi => ?_⟩
  cases a with
  | none => have := hn rfl; subst this; simp at hi
  | some x =>
    obtain ⟨b, off, spot⟩ := x
    obtain ⟨_, c0, c1, c2, c3, h0, h1, h2, h3, h4⟩ := hcell _ rfl i hi
    obtain ⟨_, _, _, _, _, _, z1, _⟩ := hcell _ rfl 0 (by omega)
    have hspot : spot = none := by simpa [Addr.add] using World.cell?_spot z1
    subst hspot
    rw [add_plain] at h1 h2 h3 h4
    exact ⟨b, off, c0, c1, c2, c3, rfl, World.block_lt_of_cell? w _ h1, h0, h1, h2, h3, h4⟩

/-- A block of four cells, read alone. -/
def At4 (w : World) (X : Nat) (a b c e : Value) : Prop := w.cell? ⟨X, 0, none⟩ = some a ∧ w.cell? ⟨X, 1, none⟩ = some b ∧ w.cell? ⟨X, 2, none⟩ = some c ∧ w.cell? ⟨X, 3, none⟩ = some e
theorem At4.keepB {w w' : World} {X B : Nat} {a b c e : Value} (h : At4 w X a b c e) (hb : Below B w w') (hX : X < B) : At4 w' X a b c e := by
  refine ⟨?_, ?_, ?_, ?_⟩
  · rw [hb.cell (p := ⟨X, 0, none⟩) hX]; exact h.1
  · rw [hb.cell (p := ⟨X, 1, none⟩) hX]; exact h.2.1
  · rw [hb.cell (p := ⟨X, 2, none⟩) hX]; exact h.2.2.1
  · rw [hb.cell (p := ⟨X, 3, none⟩) hX]; exact h.2.2.2
theorem At4.new (w : World) (a b c e : Value) (T : TypeId) : At4 (w.alloc (.cells #[a, b, c, e] T)) w.heap.size a b c e := ⟨by simp, by simp, by simp, by simp⟩
theorem At4.newAt (w : World) (a b c e : Value) (T : TypeId) (n : Nat) (hn : n = w.heap.size) : At4 (w.alloc (.cells #[a, b, c, e] T)) n a b c e := by subst hn; exact At4.new w a b c e T
end Go.Proofs.YtiddccohldjjcaaGreatDoor

/- The expression of a tree. -/
namespace Go.Proofs.YtiddccohldjjcaaGreatDoor
open Go.RowKit
set_option linter.unusedSimpArgs false
set_option linter.unusedVariables false

/-- The expression of a tree. -/
def exV : (d : Nat) → T d → Value := fold (fun k n s l =>
  if k = 1 then .iface 41 (.agg #[.int .i64 n]) else if k = 2 then .iface 52 (.agg #[.string s]) else if k = 3 then .iface 54 (.agg #[l.getD 0 .nilIface]) else if k = 4 then .iface 55 (.agg #[l.getD 0 .nilIface])
  else if k = 5 then .iface 43 (.agg #[.string s, l.getD 0 .nilIface, l.getD 1 .nilIface]) else .nilIface)
def exP {d : Nat} (ps : List (T d)) (i : Nat) : Value := (ps.map (exV d)).getD i .nilIface
theorem exV_mk {d : Nat} (k n : Int) (s : ByteArray) (ps : List (T d)) : exV (d + 1) (mkT k n s ps) =
    if k = 1 then .iface 41 (.agg #[.int .i64 n]) else if k = 2 then .iface 52 (.agg #[.string s]) else if k = 3 then .iface 54 (.agg #[exP ps 0]) else if k = 4 then .iface 55 (.agg #[exP ps 0])
    else if k = 5 then .iface 43 (.agg #[.string s, exP ps 0, exP ps 1]) else .nilIface := rfl
theorem exV_none {d : Nat} : exV (d + 1) (none0 : T (d + 1)) = .nilIface := rfl

theorem exV_form : ∀ (d : Nat) (t : T d), exV d t = .nilIface ∨ ∃ u x, exV d t = .iface u x
  | 0, t => Empty.elim t
  | d + 1, t => by
    obtain ⟨k, n, s, ps, rfl⟩ := T.open t
    rw [exV_mk]
    repeat' split
    all_goals first | exact .inl rfl | exact .inr ⟨_, _, rfl⟩
theorem exP_form {d : Nat} (ps : List (T d)) (i : Nat) : exP ps i = .nilIface ∨ ∃ u x, exP ps i = .iface u x := by
  unfold exP
  rw [List.getD_eq_getElem?_getD, List.getElem?_map]
  cases ps[i]? with
  | none => exact .inl rfl
  | some p => exact exV_form d p
end Go.Proofs.YtiddccohldjjcaaGreatDoor

/- What an expression is by itself: topOf. -/
namespace Go.Proofs.YtiddccohldjjcaaGreatDoor
open Go.RowKit Go.Lib
set_option linter.unusedSimpArgs false
set_option linter.unusedVariables false
attribute [local go_sem ↓] Go.wp_at_zero Go.wp_at_succ

/-- The slice v holds the values l, from a block's first cell on. -/
def Kids (w : World) (v : Value) (l : List Value) : Prop :=
  (v = .slice none 0 0 ∧ l = []) ∨ ∃ g, v = .slice (some ⟨g, 0, none⟩) l.length l.length ∧ ∀ (i : Nat) (h : i < l.length), w.cell? ⟨g, i, none⟩ = some l[i]
abbrev topV (k n : Int) (s : ByteArray) (v : Value) : Value := .agg #[.int .i64 k, .int .i64 n, .string s, v]
def Ifc (x : Value) : Prop := x = .nilIface ∨ ∃ u y, x = .iface u y

theorem as_lit_lit (v : Value) (w : World) : (Instr.typeAssert (.iface 41 v) 31 41 true).run Tryz.prog w = .ok (.tuple #[v, .bool true]) w := by kernel_rfl
theorem as_ref_lit (v : Value) (w : World) : (Instr.typeAssert (.iface 52 v) 31 41 true).run Tryz.prog w = .ok (.tuple #[.agg #[.int .i64 0], .bool false]) w := by kernel_rfl
theorem as_ref_ref (v : Value) (w : World) : (Instr.typeAssert (.iface 52 v) 31 52 true).run Tryz.prog w = .ok (.tuple #[v, .bool true]) w := by kernel_rfl
theorem as_not_lit (v : Value) (w : World) : (Instr.typeAssert (.iface 54 v) 31 41 true).run Tryz.prog w = .ok (.tuple #[.agg #[.int .i64 0], .bool false]) w := by kernel_rfl
theorem as_not_ref (v : Value) (w : World) : (Instr.typeAssert (.iface 54 v) 31 52 true).run Tryz.prog w = .ok (.tuple #[.agg #[.string ⟨#[]⟩], .bool false]) w := by kernel_rfl
theorem as_not_not (v : Value) (w : World) : (Instr.typeAssert (.iface 54 v) 31 54 true).run Tryz.prog w = .ok (.tuple #[v, .bool true]) w := by kernel_rfl
theorem as_neg_lit (v : Value) (w : World) : (Instr.typeAssert (.iface 55 v) 31 41 true).run Tryz.prog w = .ok (.tuple #[.agg #[.int .i64 0], .bool false]) w := by kernel_rfl
theorem as_neg_ref (v : Value) (w : World) : (Instr.typeAssert (.iface 55 v) 31 52 true).run Tryz.prog w = .ok (.tuple #[.agg #[.string ⟨#[]⟩], .bool false]) w := by kernel_rfl
theorem as_neg_not (v : Value) (w : World) : (Instr.typeAssert (.iface 55 v) 31 54 true).run Tryz.prog w = .ok (.tuple #[.agg #[.nilIface], .bool false]) w := by kernel_rfl
theorem as_neg_neg (v : Value) (w : World) : (Instr.typeAssert (.iface 55 v) 31 55 true).run Tryz.prog w = .ok (.tuple #[v, .bool true]) w := by kernel_rfl
theorem as_bin_lit (v : Value) (w : World) : (Instr.typeAssert (.iface 43 v) 31 41 true).run Tryz.prog w = .ok (.tuple #[.agg #[.int .i64 0], .bool false]) w := by kernel_rfl
theorem as_bin_ref (v : Value) (w : World) : (Instr.typeAssert (.iface 43 v) 31 52 true).run Tryz.prog w = .ok (.tuple #[.agg #[.string ⟨#[]⟩], .bool false]) w := by kernel_rfl
theorem as_bin_not (v : Value) (w : World) : (Instr.typeAssert (.iface 43 v) 31 54 true).run Tryz.prog w = .ok (.tuple #[.agg #[.nilIface], .bool false]) w := by kernel_rfl
theorem as_bin_neg (v : Value) (w : World) : (Instr.typeAssert (.iface 43 v) 31 55 true).run Tryz.prog w = .ok (.tuple #[.agg #[.nilIface], .bool false]) w := by kernel_rfl
theorem as_bin_bin (v : Value) (w : World) : (Instr.typeAssert (.iface 43 v) 31 43 true).run Tryz.prog w = .ok (.tuple #[v, .bool true]) w := by kernel_rfl
attribute [local go_sem] as_lit_lit as_ref_lit as_ref_ref as_not_lit as_not_ref as_not_not as_neg_lit as_neg_ref as_neg_not as_neg_neg as_bin_lit as_bin_ref as_bin_not as_bin_neg as_bin_bin

theorem cell1_new (w : World) (a : Value) (t : TypeId) (n : Nat) (hn : n = w.heap.size) : (w.alloc (.cells #[a] t)).cell? ⟨n, 0, none⟩ = some a := by subst hn; simp
theorem cell2_new (w : World) (a b : Value) (t : TypeId) (n : Nat) (hn : n = w.heap.size) : (w.alloc (.cells #[a, b] t)).cell? ⟨n, 0, none⟩ = some a ∧ (w.alloc (.cells #[a, b] t)).cell? ⟨n, 1, none⟩ = some b := by subst hn; simp
theorem kids0 (w : World) : Kids w (.slice none 0 0) [] := .inl ⟨rfl, rfl⟩
theorem kids1 {w : World} {g : Nat} {x : Value} (h : w.cell? ⟨g, 0, none⟩ = some x) : Kids w (.slice (some ⟨g, 0, none⟩) 1 1) [x] := .inr ⟨g, rfl, fun i hi => by
  match i, hi with
  | 0, _ => exact h⟩
theorem kids2 {w : World} {g : Nat} {x y : Value} (h : w.cell? ⟨g, 0, none⟩ = some x) (h' : w.cell? ⟨g, 1, none⟩ = some y) : Kids w (.slice (some ⟨g, 0, none⟩) 2 2) [x, y] := .inr ⟨g, rfl, fun i hi => by
  match i, hi with
  | 0, _ => exact h
  | 1, _ => exact h'⟩
theorem Kids.below {w w' : World} {v : Value} {l : List Value} {B : Nat} (h : Kids w v l) (hb : Below B w w') (hB : w.heap.size ≤ B) : Kids w' v l := by
  rcases h with h | ⟨g, hv, hc⟩
  · exact .inl h
  · exact .inr ⟨g, hv, fun i hi => by rw [hb.cell (p := ⟨g, i, none⟩) (Nat.lt_of_lt_of_le (World.block_lt_of_cell? w _ (hc i hi)) hB)]; exact hc i hi⟩

theorem top_nil (w : World) : Calls Tryz.prog 27 #[.nilIface] w fun e w' => ∃ sl, e = .returned (topV 0 0 ⟨#[]⟩ sl) ∧ Kids w' sl [] ∧ Below w.heap.size w w' := by
  go_enter Tryz.func27, Tryz.ntmps27
  go_wp2
  refine bodyPost_ret (v := topV 0 0 ⟨#[]⟩ (.slice none 0 0)) (by simp [results, Tryz.results27, go_sem]) rfl ⟨_, rfl, kids0 _, ?_⟩
  · (repeat (refine Below.alloc ?_ (by simp <;> omega) _)); exact Below.refl _ _

theorem top_lit (n : Int) (w : World) : Calls Tryz.prog 27 #[.iface 41 (.agg #[.int .i64 n])] w fun e w' => ∃ sl, e = .returned (topV 1 n ⟨#[]⟩ sl) ∧ Kids w' sl [] ∧ Below w.heap.size w w' := by
  go_enter Tryz.func27, Tryz.ntmps27
  go_wp2
  refine bodyPost_ret (v := topV 1 n ⟨#[]⟩ (.slice none 0 0)) (by simp [results, Tryz.results27, go_sem]) rfl ⟨_, rfl, kids0 _, ?_⟩
  · (repeat (refine Below.alloc ?_ (by simp <;> omega) _)); exact Below.refl _ _

theorem top_ref (s : ByteArray) (w : World) : Calls Tryz.prog 27 #[.iface 52 (.agg #[.string s])] w fun e w' => ∃ sl, e = .returned (topV 2 0 s sl) ∧ Kids w' sl [] ∧ Below w.heap.size w w' := by
  go_enter Tryz.func27, Tryz.ntmps27
  go_wp2
  refine bodyPost_ret (v := topV 2 0 s (.slice none 0 0)) (by simp [results, Tryz.results27, go_sem]) rfl ⟨_, rfl, kids0 _, ?_⟩
  · (repeat (refine Below.alloc ?_ (by simp <;> omega) _)); exact Below.refl _ _

theorem top_not (x : Value) (hx : Ifc x) (w : World) : Calls Tryz.prog 27 #[.iface 54 (.agg #[x])] w fun e w' => ∃ sl, e = .returned (topV 3 0 ⟨#[]⟩ sl) ∧ Kids w' sl [x] ∧ Below w.heap.size w w' := by
  rcases hx with rfl | ⟨u, y, rfl⟩
  · go_enter Tryz.func27, Tryz.ntmps27
    go_wp2
    refine bodyPost_ret (v := topV 3 0 ⟨#[]⟩ (.slice (some ⟨w.heap.size + 4, 0, none⟩) 1 1)) (by simp [results, Tryz.results27, go_sem]) rfl ⟨_, rfl, kids1 ?_, ?_⟩
    · exact cell1_new _ _ _ _ (by simp)
    · (repeat (refine Below.alloc ?_ (by simp <;> omega) _)); exact Below.refl _ _
  · go_enter Tryz.func27, Tryz.ntmps27
    go_wp2
    refine bodyPost_ret (v := topV 3 0 ⟨#[]⟩ (.slice (some ⟨w.heap.size + 4, 0, none⟩) 1 1)) (by simp [results, Tryz.results27, go_sem]) rfl ⟨_, rfl, kids1 ?_, ?_⟩
    · exact cell1_new _ _ _ _ (by simp)
    · (repeat (refine Below.alloc ?_ (by simp <;> omega) _)); exact Below.refl _ _

theorem top_neg (x : Value) (hx : Ifc x) (w : World) : Calls Tryz.prog 27 #[.iface 55 (.agg #[x])] w fun e w' => ∃ sl, e = .returned (topV 4 0 ⟨#[]⟩ sl) ∧ Kids w' sl [x] ∧ Below w.heap.size w w' := by
  rcases hx with rfl | ⟨u, y, rfl⟩
  · go_enter Tryz.func27, Tryz.ntmps27
    go_wp2
    refine bodyPost_ret (v := topV 4 0 ⟨#[]⟩ (.slice (some ⟨w.heap.size + 5, 0, none⟩) 1 1)) (by simp [results, Tryz.results27, go_sem]) rfl ⟨_, rfl, kids1 ?_, ?_⟩
    · exact cell1_new _ _ _ _ (by simp)
    · (repeat (refine Below.alloc ?_ (by simp <;> omega) _)); exact Below.refl _ _
  · go_enter Tryz.func27, Tryz.ntmps27
    go_wp2
    refine bodyPost_ret (v := topV 4 0 ⟨#[]⟩ (.slice (some ⟨w.heap.size + 5, 0, none⟩) 1 1)) (by simp [results, Tryz.results27, go_sem]) rfl ⟨_, rfl, kids1 ?_, ?_⟩
    · exact cell1_new _ _ _ _ (by simp)
    · (repeat (refine Below.alloc ?_ (by simp <;> omega) _)); exact Below.refl _ _

theorem top_bin (s : ByteArray) (x x' : Value) (hx : Ifc x) (hx' : Ifc x') (w : World) : Calls Tryz.prog 27 #[.iface 43 (.agg #[.string s, x, x'])] w fun e w' => ∃ sl, e = .returned (topV 5 0 s sl) ∧ Kids w' sl [x, x'] ∧ Below w.heap.size w w' := by
  rcases hx with rfl | ⟨u, y, rfl⟩ <;> rcases hx' with rfl | ⟨u', y', rfl⟩
  · go_enter Tryz.func27, Tryz.ntmps27
    go_wp2
    refine bodyPost_ret (v := topV 5 0 s (.slice (some ⟨w.heap.size + 6, 0, none⟩) 2 2)) (by simp [results, Tryz.results27, go_sem]) rfl ⟨_, rfl, kids2 ?_ ?_, ?_⟩
    · exact (cell2_new _ _ _ _ _ (by simp)).1
    · exact (cell2_new _ _ _ _ _ (by simp)).2
    · (repeat (refine Below.alloc ?_ (by simp <;> omega) _)); exact Below.refl _ _
  · go_enter Tryz.func27, Tryz.ntmps27
    go_wp2
    refine bodyPost_ret (v := topV 5 0 s (.slice (some ⟨w.heap.size + 6, 0, none⟩) 2 2)) (by simp [results, Tryz.results27, go_sem]) rfl ⟨_, rfl, kids2 ?_ ?_, ?_⟩
    · exact (cell2_new _ _ _ _ _ (by simp)).1
    · exact (cell2_new _ _ _ _ _ (by simp)).2
    · (repeat (refine Below.alloc ?_ (by simp <;> omega) _)); exact Below.refl _ _
  · go_enter Tryz.func27, Tryz.ntmps27
    go_wp2
    refine bodyPost_ret (v := topV 5 0 s (.slice (some ⟨w.heap.size + 6, 0, none⟩) 2 2)) (by simp [results, Tryz.results27, go_sem]) rfl ⟨_, rfl, kids2 ?_ ?_, ?_⟩
    · exact (cell2_new _ _ _ _ _ (by simp)).1
    · exact (cell2_new _ _ _ _ _ (by simp)).2
    · (repeat (refine Below.alloc ?_ (by simp <;> omega) _)); exact Below.refl _ _
  · go_enter Tryz.func27, Tryz.ntmps27
    go_wp2
    refine bodyPost_ret (v := topV 5 0 s (.slice (some ⟨w.heap.size + 6, 0, none⟩) 2 2)) (by simp [results, Tryz.results27, go_sem]) rfl ⟨_, rfl, kids2 ?_ ?_, ?_⟩
    · exact (cell2_new _ _ _ _ _ (by simp)).1
    · exact (cell2_new _ _ _ _ _ (by simp)).2
    · (repeat (refine Below.alloc ?_ (by simp <;> omega) _)); exact Below.refl _ _

theorem ifc_ex {d : Nat} (t : T d) : Ifc (exV d t) := exV_form d t
/-- What an expression is by itself. -/
theorem top_any {d : Nat} {t : T (d + 1)} (hc : Cl (d + 1) t) : ∃ k n s ps, t = mkT k n s ps ∧ ∀ w, Calls Tryz.prog 27 #[exV (d + 1) t] w fun e w' => ∃ sl, e = .returned (topV k n s sl) ∧ Kids w' sl (ps.map (exV d)) ∧ Below w.heap.size w w' := by
  rcases hc.cases with ⟨n, rfl⟩ | ⟨s, rfl⟩ | ⟨k, p, hk, rfl, hp⟩ | ⟨s, p, q, rfl, hp, hq⟩ | rfl
  · exact ⟨1, n, _, [], rfl, fun w => top_lit n w⟩
  · exact ⟨2, 0, s, [], rfl, fun w => top_ref s w⟩
  · rcases hk with rfl | rfl
    · exact ⟨3, 0, _, [p], rfl, fun w => top_not (exV d p) (ifc_ex p) w⟩
    · exact ⟨4, 0, _, [p], rfl, fun w => top_neg (exV d p) (ifc_ex p) w⟩
  · exact ⟨5, 0, s, [p, q], rfl, fun w => top_bin s (exV d p) (exV d q) (ifc_ex p) (ifc_ex q) w⟩
  · exact ⟨0, 0, _, [], rfl, fun w => top_nil w⟩
end Go.Proofs.YtiddccohldjjcaaGreatDoor

/- Rows of expressions that are left to be asked: in memory, popped, grown. -/
namespace Go.Proofs.YtiddccohldjjcaaGreatDoor
open Go.RowKit Go.Lib
set_option linter.unusedSimpArgs false
set_option linter.unusedVariables false

theorem fld_k (a b c e : Value) (w : World) : (Instr.field 66 (.agg #[a, b, c, e]) 0).run Tryz.prog w = .ok a w := by kernel_rfl
theorem fld_n (a b c e : Value) (w : World) : (Instr.field 66 (.agg #[a, b, c, e]) 1).run Tryz.prog w = .ok b w := by kernel_rfl
theorem fld_s (a b c e : Value) (w : World) : (Instr.field 66 (.agg #[a, b, c, e]) 2).run Tryz.prog w = .ok c w := by kernel_rfl
theorem fld_i (a b c e : Value) (w : World) : (Instr.field 66 (.agg #[a, b, c, e]) 3).run Tryz.prog w = .ok e w := by kernel_rfl
abbrev Sg := (d : Nat) × T d
def exS (x : Sg) : Value := exV x.1 x.2
def cntS (x : Sg) : Nat := cnt x.1 x.2
def ClS (x : Sg) : Prop := Cl x.1 x.2
/-- The slice v, of the call's own from block base on, holds the expressions st. -/
def Stk (w : World) (base : Nat) (v : Value) (st : List Sg) : Prop := w.ownsRow base 31 1 v st.length (st.map exS)
theorem own_on {w w' : World} {base e size : Nat} {v : Value} {n : Nat} {xs : List Value} {B : Nat} (h : w.ownsRow base e size v n xs) (hb : Below B w w') (hB : w.heap.size ≤ B) : w'.ownsRow base e size v n xs := by
  refine ⟨h.1, ?_⟩
  rcases h.2 with hn | ⟨g, cap, cur, rfl, hbg, hg, rest⟩
  · exact .inl hn
  · exact .inr ⟨g, cap, cur, rfl, hbg, by rw [hb.block g (by have := (Array.getElem?_eq_some_iff.1 hg).1; omega)]; exact hg, rest⟩
theorem Stk.on {w w' : World} {base : Nat} {v : Value} {st : List Sg} {B : Nat} (h : Stk w base v st) (hb : Below B w w') (hB : w.heap.size ≤ B) : Stk w' base v st := own_on h hb hB
theorem exS_form (x : Sg) : exS x = .nilIface ∨ ∃ u y, exS x = .iface u y := exV_form x.1 x.2
/-- The last one taken off. -/
theorem Stk.pop {w : World} {base : Nat} {v : Value} {st : List Sg} {x : Sg} (h : Stk w base v (st ++ [x])) : ∃ g cap, v = .slice (some ⟨g, 0, none⟩) (st.length + 1) cap ∧ st.length + 1 ≤ cap ∧ cap ≤ maxLen ∧ base ≤ g ∧ g < w.heap.size ∧
    w.cell? ⟨g, st.length, none⟩ = some (exS x) ∧ Stk w base (.slice (some ⟨g, 0, none⟩) st.length cap) st := by
  unfold Stk at h
  rw [List.length_append, List.length_singleton, List.map_append, List.map_singleton] at h
  have hc := fun g => World.ownsRow.cells h (g := g)
  rcases h.2 with ⟨_, h2⟩ | ⟨g, cap, cur, rfl, hb, hg, hnc, hcm, hcs, htake⟩
  · omega
  · have h1 := hc g rfl st.length (exS x) (by simp)
    rw [show (⟨g, 0, none⟩ : Addr).add st.length = ⟨g, st.length, none⟩ by unfold Addr.add; split <;> simp_all] at h1
    refine ⟨g, cap, rfl, hnc, hcm, hb, (Array.getElem?_eq_some_iff.1 hg).1, h1, by simp, .inr ⟨g, cap, cur, rfl, hb, hg, by omega, hcm, hcs, ?_⟩⟩
    have h3 := congrArg (List.take st.length) htake
    rw [List.take_take] at h3
    simp only [Nat.mul_one] at h3 ⊢
    rw [Nat.min_eq_left (by omega), List.take_left' (by simp)] at h3
    exact h3
theorem Stk.nil {w : World} {base : Nat} {v : Value} (h : Stk w base v []) : ∃ a cap, v = .slice a 0 cap := by
  rcases h.2 with ⟨h1, _⟩ | ⟨g, cap, cur, rfl, _⟩
  · exact ⟨_, _, h1⟩
  · exact ⟨_, _, rfl⟩
theorem Tryz.infoE : (Tryz.prog.info? 31).map (fun i => (i.zero, i.size, i.bytes)) = some (some .nilIface, 1, 16) := by kernel_rfl
theorem Kids.form {w : World} {sl : Value} {l : List Value} (h : Kids w sl l) : ∃ a, sl = .slice a l.length l.length := by
  rcases h with ⟨rfl, rfl⟩ | ⟨g, rfl, _⟩
  · exact ⟨_, rfl⟩
  · exact ⟨_, rfl⟩
theorem Kids.at {w : World} {a : Option Addr} {m c j : Nat} {l : List Value} (h : Kids w (.slice a m c) l) (hj : j < l.length) : ∃ g, a = some ⟨g, 0, none⟩ ∧ w.cell? ⟨g, j, none⟩ = some l[j] := by
  rcases h with ⟨h1, rfl⟩ | ⟨g, h1, hc⟩
  · simp at hj
  · simp only [Value.slice.injEq] at h1
    exact ⟨g, h1.1, hc j hj⟩
theorem Kids.cell1 {w : World} {g m c : Nat} {x y : Value} (h : Kids w (.slice (some ⟨g, 0, none⟩) m c) [x, y]) : w.cell? ⟨g, 1, none⟩ = some y := by
  obtain ⟨g', hg, hc⟩ := h.at (j := 1) (by simp)
  obtain rfl : g = g' := by simpa using hg
  exact hc
theorem Kids.src {w : World} {sl : Value} {l : List Value} (h : Kids w sl l) (hf : ∀ v ∈ l, Ifc v) : Src Tryz.prog 1 64 sl l.length l w := by
  rcases h with ⟨rfl, rfl⟩ | ⟨g, rfl, hc⟩
  · exact Src.ofNil w Tryz.underlying64 0
  · refine Src.ofSlice w Tryz.underlying64 _ _ _ l (by simp) (fun j u hu => ?_) (fun u hu => ?_)
    · have hj : j < l.length := (List.getElem?_eq_some_iff.1 hu).1
      rw [List.getElem?_eq_getElem hj] at hu
      rw [show (⟨g, 0, none⟩ : Addr).add j = ⟨g, j, none⟩ by unfold Addr.add; split <;> simp_all, hc j hj, hu]
    · rcases hf u hu with rfl | ⟨t, y, rfl⟩ <;> rfl
/-- The parts of a tree, each with its depth. -/
def kidS {d : Nat} (ps : List (T d)) : List Sg := ps.map (fun p => ⟨d, p⟩)
theorem kidS_ex {d : Nat} (ps : List (T d)) : (kidS ps).map exS = ps.map (exV d) := by unfold kidS; rw [List.map_map]; rfl
theorem kidS_cnt {d : Nat} (ps : List (T d)) : ((kidS ps).map cntS).sum = (ps.map (cnt d)).sum := by unfold kidS; rw [List.map_map]; rfl
theorem kidS_len {d : Nat} (ps : List (T d)) : (kidS ps).length = ps.length := by simp [kidS]
theorem Stk.push {w : World} {base : Nat} {v : Value} {st : List Sg} {d : Nat} {ps : List (T d)} {n : Nat} (hn : n = st.length + ps.length) (h : w.ownsRow base 31 1 v n (st.map exS ++ ps.map (exV d))) : Stk w base v (st ++ kidS ps) := by
  unfold Stk
  rw [List.length_append, List.map_append, kidS_ex, kidS_len, ← hn]
  exact h
theorem ifc_map {d : Nat} (ps : List (T d)) : ∀ v ∈ ps.map (exV d), Ifc v := fun v hv => by
  obtain ⟨p, _, rfl⟩ := List.mem_map.1 hv
  exact ifc_ex p
/-- What is asked of a tree's parts. -/
theorem Cl.parts {d : Nat} {k n : Int} {s : ByteArray} {ps : List (T d)} (h : Cl (d + 1) (mkT k n s ps)) : ps.length ≤ 2 ∧ ∀ p ∈ ps, Cl d p := by
  rcases h with ⟨_, _, h3⟩ | ⟨_, _, h3⟩ | ⟨_, _, _, p, h4, h5⟩ | ⟨_, _, p, q, h3, h4, h5⟩ | ⟨_, _, _, h4⟩
  · simp only at h3; subst h3; simp
  · simp only at h3; subst h3; simp
  · simp only at h4; subst h4; simpa using h5
  · simp only at h3; subst h3; simp [h4, h5]
  · simp only at h4; subst h4; simp
theorem last_of {α : Type} {l : List α} (h : l ≠ []) : ∃ a x, l = a ++ [x] := ⟨l.dropLast, l.getLast h, (List.dropLast_concat_getLast h).symm⟩
end Go.Proofs.YtiddccohldjjcaaGreatDoor
