import Derived.Test.YtccmmkhcacglhaaGreatDoorWkc03
import Derived.Test.YtccmmkhcacglhaaGreatDoorWkc01
import Derived.Test.YtccmmkhcacglhaaGreatDoorWkc02
import Derived.BigQuiet
import Derived.Deep.QuietTactic
import Derived.BigRegion
import Derived.Lib.ParseIntBCases

/- Words one by one; what reading makes of them; how long a printed text is. Math alone. -/
namespace Go.Proofs.YtccmmkhcacglhaaGreatDoor
open Go.RowKit Go.Lib
set_option linter.unusedSimpArgs false
set_option linter.unusedVariables false

/-- The runes are one word of this kind, and no more. -/
structure OneW (K : Nat) (seg : List Ru) : Prop where
  k : K ≠ 0
  f : fst1 seg = (K, seg.length)
  g : ∀ v ∈ seg, Good v
  h : ∃ v t, seg = v :: t ∧ v.1 ≠ 10 ∧ v.1 ≠ 32 ∧ v.1 ≠ 9 ∧ v.1 ≠ 35
  l : (byt seg).length ≤ 12000
theorem byt_take_le (rs : List Ru) (m : Nat) : (byt (rs.take m)).length ≤ (byt rs).length := by have := byt_split rs m; omega
theorem byt_drop_le (rs : List Ru) (m : Nat) : (byt (rs.drop m)).length ≤ (byt rs).length := by have := byt_split rs m; omega
theorem wrds_one : ∀ (f : Nat) (rs : List Ru), rs.length ≤ f → (∀ v ∈ rs, v.1 ≠ -1 → Good v) → (byt rs).length ≤ 12000 → ∀ (ln co : Int) (n : Nat), n ≤ 3000 → (wrds rs ln co n).2.2 = 0 →
    (∀ w ∈ (wrds rs ln co n).1, OneW w.1 w.2.1) ∧ n + (wrds rs ln co n).1.length ≤ 3000
  | 0, rs, h, _, _, ln, co, n, hn, _ => by
    have : rs = [] := List.eq_nil_of_length_eq_zero (by omega)
    subst this
    exact ⟨(fun w hw => (by cases hw)), by rw [wrds_nil]; simpa using hn⟩
  | f + 1, [], h, _, _, ln, co, n, hn, _ => ⟨(fun w hw => (by cases hw)), by rw [wrds_nil]; simpa using hn⟩
  | f + 1, v :: t, h, hg, hb, ln, co, n, hn, h0 => by
    have ht : t.length ≤ f := by simp at h; omega
    have hgt : ∀ v ∈ t, v.1 ≠ -1 → Good v := fun x hx => hg x (List.mem_cons_of_mem _ hx)
    have hbt : (byt t).length ≤ 12000 := by rw [byt_cons, List.length_append] at hb; omega
    have e := wrds_cons v t ln co n
    by_cases c1 : v.1 = 10
    · simp only [if_pos c1] at e
      rw [e] at h0 ⊢
      exact wrds_one f t ht hgt hbt _ _ _ hn h0
    simp only [if_neg c1] at e
    by_cases c2 : v.1 = 32 ∨ v.1 = 9
    · simp only [if_pos c2] at e
      rw [e] at h0 ⊢
      exact wrds_one f t ht hgt hbt _ _ _ hn h0
    simp only [if_neg c2] at e
    by_cases c3 : v.1 = 35
    · simp only [if_pos c3] at e
      have hp := rest_pos (t := t) c1
      rw [e] at h0 ⊢
      exact wrds_one f _ (by rw [List.length_drop]; simp; omega) (fun x hx => hg x (List.mem_of_mem_drop hx)) (Nat.le_trans (byt_drop_le _ _) hb) _ _ _ hn h0
    simp only [if_neg c3] at e
    by_cases c4 : (fst1 (v :: t)).1 = 0
    · simp only [if_pos c4] at e
      rw [e] at h0; simp at h0
    simp only [if_neg c4] at e
    by_cases c5 : n = 3000
    · simp only [if_pos c5] at e
      rw [e] at h0; simp at h0
    simp only [if_neg c5] at e
    obtain ⟨hm, hm2⟩ := fst1_le v t c4
    obtain ⟨hf, hgd⟩ := fst1_take c4
    rw [e] at h0 ⊢
    obtain ⟨hr0, hX⟩ := pre_ok h0
    have ih := wrds_one f _ (by rw [List.length_drop]; simp; omega) (fun x hx => hg x (List.mem_of_mem_drop hx)) (Nat.le_trans (byt_drop_le _ _) hb) _ _ _ (by omega) hr0
    rw [hX]
    refine ⟨fun w hw => ?_, by rw [List.length_cons]; omega⟩
    rcases List.mem_cons.1 hw with rfl | hw
    · have hl : ((v :: t).take (fst1 (v :: t)).2).length = (fst1 (v :: t)).2 := by rw [List.length_take]; omega
      refine ⟨c4, ?_, fun x hx => hg x (List.mem_of_mem_take hx) (hgd x hx), ?_, Nat.le_trans (byt_take_le _ _) hb⟩
      · show fst1 ((v :: t).take (fst1 (v :: t)).2) = _
        rw [hf, hl]
      · obtain ⟨m, hmm⟩ : ∃ m, (fst1 (v :: t)).2 = m + 1 := ⟨(fst1 (v :: t)).2 - 1, by omega⟩
        refine ⟨v, t.take m, ?_, c1, fun h => c2 (.inl h), fun h => c2 (.inr h), c3⟩
        show (v :: t).take (fst1 (v :: t)).2 = _
        rw [hmm, List.take_succ_cons]
    · exact ih.1 w hw
/-- Each word of a text is one; there are at most so many. -/
theorem words_one {l : List UInt8} (h : (wordsS l).2.2 = 0) : (∀ w ∈ (wordsS l).1, OneW w.1 w.2.1) ∧ (wordsS l).1.length ≤ 3000 := by
  by_cases hl : 12000 < l.length
  · unfold wordsS at h; rw [if_pos hl] at h; simp at h
  have e : wordsS l = wrds (runes l) 1 1 0 := by unfold wordsS; rw [if_neg hl]
  rw [e] at h ⊢
  have := wrds_one _ _ (Nat.le_refl _) (runes_are_good _ l (Nat.le_refl _)) (by rw [byt_runes _ l (Nat.le_refl _)]; omega) 1 1 0 (by omega) h
  exact ⟨this.1, by omega⟩
theorem OneW.runes {K : Nat} {seg : List Ru} (h : OneW K seg) : runes (byt seg) = seg := by
  have := runes_goods seg [] h.g
  rw [List.append_nil, runes_nil, List.append_nil] at this
  exact this
/-- A word's text has that word alone. -/
theorem OneW.words {K : Nat} {seg : List Ru} (h : OneW K seg) : wordsS (byt seg) = ([(K, seg, 1, 1)], (0, 0), 0) := by
  have hr := h.runes
  have hl := h.l
  have hf := h.f
  have hk := h.k
  unfold wordsS
  rw [if_neg (by omega), hr]
  obtain ⟨v, t, e, h1, h2, h3, h4⟩ := h.h
  rw [e] at hf ⊢
  rw [wrds_cons, if_neg h1, if_neg (fun q => q.elim h2 h3), if_neg h4, hf, if_neg hk, if_neg (by decide), List.take_length, List.drop_length, wrds_nil]
  rfl
theorem OneW.kind {K : Nat} {seg : List Ru} (h : OneW K seg) : (K = 1 ∧ nameS (byt seg) = true) ∨ (K = 2 ∧ numB (byt seg) = true) ∨ (K = 3 ∧ ∃ v t, seg = v :: t ∧ letter v.1 = false ∧ dgt v.1 = false) := by
  have hr := h.runes
  have hf := h.f
  have hk := h.k
  obtain ⟨v, t, e, _⟩ := h.h
  have hbne : byt seg ≠ [] := fun e0 => by rw [e0, runes_nil] at hr; rw [← hr] at e; cases e
  have hnx : (nx (byt seg)).1 = v.1 := by
    have := runes_cons hbne
    rw [hr, e] at this
    injection this with h1 _
    rw [e]
    exact (congrArg Prod.fst h1).symm
  rw [e, fst1_cons, ← e] at hf
  by_cases a : letter v.1 = true
  · rw [if_pos a] at hf
    by_cases b : spn seg ≤ 24
    · rw [if_pos b] at hf
      injection hf with h1 h2
      left
      refine ⟨h1.symm, ?_⟩
      unfold nameS
      have hs : spb (byt seg) = (byt seg).length := by unfold spb; rw [hr, h2, List.take_length]
      rw [hnx, a, hs, hr, decide_eq_true b]; simp
    · rw [if_neg b] at hf
      injection hf with h1 _
      exact absurd h1.symm hk
  · rw [if_neg a] at hf
    by_cases d : dgt v.1 = true
    · rw [if_pos d] at hf
      by_cases b : numb (seg.take (spn seg)) = true
      · rw [if_pos b] at hf
        injection hf with h1 h2
        right; left
        refine ⟨h1.symm, ?_⟩
        rw [h2, List.take_length] at b
        rw [numB_numb (l := byt seg) seg (fun v hv => by rw [hr]; exact hv)]
        exact b
      · rw [if_neg b] at hf
        injection hf with h1 _
        exact absurd h1.symm hk
    · rw [if_neg d] at hf
      by_cases b : sgn seg = 0
      · rw [if_pos b] at hf
        injection hf with h1 _
        exact absurd h1.symm hk
      · rw [if_neg b] at hf
        injection hf with h1 _
        right; right
        exact ⟨h1.symm, v, t, e, by simpa using a, by simpa using d⟩
/-- A word as it is read: its kind, its bytes. -/
def tkW (x : Wd) : Tk := (x.1, byt x.2.1)
theorem OneW.good {K : Nat} {seg : List Ru} (h : OneW K seg) : GdW1 (K, byt seg) := by
  rcases h.kind with ⟨rfl, h1⟩ | ⟨rfl, h1⟩ | ⟨rfl, _⟩
  · obtain ⟨a, b, c, d⟩ := name_far h1
    exact ⟨.inl rfl, fun _ => ⟨a, b, c, d, fun e => by simp only at e; rw [e] at h1; revert h1; decide⟩⟩
  · obtain ⟨a, b, c, d⟩ := num_far h1
    exact ⟨.inr (.inl rfl), fun _ => ⟨a, b, c, d, fun e => by simp only at e; rw [e] at h1; revert h1; decide⟩⟩
  · exact ⟨.inr (.inr rfl), fun h => absurd rfl h⟩
theorem good_all {l : List Wd} (h : ∀ w ∈ l, OneW w.1 w.2.1) : ∀ w ∈ l.map tkW, GdW1 w := fun w hw => by
  obtain ⟨x, hx, rfl⟩ := List.mem_map.1 hw
  exact (h x hx).good

/-- What holds of each expression that is read, from a place to a place. -/
def BadOr (Q : Nat → Nat → Sx → Prop) (n : Nat) (r : Rd3) : Prop := (r.2.2 = -1 ∧ Q n r.2.1 r.1) ∨ 0 ≤ r.2.2
section
variable {nb : List UInt8 → Int} {rsv : List UInt8 → Bool} {l : List Tk} {Q : Nat → Nat → Sx → Prop}
theorem lop_pos {next : Nat → Int → Rd3} {k n : Nat} {x : Sx} {b : Int} (h : 0 ≤ b) : ∀ G, lop l next k G (x, n, b) = (x, n, b)
  | 0 => rfl
  | G + 1 => by
    unfold lop
    cases l[n]? with
    | none => rfl
    | some w => simp only; rw [if_neg (fun q => by have := q.1; omega)]
theorem lop_all {next : Nat → Int → Rd3} {k n0 : Nat} (hk : 1 ≤ k) (h2 : ∀ n m n' w x y, l[m]? = some w → lv w.2 ≠ 0 → Q n m x → Q (m + 1) n' y → Q n n' (mk2 ⟨w.2.toArray⟩ x y)) (hN : ∀ n, BadOr Q n (next n (-1))) : ∀ (G n : Nat) (x : Sx), Q n0 n x → BadOr Q n0 (lop l next k G (x, n, -1))
  | 0, n, x, hx => .inl ⟨rfl, hx⟩
  | G + 1, n, x, hx => by
    unfold lop
    cases hw : l[n]? with
    | none => exact .inl ⟨rfl, hx⟩
    | some w =>
      simp only
      by_cases hc : (-1 : Int) < 0 ∧ lv w.2 = k
      · rw [if_pos hc]
        have hne : lv w.2 ≠ 0 := by have := hc.2; omega
        obtain ⟨r, hr⟩ : ∃ r, next (n + 1) (-1) = r := ⟨_, rfl⟩
        have hb := hN (n + 1)
        rw [hr] at hb ⊢
        obtain ⟨y, n', b'⟩ := r
        rcases hb with ⟨e1, e2⟩ | e1
        · simp only at e1 e2
          subst e1
          have hp := h2 n0 n n' w x y hw hne hx e2
          by_cases h3 : k = 3
          · rw [if_pos h3]; exact .inl ⟨rfl, hp⟩
          · rw [if_neg h3]; exact lop_all hk h2 hN G n' _ hp
        · simp only at e1
          by_cases h3 : k = 3
          · rw [if_pos h3]; exact .inr e1
          · rw [if_neg h3, lop_pos e1]; exact .inr e1
      · rw [if_neg hc]; exact .inl ⟨rfl, hx⟩
theorem psr_all (h0 : ∀ n w x, l[n]? = some w → leafY nb rsv w = some x → Q n (n + 1) x) (h1 : ∀ n n' k x, k = 3 ∨ k = 4 → Q (n + 1) n' x → Q n n' (mk1 k x)) (h2 : ∀ n m n' w x y, l[m]? = some w → lv w.2 ≠ 0 → Q n m x → Q (m + 1) n' y → Q n n' (mk2 ⟨w.2.toArray⟩ x y))
    (h3 : ∀ n n' x, Q (n + 1) n' x → Q n (n' + 1) x) : ∀ (f k n : Nat), 1 ≤ k → k ≤ 6 → BadOr Q n (psr nb rsv l f k n (-1))
  | 0, k, n, _, _ => .inr (by show (0 : Int) ≤ if (-1 : Int) < 0 then (n : Int) else -1; rw [if_pos (by decide)]; omega)
  | f + 1, k, n, hk, hk6 => by
    by_cases h6 : k = 6
    · subst h6
      cases hw : l[n]? with
      | none => rw [psr6_end hw]; exact .inr (by show (0 : Int) ≤ (n : Int); omega)
      | some w =>
        by_cases hu : w.2 = [33] ∨ w.2 = [45]
        · rw [psr6_un hw hu]
          rcases psr_all h0 h1 h2 h3 f 6 (n + 1) (by omega) (by omega) with ⟨e1, e2⟩ | e1
          · exact .inl ⟨e1, h1 _ _ _ _ (by split <;> simp) e2⟩
          · exact .inr e1
        · by_cases h40 : w.2 = [40]
          · rw [psr6_par hw h40]
            rcases psr_all h0 h1 h2 h3 f 1 (n + 1) (by omega) (by omega) with ⟨e1, e2⟩ | e1
            · split
              · exact .inl ⟨e1, h3 _ _ _ e2⟩
              · refine .inr ?_
                show (0 : Int) ≤ if _ < (0 : Int) then _ else _
                rw [e1, if_pos (by decide)]; omega
            · rw [if_neg (by unfold isT; simp only [Bool.and_eq_true, decide_eq_true_eq]; omega)]
              refine .inr ?_
              show (0 : Int) ≤ if _ < (0 : Int) then _ else _
              rw [if_neg (by omega)]; exact e1
          · rw [psr6_leaf hw hu h40]
            cases hlf : leafY nb rsv w with
            | some x => exact .inl ⟨rfl, h0 n w x hw hlf⟩
            | none => exact .inr (by show (0 : Int) ≤ (n : Int); omega)
    · rw [psr, if_neg h6]
      obtain ⟨r, hr⟩ : ∃ r, psr nb rsv l f (k + 1) n (-1) = r := ⟨_, rfl⟩
      have hb := psr_all h0 h1 h2 h3 f (k + 1) n (by omega) (by omega)
      rw [hr] at hb ⊢
      obtain ⟨y, n', b'⟩ := r
      rcases hb with ⟨e1, e2⟩ | e1
      · simp only at e1 e2
        subst e1
        exact lop_all hk h2 (fun m => psr_all h0 h1 h2 h3 f (k + 1) m (by omega) (by omega)) _ _ _ e2
      · simp only at e1
        rw [lop_pos e1]; exact .inr e1
end
def cntX (x : Sx) : Nat := cnt x.1 x.2
theorem cntX_mk2 (s : ByteArray) (x y : Sx) : cntX (mk2 s x y) = cntX x + (cntX y + 0) + 1 := foldS_mk2 (fun (_ _ : Int) (_ : ByteArray) (l : List Nat) => l.sum + 1) s x y
/-- What is read of words: clean, sound, without reserved names, short. -/
structure Fine (x : Sx) : Prop where
  cl : ClX x
  sd : sdC x.1 x.2 = true
  pl : plC x.1 x.2 = true
  sh : shrt 1000 x.1 x.2 = true
theorem lv_opr {s : List UInt8} (h : lv s ≠ 0) : opr ⟨s.toArray⟩ = true ∧ s.length ≤ 2 := by
  have := lv_opB h
  rcases this with rfl | rfl | rfl | rfl | rfl | rfl | rfl | rfl | rfl <;> exact ⟨by decide, by decide⟩
theorem nx4 {l : List UInt8} (h : l ≠ []) : (nx l).2 ≤ 4 := by
  rw [nx_size h, decodeL_N]
  generalize (l.getD 0 0).toNat = b0
  generalize (l.getD 1 0).toNat = b1
  generalize (l.getD 2 0).toNat = b2
  generalize (l.getD 3 0).toNat = b3
  generalize l.length = n
  unfold decodeN
  repeat' split
  all_goals simp
theorem rune4 : ∀ (n : Nat) (l : List UInt8), l.length ≤ n → ∀ v ∈ runes l, v.2.length ≤ 4
  | 0, l, h, v, hv => by
    have : l = [] := List.eq_nil_of_length_eq_zero (by omega)
    subst this; cases hv
  | n + 1, l, h, v, hv => by
    by_cases hl : l = []
    · subst hl; rw [runes_nil] at hv; cases hv
    · have h1 := nx_pos hl
      have h4 := nx4 hl
      rw [runes_cons hl] at hv
      rcases List.mem_cons.1 hv with rfl | hv
      · rw [List.length_take]; omega
      · exact rune4 n _ (by rw [List.length_drop]; omega) v hv
theorem byt4 : ∀ (vs : List Ru), (∀ v ∈ vs, v.2.length ≤ 4) → (byt vs).length ≤ 4 * vs.length
  | [], _ => by simp [byt]
  | v :: r, h => by
    have h1 := h v (by simp)
    have h2 := byt4 r (fun x hx => h x (by simp [hx]))
    rw [byt_cons, List.length_append, List.length_cons]; omega
theorem name_len {b : List UInt8} (h : nameS b = true) : b.length ≤ 96 := by
  unfold nameS at h
  simp only [Bool.and_eq_true, decide_eq_true_eq, beq_iff_eq] at h
  have h1 : spb b ≤ 4 * ((runes b).take (spn (runes b))).length := byt4 _ (fun v hv => rune4 _ b (Nat.le_refl _) v (List.mem_of_mem_take hv))
  rw [List.length_take] at h1
  omega
theorem num_len {b : List UInt8} (h : numB b = true) : b.length ≤ 10 ∧ 0 ≤ valB 0 b ∧ valB 0 b ≤ 1000000000 := by
  unfold numB at h
  simp only [Bool.and_eq_true, decide_eq_true_eq] at h
  have hv : ∀ (b : List UInt8) (n : Int), 0 ≤ n → b.all dB = true → 0 ≤ valB n b := fun b => by
    induction b with
    | nil => intro n hn _; exact hn
    | cons c r ih =>
      intro n hn hb
      simp only [List.all_cons, Bool.and_eq_true] at hb
      have hd : 48 ≤ c.toNat ∧ c.toNat ≤ 57 := of_decide_eq_true hb.1
      exact ih _ (by omega) hb.2
  refine ⟨?_, ?_, ?_⟩
  all_goals first | omega | exact hv b 0 (by omega) (by simp_all) | simp_all
theorem fine_read {l : List Wd} (h : ∀ w ∈ l, OneW w.1 w.2.1) (f k n : Nat) (hk : 1 ≤ k) (hk6 : k ≤ 6) : BadOr (fun n n' x => Fine x ∧ n + cntX x ≤ n') n (psr (valB 0) rsvB (l.map tkW) f k n (-1)) := by
  refine psr_all (fun n w x hw0 hx => ⟨?_, ?_⟩) (fun n n' k x hk hq => ⟨?_, ?_⟩) (fun n m n' w x y hw0 hne hq hq' => ⟨?_, ?_⟩) (fun n n' x hq => ⟨hq.1, by have := hq.2; omega⟩) f k n hk hk6
  · have hw := List.mem_of_getElem? hw0
    obtain ⟨u, hu, rfl⟩ := List.mem_map.1 hw
    unfold leafY tkW at hx
    simp only at hx
    by_cases h2 : u.1 = 2
    · rw [if_pos h2] at hx
      obtain rfl := Option.some.inj hx
      have hn : numB (byt u.2.1) = true := by
        rcases (h u hu).kind with ⟨a, _⟩ | ⟨_, b⟩ | ⟨a, _⟩
        · omega
        · exact b
        · omega
      obtain ⟨_, a, b⟩ := num_len hn
      refine ⟨.inl ⟨rfl, rfl, rfl⟩, ?_, rfl, by rfl⟩
      show (decide (0 ≤ valB 0 (byt u.2.1)) && decide (valB 0 (byt u.2.1) ≤ 1000000000)) = true
      rw [decide_eq_true a, decide_eq_true b]; rfl
    · rw [if_neg h2] at hx
      by_cases h1 : u.1 = 1 ∧ rsvB (byt u.2.1) = false
      · rw [if_pos h1] at hx
        obtain rfl := Option.some.inj hx
        have hn : nameS (byt u.2.1) = true := by
          rcases (h u hu).kind with ⟨_, b⟩ | ⟨a, _⟩ | ⟨a, _⟩
          · exact b
          · omega
          · omega
        have hl := name_len hn
        refine ⟨.inr (.inl ⟨rfl, rfl, rfl⟩), ?_, ?_, ?_⟩
        · show nameS (bl ⟨(byt u.2.1).toArray⟩) = true
          exact hn
        · show (!(decide ((2 : Int) = 2) && rsvB (byt u.2.1)) && [].all id) = true
          rw [h1.2]; rfl
        · show (decide ((byt u.2.1).toArray.size ≤ 1000) && [].all id) = true
          rw [decide_eq_true (by simp; omega)]; rfl
      · rw [if_neg h1] at hx; cases hx
  · unfold leafY at hx
    have : cntX x = 1 := by
      split at hx
      · obtain rfl := Option.some.inj hx; rfl
      · split at hx
        · obtain rfl := Option.some.inj hx; rfl
        · cases hx
    omega
  · have hx := hq.1
    refine ⟨cl_mk1 hk hx.cl, ?_, ?_, ?_⟩
    · have : sdC (mk1 k x).1 (mk1 k x).2 = true := by
        show sdC (x.1 + 1) (mkT k 0 ⟨#[]⟩ [x.2]) = true
        rw [sdC_mk, if_neg (by omega), if_neg (by omega), if_pos hk]
        simp [hx.sd]
      exact this
    · show plC (x.1 + 1) (mkT k 0 ⟨#[]⟩ [x.2]) = true
      rw [plC_mk, decide_eq_false (by omega : ¬ k = 2)]
      simp [hx.pl]
    · show shrt 1000 (x.1 + 1) (mkT k 0 ⟨#[]⟩ [x.2]) = true
      rw [shrt_mk, size0]
      simp [hx.sh]
  · have e : cntX (mk1 k x) = cntX x + 0 + 1 := rfl
    have := hq.2
    omega
  · have hx := hq.1
    have hy := hq'.1
    obtain ⟨ho, hl2⟩ := lv_opr hne
    refine ⟨cl_mk2 hx.cl hy.cl, ?_, ?_, ?_⟩
    · have := foldS_mk2 (fun (k n : Int) (s : ByteArray) (l : List Bool) => if k = 1 then decide (0 ≤ n) && decide (n ≤ 1000000000) else if k = 2 then nameS (bl s) else if k = 3 ∨ k = 4 then l.all id else if k = 5 then opr s && l.all id else false) ⟨w.2.toArray⟩ x y
      refine Eq.trans this ?_
      rw [if_neg (by decide), if_neg (by decide), if_neg (by decide), if_pos rfl, ho]
      show (true && (sdC x.1 x.2 && (sdC y.1 y.2 && true))) = true
      rw [hx.sd, hy.sd]; rfl
    · have := foldS_mk2 (fun (k _ : Int) (s : ByteArray) (l : List Bool) => !(decide (k = 2) && rsvB s.data.toList) && l.all id) ⟨w.2.toArray⟩ x y
      refine Eq.trans this ?_
      show (!(false && _) && (plC x.1 x.2 && (plC y.1 y.2 && true))) = true
      rw [hx.pl, hy.pl]; rfl
    · have := foldS_mk2 (fun (_ _ : Int) (s : ByteArray) (l : List Bool) => decide (s.size ≤ 1000) && l.all id) ⟨w.2.toArray⟩ x y
      refine Eq.trans this ?_
      show (decide ((w.2.toArray).size ≤ 1000) && (shrt 1000 x.1 x.2 && (shrt 1000 y.1 y.2 && true))) = true
      rw [hx.sh, hy.sh, decide_eq_true (by simp; omega)]; rfl
  · have h1 := hq.2
    have h2 := hq'.2
    rw [cntX_mk2]
    omega
end Go.Proofs.YtccmmkhcacglhaaGreatDoor

/- A reader of words in memory. -/
namespace Go.Proofs.YtccmmkhcacglhaaGreatDoor
open Go.RowKit Go.Lib
set_option linter.unusedSimpArgs false
set_option linter.unusedVariables false

/-- Nothing but block X has turned, and new blocks. -/
abbrev Fx (X : Nat) (w w' : World) : Prop := w.grownBy w' (some X)
theorem Fx.refl (X : Nat) (w : World) : Fx X w w := ⟨rfl, rfl, rfl, Nat.le_refl _, fun _ _ _ => rfl⟩
theorem Fx.trans {X : Nat} {a b c : World} (h : Fx X a b) (k : Fx X b c) : Fx X a c :=
  ⟨k.os.trans h.os, k.tape.trans h.tape, k.output.trans h.output, Nat.le_trans h.size k.size, fun j hj hne => (k.block j (Nat.lt_of_lt_of_le hj h.size) hne).trans (h.block j hj hne)⟩
theorem Fx.of {X B : Nat} {a b : World} (h : Below B a b) (hB : a.heap.size ≤ B) : Fx X a b := ⟨h.os, h.tape, h.output, h.size, fun k hk _ => h.block k (by omega)⟩
theorem Fx.setX {X i : Nat} {a b : World} (h : Fx X a b) (u : Value) : Fx X a (b.setCell ⟨X, i, none⟩ u) :=
  ⟨h.os, h.tape, h.output, by simpa using h.size, fun k hk hne => (Below.heap_setCell _ _ _ _ (fun e => hne (congrArg some e))).trans (h.block k hk hne)⟩
theorem Fx.drewN {X : Nat} {a b : World} (h : Fx X a b) (m : Nat) : Fx X a (b.drewN m) := ⟨h.os, h.tape, h.output, h.size, h.block⟩
theorem Fx.drew {X : Nat} {a b : World} (h : Fx X a b) : Fx X a b.drew := ⟨h.os, h.tape, h.output, h.size, h.block⟩
theorem Fx.alloc {X : Nat} {a b : World} (h : Fx X a b) (o : Obj) : Fx X a (b.alloc o) := h.trans (Fx.of ((Below.refl b.heap.size b).alloc (Nat.le_refl _) o) (Nat.le_refl _))
theorem Fx.below {X : Nat} {a b : World} (h : Fx X a b) {B : Nat} (hB : B ≤ X) (hs : B ≤ a.heap.size) : Below B a b := ⟨h.os, h.tape, h.output, h.size, fun k hk => h.block k (by omega) (fun e => by have : k = X := Option.some.inj e; omega)⟩
/-- A new block's cells, written. -/
theorem Fx.setN {X N i : Nat} {a b : World} (h : Fx X a b) (hN : a.heap.size ≤ N) (u : Value) : Fx X a (b.setCell ⟨N, i, none⟩ u) :=
  ⟨h.os, h.tape, h.output, by simpa using h.size, fun k hk hne => (Below.heap_setCell _ _ _ _ (fun e => by have : k = N := e; omega)).trans (h.block k hk hne)⟩
/-- The words, in memory apart from X. -/
def RdL (w : World) (X : Nat) (a : Option Addr) (ws : List Wd) : Prop := ∀ (i : Nat) (hi : i < ws.length), ∃ g off, a = some ⟨g, off, none⟩ ∧ g < X ∧ w.cell? ⟨g, off + i * 4, none⟩ = some (.int .i64 ((ws[i]).1 : Int)) ∧ w.cell? ⟨g, off + i * 4 + 1, none⟩ = some (.string (txt (ws[i]).2.1)) ∧ w.cell? ⟨g, off + i * 4 + 2, none⟩ = some (.int .i64 (ws[i]).2.2.1) ∧ w.cell? ⟨g, off + i * 4 + 3, none⟩ = some (.int .i64 (ws[i]).2.2.2)
theorem RdL.fx {w w' : World} {X : Nat} {a : Option Addr} {ws : List Wd} (h : RdL w X a ws) (hX : X < w.heap.size) (hf : Fx X w w') : RdL w' X a ws := fun i hi => by
  obtain ⟨g, off, h1, h3, c0, c1, c2, c3⟩ := h i hi
  have hb : w'.heap[g]? = w.heap[g]? := hf.block g (by omega) (fun e => by have : g = X := Option.some.inj e; omega)
  have hc : ∀ j, w'.cell? ⟨g, j, none⟩ = w.cell? ⟨g, j, none⟩ := fun j => World.cell?_of_block (w := w) (a := ⟨g, j, none⟩) hb
  exact ⟨g, off, h1, h3, (hc _).trans c0, (hc _).trans c1, (hc _).trans c2, (hc _).trans c3⟩
/-- The reader in block X. -/
structure Rr (w : World) (X : Nat) (a : Option Addr) (cap : Nat) (ws : List Wd) (n : Nat) (b : Int) : Prop where
  c0 : w.cell? ⟨X, 0, none⟩ = some (.slice a ws.length cap)
  c1 : w.cell? ⟨X, 1, none⟩ = some (.int .i64 (n : Int))
  c2 : w.cell? ⟨X, 2, none⟩ = some (.int .i64 b)
  f1 : w.frozen? ⟨X, 1, none⟩ = false
  f2 : w.frozen? ⟨X, 2, none⟩ = false
  l : RdL w X a ws
theorem Rr.lt {w : World} {X : Nat} {a : Option Addr} {cap : Nat} {ws : List Wd} {n : Nat} {b : Int} (h : Rr w X a cap ws n b) : X < w.heap.size := World.block_lt_of_cell? w _ h.c0
theorem Rr.on {w w' : World} {X : Nat} {a : Option Addr} {cap : Nat} {ws : List Wd} {n : Nat} {b : Int} (h : Rr w X a cap ws n b) (hb : Below w.heap.size w w') : Rr w' X a cap ws n b := by
  have hX := h.lt
  have hc : ∀ i, w'.cell? ⟨X, i, none⟩ = w.cell? ⟨X, i, none⟩ := fun i => hb.cell (p := ⟨X, i, none⟩) hX
  have hf : ∀ i, w'.frozen? ⟨X, i, none⟩ = w.frozen? ⟨X, i, none⟩ := fun i => hb.frozen (p := ⟨X, i, none⟩) hX
  exact ⟨(hc 0).trans h.c0, (hc 1).trans h.c1, (hc 2).trans h.c2, (hf 1).trans h.f1, (hf 2).trans h.f2, h.l.fx hX (Fx.of hb (Nat.le_refl _))⟩
theorem Rr.set1 {w : World} {X : Nat} {a : Option Addr} {cap : Nat} {ws : List Wd} {n : Nat} {b : Int} (h : Rr w X a cap ws n b) (n' : Nat) : Rr (w.setCell ⟨X, 1, none⟩ (.int .i64 (n' : Int))) X a cap ws n' b :=
  ⟨cell_far4 (by omega) h.c0, cell_same4 h.c1, cell_far4 (by omega) h.c2, (World.frozen?_setCell _ _ _ _).trans h.f1, (World.frozen?_setCell _ _ _ _).trans h.f2, h.l.fx h.lt ((Fx.refl X w).setX _)⟩
theorem Rr.set2 {w : World} {X : Nat} {a : Option Addr} {cap : Nat} {ws : List Wd} {n : Nat} {b : Int} (h : Rr w X a cap ws n b) (b' : Int) : Rr (w.setCell ⟨X, 2, none⟩ (.int .i64 b')) X a cap ws n b' :=
  ⟨cell_far4 (by omega) h.c0, cell_far4 (by omega) h.c1, cell_same4 h.c2, (World.frozen?_setCell _ _ _ _).trans h.f1, (World.frozen?_setCell _ _ _ _).trans h.f2, h.l.fx h.lt ((Fx.refl X w).setX _)⟩
theorem draws (w : World) (m : Nat) : Below w.heap.size w (w.drewN m) := ⟨rfl, rfl, rfl, Nat.le_refl _, fun _ _ => rfl⟩
structure Wk (ws : List Wd) (cap : Nat) : Prop where
  l : ws.length ≤ 3000
  c : ws.length ≤ cap
  m : cap ≤ maxLen
  o : ∀ x ∈ ws, OneW x.1 x.2.1
theorem Rr.far {w : World} {X N i : Nat} {a : Option Addr} {cap : Nat} {ws : List Wd} {n : Nat} {b : Int} (h : Rr w X a cap ws n b) (hN : X < N) (u : Value) : Rr (w.setCell ⟨N, i, none⟩ u) X a cap ws n b := by
  refine ⟨cell_far4 (by omega) h.c0, cell_far4 (by omega) h.c1, cell_far4 (by omega) h.c2, (World.frozen?_setCell _ _ _ _).trans h.f1, (World.frozen?_setCell _ _ _ _).trans h.f2, fun j hj => ?_⟩
  obtain ⟨g, off, h1, h3, d0, d1, d2, d3⟩ := h.l j hj
  exact ⟨g, off, h1, h3, cell_far4 (by omega) d0, cell_far4 (by omega) d1, cell_far4 (by omega) d2, cell_far4 (by omega) d3⟩
theorem Rr.far4 {w : World} {X N : Nat} {a : Option Addr} {cap : Nat} {ws : List Wd} {n : Nat} {b : Int} (h : Rr w X a cap ws n b) (hN : X < N) (c0 c1 c2 c3 : Value) : Rr (put4 w N c0 c1 c2 c3) X a cap ws n b := (((h.far hN c0).far hN c1).far hN c2).far hN c3
end Go.Proofs.YtccmmkhcacglhaaGreatDoor

/- Blocks of n cells; rows of k cells an element, read, and the call's own. -/
namespace Go.Proofs.YtccmmkhcacglhaaGreatDoor
open Go.RowKit Go.Lib
set_option linter.unusedSimpArgs false
set_option linter.unusedVariables false

/-- A block of cells that may be written. -/
def Bn (w : World) (Y : Nat) (cs : List Value) : Prop := ∀ j u, cs[j]? = some u → w.cell? ⟨Y, j, none⟩ = some u ∧ w.frozen? ⟨Y, j, none⟩ = false
theorem Bn.lt {w : World} {Y : Nat} {c : Value} {cs : List Value} (h : Bn w Y (c :: cs)) : Y < w.heap.size := World.block_lt_of_cell? w _ (h 0 c rfl).1
theorem frozen_of_block {w w' : World} {Y j : Nat} (h : w'.heap[Y]? = w.heap[Y]?) : w'.frozen? ⟨Y, j, none⟩ = w.frozen? ⟨Y, j, none⟩ := by
  unfold World.frozen?
  rw [h]
theorem Bn.blk {w w' : World} {Y : Nat} {cs : List Value} (h : Bn w Y cs) (hb : w'.heap[Y]? = w.heap[Y]?) : Bn w' Y cs := fun j u hu =>
  ⟨keep_cell (p := ⟨Y, j, none⟩) hb (h j u hu).1, (frozen_of_block hb).trans (h j u hu).2⟩
theorem Bn.on {w w' : World} {Y : Nat} {c : Value} {cs : List Value} (h : Bn w Y (c :: cs)) (hb : Below w.heap.size w w') : Bn w' Y (c :: cs) := h.blk (hb.block Y h.lt)
theorem Bn.fx {w w' : World} {X Y : Nat} {c : Value} {cs : List Value} (h : Bn w Y (c :: cs)) (hf : Fx X w w') (hne : Y ≠ X) : Bn w' Y (c :: cs) := h.blk (hf.block Y h.lt (fun e => hne (Option.some.inj e)))
theorem Bn.far {w : World} {Y X i : Nat} {cs : List Value} (h : Bn w Y cs) (hne : X ≠ Y) (v : Value) : Bn (w.setCell ⟨X, i, none⟩ v) Y cs := h.blk (Below.heap_setCell _ _ _ _ (fun e => hne e.symm))
theorem Bn.set {w : World} {Y i : Nat} {cs : List Value} (h : Bn w Y cs) (hi : i < cs.length) (v : Value) : Bn (w.setCell ⟨Y, i, none⟩ v) Y (cs.set i v) := fun j u hu => by
  refine ⟨?_, (World.frozen?_setCell _ _ _ _).trans ?_⟩
  · by_cases hj : i = j
    · subst hj
      rw [List.getElem?_set_self hi] at hu
      obtain rfl := Option.some.inj hu
      exact cell_same4 (h i _ (List.getElem?_eq_getElem hi)).1
    · rw [List.getElem?_set_ne hj] at hu
      exact cell_far4 (by omega) (h j u hu).1
  · have hl : j < cs.length := by
      have := (List.getElem?_eq_some_iff.1 hu).1
      rwa [List.length_set] at this
    exact (h j _ (List.getElem?_eq_getElem hl)).2
theorem Bn.drew {w : World} {Y : Nat} {cs : List Value} (h : Bn w Y cs) : Bn w.drew Y cs := h
theorem Bn.new (w : World) (cs : List Value) (t : TypeId) (n : Nat) (hn : n = w.heap.size) : Bn (w.alloc (.cells cs.toArray t)) n cs := by
  subst hn
  intro j u hu
  refine ⟨?_, by simp⟩
  rw [World.cell?_alloc_new]
  simpa using hu

/-- The slice v reads as the list l, k cells an element. -/
def RdK {α : Type} (ok : Nat → Prop) (w : World) (k : Nat) (R : α → List Value → Prop) (l : List α) (v : Value) : Prop :=
  ∃ a cap, v = .slice a l.length cap ∧ l.length ≤ cap ∧ cap ≤ maxLen ∧
    ∀ (i : Nat) (hi : i < l.length), ∃ b off cs, a = some ⟨b, off, none⟩ ∧ ok b ∧ b < w.heap.size ∧ cs.length = k ∧ R l[i] cs ∧ ∀ j u, cs[j]? = some u → w.cell? ⟨b, off + i * k + j, none⟩ = some u
theorem rdK_none {α : Type} (ok : Nat → Prop) (w : World) (k : Nat) (R : α → List Value → Prop) : RdK ok w k R [] (.slice none 0 0) := ⟨none, 0, rfl, by simp, by simp [maxLen], fun i hi => absurd hi (by simp)⟩
theorem RdK.keep {α : Type} {ok ok' : Nat → Prop} {w w' : World} {k : Nat} {R R' : α → List Value → Prop} {l : List α} {v : Value} (h : RdK ok w k R l v) (hR : ∀ x ∈ l, ∀ u, R x u → R' x u) (hk : ∀ b, ok b → b < w.heap.size → ok' b ∧ w'.heap[b]? = w.heap[b]?) : RdK ok' w' k R' l v := by
  obtain ⟨a, cap, rfl, hc, hm, hcell⟩ := h
  refine ⟨a, cap, rfl, hc, hm, fun i hi => ?_⟩
  obtain ⟨b, off, cs, ha, ho, hb, hl, hr, hcs⟩ := hcell i hi
  obtain ⟨ho', hs⟩ := hk _ ho hb
  refine ⟨b, off, cs, ha, ho', ?_, hl, hR _ (List.getElem_mem hi) _ hr, fun j u hu => keep_cell (p := ⟨b, off + i * k + j, none⟩) hs (hcs j u hu)⟩
  rcases Nat.lt_or_ge b w'.heap.size with h | h
  · exact h
  · rw [Array.getElem?_eq_none h, Array.getElem?_eq_getElem hb] at hs
    cases hs
theorem RdK.form {α : Type} {ok : Nat → Prop} {w : World} {k : Nat} {R : α → List Value → Prop} {l : List α} {v : Value} (h : RdK ok w k R l v) : ∃ a cap, v = .slice a l.length cap ∧ l.length ≤ cap ∧ cap ≤ maxLen := by
  obtain ⟨a, cap, h1, h2, h3, _⟩ := h
  exact ⟨a, cap, h1, h2, h3⟩
/-- A reading that stays where its blocks stay. -/
def Kp {α : Type} (R : (Nat → Prop) → World → α → List Value → Prop) : Prop := ∀ ⦃ok ok' : Nat → Prop⦄ ⦃w w' : World⦄ ⦃x : α⦄ ⦃cs : List Value⦄, R ok w x cs → (∀ b, ok b → b < w.heap.size → ok' b ∧ w'.heap[b]? = w.heap[b]?) → R ok' w' x cs
/-- The slice v is the call's own, from block base on, of k cells an element, and holds l; what lies behind its cells lies apart. -/
def OwnK {α : Type} (w : World) (base e k : Nat) (R : (Nat → Prop) → World → α → List Value → Prop) (v : Value) (l : List α) : Prop :=
  ∃ qs : List (List Value), w.ownsRow base e k v l.length qs.flatten ∧ qs.length = l.length ∧ ∀ (i : Nat) (h : i < l.length) (h' : i < qs.length), (qs[i]).length = k ∧ R (fun b => base ≤ b ∧ v.ownBlock ≠ some b) w l[i] qs[i]
theorem ownK_nil {α : Type} (w : World) (base e k : Nat) (R : (Nat → Prop) → World → α → List Value → Prop) : OwnK w base e k R (.slice none 0 0) [] := ⟨[], World.ownsRow_nil w base e k, rfl, fun i h => absurd h (by simp)⟩
theorem OwnK.keep {α : Type} {w w' : World} {base e k : Nat} {R : (Nat → Prop) → World → α → List Value → Prop} {v : Value} {l : List α} (hR : Kp R) (h : OwnK w base e k R v l) (hk : ∀ b, base ≤ b → b < w.heap.size → w'.heap[b]? = w.heap[b]?) : OwnK w' base e k R v l := by
  obtain ⟨qs, ho, hl, hr⟩ := h
  refine ⟨qs, ownsRow_keep ho (fun g hg => ?_), hl, fun i h h' => ⟨(hr i h h').1, hR (hr i h h').2 (fun b hb hlt => ⟨hb, hk b hb.1 hlt⟩)⟩⟩
  obtain ⟨a, b⟩ := ownsRow_lt ho g hg
  exact hk g a b
theorem OwnK.on {α : Type} {w w' : World} {base e k : Nat} {R : (Nat → Prop) → World → α → List Value → Prop} {v : Value} {l : List α} (hR : Kp R) (h : OwnK w base e k R v l) (hb : Below w.heap.size w w') : OwnK w' base e k R v l := h.keep hR (fun b _ hlt => hb.block b hlt)
theorem OwnK.fx {α : Type} {w w' : World} {base e k X : Nat} {R : (Nat → Prop) → World → α → List Value → Prop} {v : Value} {l : List α} (hR : Kp R) (h : OwnK w base e k R v l) (hf : Fx X w w') (hX : X < base) : OwnK w' base e k R v l :=
  h.keep hR (fun b hb hlt => hf.block b hlt (fun e => by have : b = X := Option.some.inj e; omega))
theorem OwnK.set {α : Type} {w : World} {base e k : Nat} {R : (Nat → Prop) → World → α → List Value → Prop} {v : Value} {l : List α} (hR : Kp R) (h : OwnK w base e k R v l) {X i : Nat} (hX : X < base) (u : Value) : OwnK (w.setCell ⟨X, i, none⟩ u) base e k R v l :=
  h.keep hR (fun b hb _ => Below.heap_setCell _ _ _ _ (fun e => by have : b = X := e; omega))
theorem OwnK.form {α : Type} {w : World} {base e k : Nat} {R : (Nat → Prop) → World → α → List Value → Prop} {v : Value} {l : List α} (h : OwnK w base e k R v l) : ∃ a cap, v = .slice a l.length cap ∧ l.length ≤ cap ∧ cap ≤ maxLen := by
  obtain ⟨qs, ho, _⟩ := h
  rcases ho.2 with ⟨h1, h2⟩ | ⟨g, cap, cur, h1, _, _, h3, h4, _⟩
  · exact ⟨none, 0, by rw [h1, h2], by omega, by simp [maxLen]⟩
  · exact ⟨_, _, h1, h3, h4⟩
/-- One more. The new one's memory lies from lo on, and the old row's block below. -/
theorem OwnK.snoc {α : Type} {w w' : World} {base e k lo n : Nat} {R : (Nat → Prop) → World → α → List Value → Prop} {v v' : Value} {l : List α} {p : α} {cs : List Value} {qs : List (List Value)} (hR : Kp R) (hk : cs.length = k)
    (hn : l.length = n) (ho : w.ownsRow base e k v n qs.flatten) (hl : qs.length = l.length) (hr : ∀ (i : Nat) (h : i < l.length) (h' : i < qs.length), (qs[i]).length = k ∧ R (fun b => base ≤ b ∧ v.ownBlock ≠ some b) w l[i] qs[i])
    (ho' : w'.ownsRow base e k v' (n + 1) (qs.flatten ++ cs)) (hg : w.grownBy w' v.ownBlock) (hat : v'.ownBlock = v.ownBlock ∨ v'.ownBlock = some w.heap.size)
    (hp : R (fun b => lo ≤ b) w p cs) (hlo : base ≤ lo) (hv : ∀ x, v.ownBlock = some x → x < lo) : OwnK w' base e k R v' (l ++ [p]) := by
  subst hn
  have key : ∀ b, base ≤ b ∧ v.ownBlock ≠ some b → b < w.heap.size → (base ≤ b ∧ v'.ownBlock ≠ some b) ∧ w'.heap[b]? = w.heap[b]? := fun b hb hlt => by
    refine ⟨⟨hb.1, fun e => ?_⟩, hg.block b hlt (fun e => hb.2 e.symm)⟩
    rcases hat with h | h
    · exact hb.2 (h ▸ e)
    · rw [h] at e; have : w.heap.size = b := Option.some.inj e; omega
  refine ⟨qs ++ [cs], ?_, by simp [hl], fun i h h' => ?_⟩
  · rw [List.flatten_append, List.length_append]
    simpa using ho'
  · rcases Nat.lt_or_ge i l.length with hi | hi
    · rw [List.getElem_append_left hi, List.getElem_append_left (by omega)]
      exact ⟨(hr i hi (by omega)).1, hR (hr i hi (by omega)).2 key⟩
    · have : i = l.length := by simp at h; omega
      subst this
      have e1 : (l ++ [p])[l.length] = p := by simp
      have e2 : (qs ++ [cs])[l.length]'h' = cs := by simp [← hl]
      rw [e1, e2]
      exact ⟨hk, hR hp (fun b hb hlt => key b ⟨by omega, fun e => by have := hv b e; omega⟩ hlt)⟩
theorem flat_at {k : Nat} : ∀ (qs : List (List Value)) (i j : Nat) (h : i < qs.length) (u : Value), (∀ (i : Nat) (h : i < qs.length), (qs[i]).length = k) → (qs[i])[j]? = some u → qs.flatten[i * k + j]? = some u
  | [], i, j, h, u, _, _ => by simp at h
  | x :: t, 0, j, h, u, hk, hu => by
    have hu' : x[j]? = some u := hu
    have hj := (List.getElem?_eq_some_iff.1 hu').1
    rw [List.flatten_cons, Nat.zero_mul, Nat.zero_add, List.getElem?_append_left hj]
    exact hu'
  | x :: t, i + 1, j, h, u, hk, hu => by
    have hx : x.length = k := hk 0 (by simp)
    have e : (i + 1) * k + j = x.length + (i * k + j) := by rw [hx, Nat.succ_mul]; omega
    rw [List.flatten_cons, e, List.getElem?_append_right (by omega), Nat.add_sub_cancel_left]
    exact flat_at t i j (by simpa using h) u (fun i h => hk (i + 1) (by simpa using h)) hu
/-- It reads as the list. -/
theorem OwnK.rd {α : Type} {w : World} {base e k : Nat} {R : (Nat → Prop) → World → α → List Value → Prop} {v : Value} {l : List α} (hR : Kp R) (h : OwnK w base e k R v l) : RdK (fun b => base ≤ b) w k (R (fun b => base ≤ b) w) l v := by
  obtain ⟨qs, ho, hl, hr⟩ := h
  have hc := fun g => World.ownsRow.cells ho (g := g)
  rcases ho.2 with ⟨rfl, hn⟩ | ⟨g, cap, cur, rfl, hb, hg, hnc, hcm, hcs, htake⟩
  · have hx : l = [] := List.eq_nil_of_length_eq_zero hn
    subst hx
    exact rdK_none _ w k _
  · refine ⟨some ⟨g, 0, none⟩, cap, rfl, hnc, hcm, fun i hi => ⟨g, 0, qs[i], rfl, hb, (Array.getElem?_eq_some_iff.1 hg).1, (hr i hi (by omega)).1, hR (hr i hi (by omega)).2 (fun b hb _ => ⟨hb.1, rfl⟩), fun j u hu => ?_⟩⟩
    have := hc g rfl (i * k + j) u (flat_at qs i j (by omega) u (fun i h => (hr i (by omega) h).1) hu)
    rw [add_plain] at this
    rw [Nat.zero_add]
    rwa [Nat.zero_add] at this
/-- Read from a lower block on. -/
theorem RdK.low {α : Type} {w : World} {base lo k : Nat} {R : (Nat → Prop) → World → α → List Value → Prop} {v : Value} {l : List α} (hR : Kp R) (h : RdK (fun b => base ≤ b) w k (R (fun b => base ≤ b) w) l v) (hlo : lo ≤ base) : RdK (fun b => lo ≤ b) w k (R (fun b => lo ≤ b) w) l v :=
  h.keep (fun x _ u hu => hR hu (fun b hb _ => ⟨by omega, rfl⟩)) (fun b hb _ => ⟨by omega, rfl⟩)
theorem RdK.stay {α : Type} {ok ok' : Nat → Prop} {w w' : World} {k : Nat} {R : (Nat → Prop) → World → α → List Value → Prop} {v : Value} {l : List α} (hR : Kp R) (h : RdK ok w k (R ok w) l v) (hk : ∀ b, ok b → b < w.heap.size → ok' b ∧ w'.heap[b]? = w.heap[b]?) : RdK ok' w' k (R ok' w') l v :=
  h.keep (fun x _ u hu => hR hu hk) hk
end Go.Proofs.YtccmmkhcacglhaaGreatDoor

/- One more element behind a row of the call's own: as a step of a region. -/
namespace Go.Proofs.YtccmmkhcacglhaaGreatDoor
open Go.RowKit Go.Lib
set_option linter.unusedSimpArgs false
set_option linter.unusedVariables false

theorem cells_new {w : World} {cs : List Value} {e : TypeId} : ∀ j u, cs[j]? = some u → (w.alloc (.cells cs.toArray e)).cell? ((⟨w.heap.size, 0, none⟩ : Addr).add j) = some u := fun j u hu => by
  rw [add_plain, Nat.zero_add]
  exact (Bn.new w cs e _ rfl j u hu).1
theorem src_row {P : Program} {t e : TypeId} (ht : P.underlying t = some (.slice e)) (w : World) {k : Nat} (cs : List Value) (hk : cs.length = k) (h1 : ∀ u ∈ cs, u.oneCell' = true) : Src P k t (.slice (some ⟨w.heap.size, 0, none⟩) 1 1) 1 cs (w.alloc (.cells cs.toArray e)) :=
  Src.ofSlice _ ht _ 1 1 _ (by rw [Nat.one_mul]; exact hk) cells_new h1
theorem step_push {α : Type} {P : Program} (w : World) {ops : Array Oper} {o : Oper} {a : Act} {K : Act → World → Prop} {Q : Exit → Act → World → Prop} {E : Prop} (hgd : o.guard = none) (s x : Operand) (t : TypeId)
    (ho : o.op = .call { callee := .builtin .append, args := #[s, x], argTypes := #[t, t] })
    (base : Nat) (e : TypeId) (i : TypeInfo) (z : Value) (k bytes : Nat) (ht : P.underlying t = some (.slice e)) (hi : P.info? e = some i) (hz : i.zero = some z)
    (hsize : i.size = k) (hby : i.bytes = bytes) (hzs : z.cells.size = k) {R : (Nat → Prop) → World → α → List Value → Prop} (hR : Kp R)
    (v : Value) (l : List α) (p : α) (cs : List Value) (lo : Nat) (hs : a.eval s = v) (hx : a.eval x = .slice (some ⟨w.heap.size, 0, none⟩) 1 1) (hk : cs.length = k) (h1 : ∀ u ∈ cs, u.oneCell' = true)
    (hown : OwnK w base e k R v l) (hp : R (fun b => lo ≤ b) w p cs) (hlo : base ≤ lo) (hv : ∀ x, v.ownBlock = some x → x < lo) (hroom : (l.length + 1 + (l.length + 1) / 4 + 192) * bytes ≤ 281474976710656)
    (h63 : l.length + 1 ≤ maxLen) (hbase : base ≤ w.heap.size)
    (h : ∀ v' w', OwnK w' base e k R v' (l ++ [p]) → (w.alloc (.cells cs.toArray e)).grownBy w' v.ownBlock → Below base w w' → K (a.put o.dst v') w') :
    if Region.wanted o (yielded ops a.tmps) = true then Oper.wp P o a (w.alloc (.cells cs.toArray e)) K Q else E := by
  have hal : Below w.heap.size w (w.alloc (.cells cs.toArray e)) := (Below.refl _ _).alloc (Nat.le_refl _) _
  obtain ⟨qs, ho1, hl1, hr1⟩ := hown.on hR hal
  refine step_append_at _ hgd s x t t ho base e i z k bytes ht hi hz hsize hby hzs v l.length qs.flatten hs ho1 _ 1 cs hx (src_row ht w cs hk h1) 1 (.inr hroom) (Nat.le_refl _) h63 (Nat.le_trans hbase hal.size) ?_
  intro v' w' hown' hg hat
  refine h v' w' (OwnK.snoc hR hk rfl ho1 hl1 hr1 hown' hg hat (hR hp (fun b hb hlt => ⟨hb, hal.block b hlt⟩)) hlo hv) hg ?_
  exact ((Below.refl base w).alloc hbase _).grown hg (Nat.le_trans hbase hal.size) (fun k hk => (World.ownsRow.lt ho1 k hk).1)
/-- Nothing but two blocks has turned, and new blocks. -/
structure Fy (X Y : Nat) (w w' : World) : Prop where
  os : w'.os = w.os
  tape : w'.tape = w.tape
  output : w'.output = w.output
  size : w.heap.size ≤ w'.heap.size
  block : ∀ k, k < w.heap.size → k ≠ X → k ≠ Y → w'.heap[k]? = w.heap[k]?
theorem Fy.of {X Y : Nat} {a b : World} (h : Fx X a b) : Fy X Y a b := ⟨h.os, h.tape, h.output, h.size, fun k hk h1 _ => h.block k hk (fun e => h1 (Option.some.inj e))⟩
theorem Fy.trans {X Y : Nat} {a b c : World} (h : Fy X Y a b) (k : Fy X Y b c) : Fy X Y a c :=
  ⟨k.os.trans h.os, k.tape.trans h.tape, k.output.trans h.output, Nat.le_trans h.size k.size, fun j hj h1 h2 => (k.block j (Nat.lt_of_lt_of_le hj h.size) h1 h2).trans (h.block j hj h1 h2)⟩
theorem Fy.setY {X Y i : Nat} {a b : World} (h : Fy X Y a b) (u : Value) : Fy X Y a (b.setCell ⟨Y, i, none⟩ u) :=
  ⟨h.os, h.tape, h.output, by simpa using h.size, fun k hk h1 h2 => (Below.heap_setCell _ _ _ _ (fun e => h2 e)).trans (h.block k hk h1 h2)⟩
theorem Fx.andY {X Y : Nat} {a b c : World} (h : Fx X a b) (k : Fy X Y b c) (hY : a.heap.size ≤ Y) : Fx X a c :=
  ⟨k.os.trans h.os, k.tape.trans h.tape, k.output.trans h.output, Nat.le_trans h.size k.size, fun j hj h1 => (k.block j (Nat.lt_of_lt_of_le hj h.size) (fun e => h1 (congrArg some e)) (by omega)).trans (h.block j hj h1)⟩
theorem Bn.fy {w w' : World} {X Y N : Nat} {c : Value} {cs : List Value} (h : Bn w N (c :: cs)) (hf : Fy X Y w w') (h1 : N ≠ X) (h2 : N ≠ Y) : Bn w' N (c :: cs) := h.blk (hf.block N h.lt h1 h2)
end Go.Proofs.YtccmmkhcacglhaaGreatDoor

/- What Take and Parse answer; and that what was printed is parsed as it was. Math alone. -/
namespace Go.Proofs.YtccmmkhcacglhaaGreatDoor
open Go.RowKit Go.Lib
set_option linter.unusedSimpArgs false
set_option linter.unusedVariables false

section
variable {nb : List UInt8 → Int} {rsv : List UInt8 → Bool} {l : List Tk}
theorem psr_up (f k n : Nat) (hk : 1 ≤ k) (hk6 : k ≤ 6) : BadOr (fun n n' _ => n < n') n (psr nb rsv l f k n (-1)) :=
  psr_all (fun n w x _ _ => Nat.lt_succ_self n) (fun n n' k x _ h => by omega) (fun n m n' w x y _ _ h h' => by omega) (fun n n' x h => by omega) f k n hk hk6
theorem psr_lev {f k n : Nat} {b : Int} (h : ¬ k = 6) : psr nb rsv l (f + 1) k n b = lop l (psr nb rsv l f (k + 1)) k l.length (psr nb rsv l f (k + 1) n b) := by rw [psr, if_neg h]
end

def fmX (x : Sx) : Bool := fmC x.1 x.2
/-- What the words are read as. -/
def rdC (l : List Tk) : Rd3 := psr (valB 0) rsvB l (7 * l.length + 6) 1 0 (-1)
/-- The expression that the words begin with, how many of them it is, or an error. -/
def takeC (l : List Tk) : Sx × Nat × Int := if 0 ≤ (rdC l).2.2 then (noX, (rdC l).2.2.toNat, 12) else if fmX (rdC l).1 = true then ((rdC l).1, (rdC l).2.1, 0) else (noX, 0, 13)
theorem op_len {s : List UInt8} (h : opB s) : s.length ≤ 2 := by
  rcases h with rfl | rfl | rfl | rfl | rfl | rfl | rfl | rfl | rfl <;> decide
theorem nd_cnt : ∀ (d : Nat) (t : T d), ndC d t = min (cnt d t) 41
  | 0, t => Empty.elim t
  | d + 1, t => by
    obtain ⟨k, n, s, ps, rfl⟩ := T.open t
    rw [ndC_mk, cnt_mk]
    have : ∀ l : List (T d), min ((l.map (ndC d)).sum + 1) 41 = min ((l.map (cnt d)).sum + 1) 41 := fun l => by
      induction l with
      | nil => rfl
      | cons p r ih =>
        have := nd_cnt d p
        simp only [List.map_cons, List.sum_cons]
        omega
    exact this ps
theorem fm_parts {d : Nat} {t : T d} (h : fmC d t = true) : cnt d t ≤ 40 ∧ sdC d t = true := by
  unfold fmC at h
  simp only [Bool.and_eq_true, decide_eq_true_eq] at h
  have := nd_cnt d t
  exact ⟨by omega, h.2⟩
end Go.Proofs.YtccmmkhcacglhaaGreatDoor

/- The number that digits spell, as strconv.ParseInt tells it. Math alone. -/
namespace Go.Proofs.YtccmmkhcacglhaaGreatDoor
open Go.RowKit Go.Lib
set_option linter.unusedSimpArgs false
set_option linter.unusedVariables false

theorem valB_ge : ∀ (l : List UInt8) (n : Int), 0 ≤ n → l.all dB = true → n ≤ valB n l
  | [], n, _, _ => Int.le_refl _
  | c :: r, n, hn, h => by
    simp only [List.all_cons, Bool.and_eq_true] at h
    have hd : 48 ≤ c.toNat ∧ c.toNat ≤ 57 := of_decide_eq_true h.1
    have := valB_ge r (10 * n + ((c.toNat : Int) - 48)) (by omega) h.2
    show n ≤ valB (10 * n + ((c.toNat : Int) - 48)) r
    omega
theorem parseM : ∀ (l : List UInt8) (acc : Nat), l.all dB = true → valB (acc : Int) l ≤ 1000000000 → parseUintM (2 ^ 64 - 1) acc l = .ok (valB (acc : Int) l).toNat
  | [], acc, _, _ => by
    show NumEnd.ok acc = .ok ((acc : Int)).toNat
    rw [Int.toNat_natCast]
  | c :: r, acc, h, hb => by
    simp only [List.all_cons, Bool.and_eq_true] at h
    have hd : 48 ≤ c.toNat ∧ c.toNat ≤ 57 := of_decide_eq_true h.1
    have e : valB (acc : Int) (c :: r) = valB ((acc * 10 + (c.toNat - 48) : Nat) : Int) r := by
      show valB (10 * (acc : Int) + ((c.toNat : Int) - 48)) r = _
      congr 1
      omega
    rw [e] at hb ⊢
    have hg := valB_ge r ((acc * 10 + (c.toNat - 48) : Nat) : Int) (by omega) h.2
    rw [parseUintM, if_pos hd, if_neg (by omega), if_neg (by omega)]
    exact parseM r _ h.2 hb
theorem parse_num {b : List UInt8} (h : numB b = true) : parseIntB 64 b = .ok (valB 0 b) := by
  obtain ⟨h1, h2, h3⟩ := num_len h
  have hall : b.all dB = true := by
    unfold numB at h
    simp only [Bool.and_eq_true] at h
    simp_all
  cases b with
  | nil => revert h; decide
  | cons c r =>
    have hc := hall
    simp only [List.all_cons, Bool.and_eq_true] at hc
    have hd : 48 ≤ c.toNat ∧ c.toNat ≤ 57 := of_decide_eq_true hc.1
    have hp := parseM (c :: r) 0 hall h3
    rw [parseIntB_plain 64 c r (by omega) (by omega)]
    unfold parseUintB
    rw [if_neg (by simp), hp]
    show signlessC (2 ^ (64 - 1)) (.ok (valB 0 (c :: r)).toNat) = _
    unfold signlessC
    simp only
    rw [if_neg (by omega), Int.toNat_of_nonneg h2]
end Go.Proofs.YtccmmkhcacglhaaGreatDoor
