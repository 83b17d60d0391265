
/- Words one by one; what reading makes of them; how long a printed text is. Math alone. -/
import Derived.Test.YtdekboacjjpjeaaGdY
import Derived.Test.YtdekboacjjpjeaaGdO
import Derived.Test.YtdekboacjjpjeaaGdW
namespace Go.Proofs.Ytdekboacjjpjeaa
open Go.RowKit Go.Lib
set_option linter.unusedSimpArgs false
set_option linter.unusedVariables false

/-- The runes are one word of this kind, and no more. -/
structure OneW (K : Nat) (seg : List Ru) : Prop where
  k : K ≠ 0
  f : fst1 seg = (K, seg.length)
  g : ∀ v ∈ seg, Good v
  h : ∃ v t, seg = v :: t ∧ v.1 ≠ 10 ∧ v.1 ≠ 32 ∧ v.1 ≠ 9 ∧ v.1 ≠ 35
  l : (byt seg).length ≤ 12000
theorem byt_take_le (rs : List Ru) (m : Nat) : (byt (rs.take m)).length ≤ (byt rs).length := by have := byt_split rs m; omega
theorem byt_drop_le (rs : List Ru) (m : Nat) : (byt (rs.drop m)).length ≤ (byt rs).length := by have := byt_split rs m; omega
theorem wrds_one : ∀ (f : Nat) (rs : List Ru), rs.length ≤ f → (∀ v ∈ rs, v.1 ≠ -1 → Good v) → (byt rs).length ≤ 12000 → ∀ (ln co : Int) (n : Nat), n ≤ 3000 → (wrds rs ln co n).2.2 = 0 →
    (∀ w ∈ (wrds rs ln co n).1, OneW w.1 w.2.1) ∧ n + (wrds rs ln co n).1.length ≤ 3000
  | 0, rs, h, _, _, ln, co, n, hn, _ => by
    have : rs = [] := List.eq_nil_of_length_eq_zero (by omega)
    subst this
    exact ⟨(fun w hw => (by cases hw)), by rw [wrds_nil]; simpa using hn⟩
  | f + 1, [], h, _, _, ln, co, n, hn, _ => ⟨(fun w hw => (by cases hw)), by rw [wrds_nil]; simpa using hn⟩
  | f + 1, v :: t, h, hg, hb, ln, co, n, hn, h0 => by
    have ht : t.length ≤ f := by simp at h; omega
    have hgt : ∀ v ∈ t, v.1 ≠ -1 → Good v := fun x hx => hg x (List.mem_cons_of_mem _ hx)
    have hbt : (byt t).length ≤ 12000 := by rw [byt_cons, List.length_append] at hb; omega
    have e := wrds_cons v t ln co n
    by_cases c1 : v.1 = 10
    · simp only [if_pos c1] at e
      rw [e] at h0 ⊢
      exact wrds_one f t ht hgt hbt _ _ _ hn h0
    simp only [if_neg c1] at e
    by_cases c2 : v.1 = 32 ∨ v.1 = 9
    · simp only [if_pos c2] at e
      rw [e] at h0 ⊢
      exact wrds_one f t ht hgt hbt _ _ _ hn h0
    simp only [if_neg c2] at e
    by_cases c3 : v.1 = 35
    · simp only [if_pos c3] at e
      have hp := rest_pos (t := t) c1
      rw [e] at h0 ⊢
      exact wrds_one f _ (by rw [List.length_drop]; simp; omega) (fun x hx => hg x (List.mem_of_mem_drop hx)) (Nat.le_trans (byt_drop_le _ _) hb) _ _ _ hn h0
    simp only [if_neg c3] at e
    by_cases c4 : (fst1 (v :: t)).1 = 0
    · simp only [if_pos c4] at e
      rw [e] at h0; simp at h0
    simp only [if_neg c4] at e
    by_cases c5 : n = 3000
    · simp only [if_pos c5] at e
      rw [e] at h0; simp at h0
    simp only [if_neg c5] at e
    obtain ⟨hm, hm2⟩ := fst1_le v t c4
    obtain ⟨hf, hgd⟩ := fst1_take c4
    rw [e] at h0 ⊢
    obtain ⟨hr0, hX⟩ := pre_ok h0
    have ih := wrds_one f _ (by rw [List.length_drop]; simp; omega) (fun x hx => hg x (List.mem_of_mem_drop hx)) (Nat.le_trans (byt_drop_le _ _) hb) _ _ _ (by omega) hr0
    rw [hX]
    refine ⟨fun w hw => ?_, by rw [List.length_cons]; omega⟩
    rcases List.mem_cons.1 hw with rfl | hw
    · have hl : ((v :: t).take (fst1 (v :: t)).2).length = (fst1 (v :: t)).2 := by rw [List.length_take]; omega
      refine ⟨c4, ?_, fun x hx => hg x (List.mem_of_mem_take hx) (hgd x hx), ?_, Nat.le_trans (byt_take_le _ _) hb⟩
      · show fst1 ((v :: t).take (fst1 (v :: t)).2) = _
        rw [hf, hl]
      · obtain ⟨m, hmm⟩ : ∃ m, (fst1 (v :: t)).2 = m + 1 := ⟨(fst1 (v :: t)).2 - 1, by omega⟩
        refine ⟨v, t.take m, ?_, c1, fun h => c2 (.inl h), fun h => c2 (.inr h), c3⟩
        show (v :: t).take (fst1 (v :: t)).2 = _
        rw [hmm, List.take_succ_cons]
    · exact ih.1 w hw
/-- Each word of a text is one; there are at most so many. -/
theorem words_one {l : List UInt8} (h : (wordsS l).2.2 = 0) : (∀ w ∈ (wordsS l).1, OneW w.1 w.2.1) ∧ (wordsS l).1.length ≤ 3000 := by
  by_cases hl : 12000 < l.length
  · unfold wordsS at h; rw [if_pos hl] at h; simp at h
  have e : wordsS l = wrds (runes l) 1 1 0 := by unfold wordsS; rw [if_neg hl]
  rw [e] at h ⊢
  have := wrds_one _ _ (Nat.le_refl _) (runes_are_good _ l (Nat.le_refl _)) (by rw [byt_runes _ l (Nat.le_refl _)]; omega) 1 1 0 (by omega) h
  exact ⟨this.1, by omega⟩
theorem OneW.runes {K : Nat} {seg : List Ru} (h : OneW K seg) : runes (byt seg) = seg := by
  have := runes_goods seg [] h.g
  rw [List.append_nil, runes_nil, List.append_nil] at this
  exact this
/-- A word's text has that word alone. -/
theorem OneW.words {K : Nat} {seg : List Ru} (h : OneW K seg) : wordsS (byt seg) = ([(K, seg, 1, 1)], (0, 0), 0) := by
  have hr := h.runes
  have hl := h.l
  have hf := h.f
  have hk := h.k
  unfold wordsS
  rw [if_neg (by omega), hr]
  obtain ⟨v, t, e, h1, h2, h3, h4⟩ := h.h
  rw [e] at hf ⊢
  rw [wrds_cons, if_neg h1, if_neg (fun q => q.elim h2 h3), if_neg h4, hf, if_neg hk, if_neg (by decide), List.take_length, List.drop_length, wrds_nil]
  rfl
theorem OneW.kind {K : Nat} {seg : List Ru} (h : OneW K seg) : (K = 1 ∧ nameS (byt seg) = true) ∨ (K = 2 ∧ numB (byt seg) = true) ∨ (K = 3 ∧ ∃ v t, seg = v :: t ∧ letter v.1 = false ∧ dgt v.1 = false) := by
  have hr := h.runes
  have hf := h.f
  have hk := h.k
  obtain ⟨v, t, e, _⟩ := h.h
  have hbne : byt seg ≠ [] := fun e0 => by rw [e0, runes_nil] at hr; rw [← hr] at e; cases e
  have hnx : (nx (byt seg)).1 = v.1 := by
    have := runes_cons hbne
    rw [hr, e] at this
    injection this with h1 _
    rw [e]
    exact (congrArg Prod.fst h1).symm
  rw [e, fst1_cons, ← e] at hf
  by_cases a : letter v.1 = true
  · rw [if_pos a] at hf
    by_cases b : spn seg ≤ 24
    · rw [if_pos b] at hf
      injection hf with h1 h2
      left
      refine ⟨h1.symm, ?_⟩
      unfold nameS
      have hs : spb (byt seg) = (byt seg).length := by unfold spb; rw [hr, h2, List.take_length]
      rw [hnx, a, hs, hr, decide_eq_true b]; simp
    · rw [if_neg b] at hf
      injection hf with h1 _
      exact absurd h1.symm hk
  · rw [if_neg a] at hf
    by_cases d : dgt v.1 = true
    · rw [if_pos d] at hf
      by_cases b : numb (seg.take (spn seg)) = true
      · rw [if_pos b] at hf
        injection hf with h1 h2
        right; left
        refine ⟨h1.symm, ?_⟩
        rw [h2, List.take_length] at b
        rw [numB_numb (l := byt seg) seg (fun v hv => by rw [hr]; exact hv)]
        exact b
      · rw [if_neg b] at hf
        injection hf with h1 _
        exact absurd h1.symm hk
    · rw [if_neg d] at hf
      by_cases b : sgn seg = 0
      · rw [if_pos b] at hf
        injection hf with h1 _
        exact absurd h1.symm hk
      · rw [if_neg b] at hf
        injection hf with h1 _
        right; right
        exact ⟨h1.symm, v, t, e, by simpa using a, by simpa using d⟩
/-- A word as it is read: its kind, its bytes. -/
def tkW (x : Wd) : Tk := (x.1, byt x.2.1)
theorem OneW.good {K : Nat} {seg : List Ru} (h : OneW K seg) : GdW1 (K, byt seg) := by
  rcases h.kind with ⟨rfl, h1⟩ | ⟨rfl, h1⟩ | ⟨rfl, _⟩
  · obtain ⟨a, b, c, d⟩ := name_far h1
    exact ⟨.inl rfl, fun _ => ⟨a, b, c, d, fun e => by simp only at e; rw [e] at h1; revert h1; decide⟩⟩
  · obtain ⟨a, b, c, d⟩ := num_far h1
    exact ⟨.inr (.inl rfl), fun _ => ⟨a, b, c, d, fun e => by simp only at e; rw [e] at h1; revert h1; decide⟩⟩
  · exact ⟨.inr (.inr rfl), fun h => absurd rfl h⟩
theorem good_all {l : List Wd} (h : ∀ w ∈ l, OneW w.1 w.2.1) : ∀ w ∈ l.map tkW, GdW1 w := fun w hw => by
  obtain ⟨x, hx, rfl⟩ := List.mem_map.1 hw
  exact (h x hx).good

/-- What holds of each expression that is read, from a place to a place. -/
def BadOr (Q : Nat → Nat → Sx → Prop) (n : Nat) (r : Rd3) : Prop := (r.2.2 = -1 ∧ Q n r.2.1 r.1) ∨ 0 ≤ r.2.2
section
variable {nb : List UInt8 → Int} {rsv : List UInt8 → Bool} {l : List Tk} {Q : Nat → Nat → Sx → Prop}
theorem lop_pos {next : Nat → Int → Rd3} {k n : Nat} {x : Sx} {b : Int} (h : 0 ≤ b) : ∀ G, lop l next k G (x, n, b) = (x, n, b)
  | 0 => rfl
  | G + 1 => by
    unfold lop
    cases l[n]? with
    | none => rfl
    | some w => simp only; rw [if_neg (fun q => by have := q.1; omega)]
theorem lop_all {next : Nat → Int → Rd3} {k n0 : Nat} (hk : 1 ≤ k) (h2 : ∀ n m n' w x y, l[m]? = some w → lv w.2 ≠ 0 → Q n m x → Q (m + 1) n' y → Q n n' (mk2 ⟨w.2.toArray⟩ x y)) (hN : ∀ n, BadOr Q n (next n (-1))) : ∀ (G n : Nat) (x : Sx), Q n0 n x → BadOr Q n0 (lop l next k G (x, n, -1))
  | 0, n, x, hx => .inl ⟨rfl, hx⟩
  | G + 1, n, x, hx => by
    unfold lop
    cases hw : l[n]? with
    | none => exact .inl ⟨rfl, hx⟩
    | some w =>
      simp only
      by_cases hc : (-1 : Int) < 0 ∧ lv w.2 = k
      · rw [if_pos hc]
        have hne : lv w.2 ≠ 0 := by have := hc.2; omega
        obtain ⟨r, hr⟩ : ∃ r, next (n + 1) (-1) = r := ⟨_, rfl⟩
        have hb := hN (n + 1)
        rw [hr] at hb ⊢
        obtain ⟨y, n', b'⟩ := r
        rcases hb with ⟨e1, e2⟩ | e1
        · simp only at e1 e2
          subst e1
          have hp := h2 n0 n n' w x y hw hne hx e2
          by_cases h3 : k = 3
          · rw [if_pos h3]; exact .inl ⟨rfl, hp⟩
          · rw [if_neg h3]; exact lop_all hk h2 hN G n' _ hp
        · simp only at e1
          by_cases h3 : k = 3
          · rw [if_pos h3]; exact .inr e1
          · rw [if_neg h3, lop_pos e1]; exact .inr e1
      · rw [if_neg hc]; exact .inl ⟨rfl, hx⟩
theorem psr_all (h0 : ∀ n w x, l[n]? = some w → leafY nb rsv w = some x → Q n (n + 1) x) (h1 : ∀ n n' k x, k = 3 ∨ k = 4 → Q (n + 1) n' x → Q n n' (mk1 k x)) (h2 : ∀ n m n' w x y, l[m]? = some w → lv w.2 ≠ 0 → Q n m x → Q (m + 1) n' y → Q n n' (mk2 ⟨w.2.toArray⟩ x y))
    (h3 : ∀ n n' x, Q (n + 1) n' x → Q n (n' + 1) x) : ∀ (f k n : Nat), 1 ≤ k → k ≤ 6 → BadOr Q n (psr nb rsv l f k n (-1))
  | 0, k, n, _, _ => .inr (by show (0 : Int) ≤ if (-1 : Int) < 0 then (n : Int) else -1; rw [if_pos (by decide)]; omega)
  | f + 1, k, n, hk, hk6 => by
    by_cases h6 : k = 6
    · subst h6
      cases hw : l[n]? with
      | none => rw [psr6_end hw]; exact .inr (by show (0 : Int) ≤ (n : Int); omega)
      | some w =>
        by_cases hu : w.2 = [33] ∨ w.2 = [45]
        · rw [psr6_un hw hu]
          rcases psr_all h0 h1 h2 h3 f 6 (n + 1) (by omega) (by omega) with ⟨e1, e2⟩ | e1
          · exact .inl ⟨e1, h1 _ _ _ _ (by split <;> simp) e2⟩
          · exact .inr e1
        · by_cases h40 : w.2 = [40]
          · rw [psr6_par hw h40]
            rcases psr_all h0 h1 h2 h3 f 1 (n + 1) (by omega) (by omega) with ⟨e1, e2⟩ | e1
            · split
              · exact .inl ⟨e1, h3 _ _ _ e2⟩
              · refine .inr ?_
                show (0 : Int) ≤ if _ < (0 : Int) then _ else _
                rw [e1, if_pos (by decide)]; omega
            · rw [if_neg (by unfold isT; simp only [Bool.and_eq_true, decide_eq_true_eq]; omega)]
              refine .inr ?_
              show (0 : Int) ≤ if _ < (0 : Int) then _ else _
              rw [if_neg (by omega)]; exact e1
          · rw [psr6_leaf hw hu h40]
            cases hlf : leafY nb rsv w with
            | some x => exact .inl ⟨rfl, h0 n w x hw hlf⟩
            | none => exact .inr (by show (0 : Int) ≤ (n : Int); omega)
    · rw [psr, if_neg h6]
      obtain ⟨r, hr⟩ : ∃ r, psr nb rsv l f (k + 1) n (-1) = r := ⟨_, rfl⟩
      have hb := psr_all h0 h1 h2 h3 f (k + 1) n (by omega) (by omega)
      rw [hr] at hb ⊢
      obtain ⟨y, n', b'⟩ := r
      rcases hb with ⟨e1, e2⟩ | e1
      · simp only at e1 e2
        subst e1
        exact lop_all hk h2 (fun m => psr_all h0 h1 h2 h3 f (k + 1) m (by omega) (by omega)) _ _ _ e2
      · simp only at e1
        rw [lop_pos e1]; exact .inr e1
end
def cntX (x : Sx) : Nat := cnt x.1 x.2
theorem cntX_mk2 (s : ByteArray) (x y : Sx) : cntX (mk2 s x y) = cntX x + (cntX y + 0) + 1 := foldS_mk2 (fun (_ _ : Int) (_ : ByteArray) (l : List Nat) => l.sum + 1) s x y
/-- What is read of words: clean, sound, without reserved names, short. -/
structure Fine (x : Sx) : Prop where
  cl : ClX x
  sd : sdC x.1 x.2 = true
  pl : plC x.1 x.2 = true
  sh : shrt 1000 x.1 x.2 = true
theorem lv_opr {s : List UInt8} (h : lv s ≠ 0) : opr ⟨s.toArray⟩ = true ∧ s.length ≤ 2 := by
  have := lv_opB h
  rcases this with rfl | rfl | rfl | rfl | rfl | rfl | rfl | rfl | rfl <;> exact ⟨by decide, by decide⟩
theorem nx4 {l : List UInt8} (h : l ≠ []) : (nx l).2 ≤ 4 := by
  rw [nx_size h, decodeL_N]
  generalize (l.getD 0 0).toNat = b0
  generalize (l.getD 1 0).toNat = b1
  generalize (l.getD 2 0).toNat = b2
  generalize (l.getD 3 0).toNat = b3
  generalize l.length = n
  unfold decodeN
  repeat' split
  all_goals simp
theorem rune4 : ∀ (n : Nat) (l : List UInt8), l.length ≤ n → ∀ v ∈ runes l, v.2.length ≤ 4
  | 0, l, h, v, hv => by
    have : l = [] := List.eq_nil_of_length_eq_zero (by omega)
    subst this; cases hv
  | n + 1, l, h, v, hv => by
    by_cases hl : l = []
    · subst hl; rw [runes_nil] at hv; cases hv
    · have h1 := nx_pos hl
      have h4 := nx4 hl
      rw [runes_cons hl] at hv
      rcases List.mem_cons.1 hv with rfl | hv
      · rw [List.length_take]; omega
      · exact rune4 n _ (by rw [List.length_drop]; omega) v hv
theorem byt4 : ∀ (vs : List Ru), (∀ v ∈ vs, v.2.length ≤ 4) → (byt vs).length ≤ 4 * vs.length
  | [], _ => by simp [byt]
  | v :: r, h => by
    have h1 := h v (by simp)
    have h2 := byt4 r (fun x hx => h x (by simp [hx]))
    rw [byt_cons, List.length_append, List.length_cons]; omega
theorem name_len {b : List UInt8} (h : nameS b = true) : b.length ≤ 96 := by
  unfold nameS at h
  simp only [Bool.and_eq_true, decide_eq_true_eq, beq_iff_eq] at h
  have h1 : spb b ≤ 4 * ((runes b).take (spn (runes b))).length := byt4 _ (fun v hv => rune4 _ b (Nat.le_refl _) v (List.mem_of_mem_take hv))
  rw [List.length_take] at h1
  omega
theorem num_len {b : List UInt8} (h : numB b = true) : b.length ≤ 10 ∧ 0 ≤ valB 0 b ∧ valB 0 b ≤ 1000000000 := by
  unfold numB at h
  simp only [Bool.and_eq_true, decide_eq_true_eq] at h
  have hv : ∀ (b : List UInt8) (n : Int), 0 ≤ n → b.all dB = true → 0 ≤ valB n b := fun b => by
    induction b with
    | nil => intro n hn _; exact hn
    | cons c r ih =>
      intro n hn hb
      simp only [List.all_cons, Bool.and_eq_true] at hb
      have hd : 48 ≤ c.toNat ∧ c.toNat ≤ 57 := of_decide_eq_true hb.1
      exact ih _ (by omega) hb.2
  refine ⟨?_, ?_, ?_⟩
  all_goals first | omega | exact hv b 0 (by omega) (by simp_all) | simp_all
theorem fine_read {l : List Wd} (h : ∀ w ∈ l, OneW w.1 w.2.1) (f k n : Nat) (hk : 1 ≤ k) (hk6 : k ≤ 6) : BadOr (fun n n' x => Fine x ∧ n + cntX x ≤ n') n (psr (valB 0) rsvB (l.map tkW) f k n (-1)) := by
  refine psr_all (fun n w x hw0 hx => ⟨?_, ?_⟩) (fun n n' k x hk hq => ⟨?_, ?_⟩) (fun n m n' w x y hw0 hne hq hq' => ⟨?_, ?_⟩) (fun n n' x hq => ⟨hq.1, by have := hq.2; omega⟩) f k n hk hk6
  · have hw := List.mem_of_getElem? hw0
    obtain ⟨u, hu, rfl⟩ := List.mem_map.1 hw
    unfold leafY tkW at hx
    simp only at hx
    by_cases h2 : u.1 = 2
    · rw [if_pos h2] at hx
      obtain rfl := Option.some.inj hx
      have hn : numB (byt u.2.1) = true := by
        rcases (h u hu).kind with ⟨a, _⟩ | ⟨_, b⟩ | ⟨a, _⟩
        · omega
        · exact b
        · omega
      obtain ⟨_, a, b⟩ := num_len hn
      refine ⟨.inl ⟨rfl, rfl, rfl⟩, ?_, rfl, by rfl⟩
      show (decide (0 ≤ valB 0 (byt u.2.1)) && decide (valB 0 (byt u.2.1) ≤ 1000000000)) = true
      rw [decide_eq_true a, decide_eq_true b]; rfl
    · rw [if_neg h2] at hx
      by_cases h1 : u.1 = 1 ∧ rsvB (byt u.2.1) = false
      · rw [if_pos h1] at hx
        obtain rfl := Option.some.inj hx
        have hn : nameS (byt u.2.1) = true := by
          rcases (h u hu).kind with ⟨_, b⟩ | ⟨a, _⟩ | ⟨a, _⟩
          · exact b
          · omega
          · omega
        have hl := name_len hn
        refine ⟨.inr (.inl ⟨rfl, rfl, rfl⟩), ?_, ?_, ?_⟩
        · show nameS (bl ⟨(byt u.2.1).toArray⟩) = true
          exact hn
        · show (!(decide ((2 : Int) = 2) && rsvB (byt u.2.1)) && [].all id) = true
          rw [h1.2]; rfl
        · show (decide ((byt u.2.1).toArray.size ≤ 1000) && [].all id) = true
          rw [decide_eq_true (by simp; omega)]; rfl
      · rw [if_neg h1] at hx; cases hx
  · unfold leafY at hx
    have : cntX x = 1 := by
      split at hx
      · obtain rfl := Option.some.inj hx; rfl
      · split at hx
        · obtain rfl := Option.some.inj hx; rfl
        · cases hx
    omega
  · have hx := hq.1
    refine ⟨cl_mk1 hk hx.cl, ?_, ?_, ?_⟩
    · have : sdC (mk1 k x).1 (mk1 k x).2 = true := by
        show sdC (x.1 + 1) (mkT k 0 ⟨#[]⟩ [x.2]) = true
        rw [sdC_mk, if_neg (by omega), if_neg (by omega), if_pos hk]
        simp [hx.sd]
      exact this
    · show plC (x.1 + 1) (mkT k 0 ⟨#[]⟩ [x.2]) = true
      rw [plC_mk, decide_eq_false (by omega : ¬ k = 2)]
      simp [hx.pl]
    · show shrt 1000 (x.1 + 1) (mkT k 0 ⟨#[]⟩ [x.2]) = true
      rw [shrt_mk, size0]
      simp [hx.sh]
  · have e : cntX (mk1 k x) = cntX x + 0 + 1 := rfl
    have := hq.2
    omega
  · have hx := hq.1
    have hy := hq'.1
    obtain ⟨ho, hl2⟩ := lv_opr hne
    refine ⟨cl_mk2 hx.cl hy.cl, ?_, ?_, ?_⟩
    · have := foldS_mk2 (fun (k n : Int) (s : ByteArray) (l : List Bool) => if k = 1 then decide (0 ≤ n) && decide (n ≤ 1000000000) else if k = 2 then nameS (bl s) else if k = 3 ∨ k = 4 then l.all id else if k = 5 then opr s && l.all id else false) ⟨w.2.toArray⟩ x y
      refine Eq.trans this ?_
      rw [if_neg (by decide), if_neg (by decide), if_neg (by decide), if_pos rfl, ho]
      show (true && (sdC x.1 x.2 && (sdC y.1 y.2 && true))) = true
      rw [hx.sd, hy.sd]; rfl
    · have := foldS_mk2 (fun (k _ : Int) (s : ByteArray) (l : List Bool) => !(decide (k = 2) && rsvB s.data.toList) && l.all id) ⟨w.2.toArray⟩ x y
      refine Eq.trans this ?_
      show (!(false && _) && (plC x.1 x.2 && (plC y.1 y.2 && true))) = true
      rw [hx.pl, hy.pl]; rfl
    · have := foldS_mk2 (fun (_ _ : Int) (s : ByteArray) (l : List Bool) => decide (s.size ≤ 1000) && l.all id) ⟨w.2.toArray⟩ x y
      refine Eq.trans this ?_
      show (decide ((w.2.toArray).size ≤ 1000) && (shrt 1000 x.1 x.2 && (shrt 1000 y.1 y.2 && true))) = true
      rw [hx.sh, hy.sh, decide_eq_true (by simp; omega)]; rfl
  · have h1 := hq.2
    have h2 := hq'.2
    rw [cntX_mk2]
    omega
end Go.Proofs.Ytdekboacjjpjeaa
