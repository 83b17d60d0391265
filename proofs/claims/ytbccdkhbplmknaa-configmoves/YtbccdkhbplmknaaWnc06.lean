import Derived.Test.YtbccdkhbplmknaaWnc05
import Derived.Test.YtbccdkhbplmknaaWnc01

/- What the document's Find, Within, Meet, Inner, Ints answer. -/
namespace Go.Proofs.Ytbccdkhbplmknaa
open Go.RowKit Go.Lib
set_option linter.unusedSimpArgs false
set_option linter.unusedVariables false
attribute [local go_sem ↓] Go.wp_at_zero Go.wp_at_succ

theorem wiB_cases {l : List Nd} (hf : fmB l = true) (i j : Int) :
    wiB l i j = (if i ≠ -1 ∧ nmB l.length i = false then false else if j ≠ -1 ∧ nmB l.length j = false then false else decide (j = -1) || decide (i = j) || (decide (0 ≤ i) && lsP (nB l) i j)) := by
  unfold wiB
  rw [hf, Bool.true_and]
  have hm1 : nmB l.length (-1) = false := nmB_no (fun h => by omega)
  by_cases hj : j = -1
  · subst hj
    rw [if_pos rfl]
    by_cases hi : i = -1
    · subst hi; simp
    · rw [decide_eq_false hi, Bool.false_or]
      cases h1 : nmB l.length i with
      | false => rw [if_pos ⟨hi, rfl⟩]
      | true => simp
  · rw [if_neg hj]
    cases h2 : nmB l.length j with
    | false =>
      rw [Bool.and_false, Bool.false_and]
      split
      · rfl
      · rw [if_pos ⟨hj, rfl⟩]
    | true =>
      rw [Bool.and_true]
      cases h1 : nmB l.length i with
      | false =>
        rw [Bool.false_and]
        by_cases hi : i = -1
        · subst hi
          rw [if_neg (by simp), if_neg (by simp), decide_eq_false hj, decide_eq_false (fun e => hj e.symm)]
          simp
        · rw [if_pos ⟨hi, rfl⟩]
      | true =>
        obtain ⟨k, rfl, hk⟩ := nmB_true h1
        rw [if_neg (by simp), if_neg (by simp), decide_eq_false hj]
        simp
set_option maxRecDepth 100000 in
set_option maxHeartbeats 4000000 in
theorem withinR_any {ok : Nat → Prop} {w : World} {l : List Nd} {v : Value} (h : RdNd ok w l v) (i j : Int) :
    Calls Try.prog 65 #[v, .int .i64 i, .int .i64 j] w fun e w' => e = .returned (.bool (wiB l i j)) ∧ w = w' := by
  obtain ⟨a, cap, rfl, hlc, hcm⟩ := h.form
  have hfm := formedR_any h
  have hnm := fun i => stateR_any (w := w) (a := a) i hlc hcm
  have hli := fun k (hk : k < l.length) (j : Int) => lies_any h hk j
  unfold maxLen at hcm
  cases hf : fmB l with
  | false =>
    rw [hf] at hfm
    have e : wiB l i j = false := by unfold wiB; rw [hf]; rfl
    rw [e]
    clear hf hli hnm e
    go_enter Try.func65, Try.ntmps65
    go_wp2_with (first | (go_at_call 45; refine hfm.mono ?_; rintro e w1 ⟨rfl, rfl⟩) | fail)
    go_ret
    exact ⟨rfl, rfl⟩
  | true =>
  have hFM := fmB_fm hf
  rw [wiB_cases hf]
  rw [hf] at hfm
  clear hf
  have hn1 := fun (_ : Unit) => hnm i
  have hn2 := fun (_ : Unit) => hnm j
  clear hnm
  by_cases hb1 : i ≠ -1 ∧ nmB l.length i = false
  · rw [if_pos hb1]
    have hi2 : (i == -1) = false := beq_eq_false_iff_ne.2 hb1.1
    have hi3 : (i != -1) = true := by simp [bne, hi2]
    rw [hb1.2] at hn1
    clear hb1 hli
    go_enter Try.func65, Try.ntmps65
    go_wp2_with (first | (go_at_call 45; refine hfm.mono ?_; rintro e w1 ⟨rfl, rfl⟩) | (go_at_call 46; refine (hn1 ()).mono ?_; clear hn1; rintro e w1 ⟨rfl, rfl⟩) | fail)
    go_ret
    exact ⟨rfl, rfl⟩
  rw [if_neg hb1]
  have hi4 : i = -1 ∨ ((i == -1) = false ∧ (i != -1) = true ∧ nmB l.length i = true) := by
    by_cases hi : i = -1
    · exact .inl hi
    · refine .inr ⟨beq_eq_false_iff_ne.2 hi, by simp [bne, beq_eq_false_iff_ne.2 hi], ?_⟩
      cases h1 : nmB l.length i with
      | false => exact absurd ⟨hi, h1⟩ hb1
      | true => rfl
  clear hb1
  by_cases hb2 : j ≠ -1 ∧ nmB l.length j = false
  · rw [if_pos hb2]
    have hj2 : (j == -1) = false := beq_eq_false_iff_ne.2 hb2.1
    have hj3 : (j != -1) = true := by simp [bne, hj2]
    rw [hb2.2] at hn2
    clear hb2 hli
    rcases hi4 with rfl | ⟨hi5, hi6, hi7⟩
    · go_enter Try.func65, Try.ntmps65
      go_wp2_with (first | (go_at_call 45; refine hfm.mono ?_; rintro e w1 ⟨rfl, rfl⟩) | (go_at_call 46; refine (hn2 ()).mono ?_; clear hn2; rintro e w1 ⟨rfl, rfl⟩) | fail)
      go_ret
      exact ⟨rfl, rfl⟩
    · rw [hi7] at hn1
      clear hi7
      go_enter Try.func65, Try.ntmps65
      go_wp2_with (first | (go_at_call 45; refine hfm.mono ?_; rintro e w1 ⟨rfl, rfl⟩) | (go_at_call 46; refine (hn1 ()).mono ?_; clear hn1; rintro e w1 ⟨rfl, rfl⟩) | (go_at_call 46; refine (hn2 ()).mono ?_; clear hn2; rintro e w1 ⟨rfl, rfl⟩) | fail)
      go_ret
      exact ⟨rfl, rfl⟩
  rw [if_neg hb2]
  have hj4 : j = -1 ∨ ((j == -1) = false ∧ (j != -1) = true ∧ nmB l.length j = true ∧ decide (j = -1) = false) := by
    by_cases hj : j = -1
    · exact .inl hj
    · refine .inr ⟨beq_eq_false_iff_ne.2 hj, by simp [bne, beq_eq_false_iff_ne.2 hj], ?_, decide_eq_false hj⟩
      cases h1 : nmB l.length j with
      | false => exact absurd ⟨hj, h1⟩ hb2
      | true => rfl
  clear hb2
  rcases hj4 with rfl | ⟨hj5, hj6, hj7, hj8⟩
  · rw [decide_eq_true rfl, Bool.true_or, Bool.true_or]
    clear hli
    rcases hi4 with rfl | ⟨hi5, hi6, hi7⟩
    · go_enter Try.func65, Try.ntmps65
      go_wp2_with (first | (go_at_call 45; refine hfm.mono ?_; rintro e w1 ⟨rfl, rfl⟩) | fail)
      go_ret
      exact ⟨rfl, rfl⟩
    · rw [hi7] at hn1
      clear hi7
      go_enter Try.func65, Try.ntmps65
      go_wp2_with (first | (go_at_call 45; refine hfm.mono ?_; rintro e w1 ⟨rfl, rfl⟩) | (go_at_call 46; refine (hn1 ()).mono ?_; clear hn1; rintro e w1 ⟨rfl, rfl⟩) | fail)
      go_ret
      exact ⟨rfl, rfl⟩
  · rw [hj8, Bool.false_or]
    obtain ⟨jn, rfl, hjn⟩ := nmB_true hj7
    rw [hj7] at hn2
    rcases hi4 with rfl | ⟨hi5, hi6, hi7⟩
    · have e : (decide ((-1 : Int) = (jn : Int)) || (decide ((0 : Int) ≤ -1) && lsP (nB l) (-1) jn)) = false := by
        rw [decide_eq_false (by omega), decide_eq_false (by omega)]; rfl
      have hij : ((-1 : Int) == (jn : Int)) = false := by rw [beq_eq_false_iff_ne]; omega
      rw [e]
      clear hj7 hj8 e hli
      go_enter Try.func65, Try.ntmps65
      go_wp2_with (first | (go_at_call 45; refine hfm.mono ?_; rintro e w1 ⟨rfl, rfl⟩) | (go_at_call 46; refine (hn2 ()).mono ?_; clear hn2; rintro e w1 ⟨rfl, rfl⟩) | fail)
      go_ret
      exact ⟨rfl, rfl⟩
    · obtain ⟨im, rfl, him⟩ := nmB_true hi7
      rw [hi7] at hn1
      rw [decide_eq_true (show (0 : Int) ≤ (im : Int) by omega), Bool.true_and, ls_same hFM him hjn]
      have hl := fun (_ : Unit) => hli im him (jn : Int)
      obtain ⟨LV, hLV⟩ : ∃ x, lsR (nP l) (jn : Int) (im + 1) im = x := ⟨_, rfl⟩
      rw [hLV] at hl ⊢
      clear hi7 hj7 hj8 hli hLV hFM
      by_cases hij : (im : Int) = (jn : Int)
      · rw [decide_eq_true hij, Bool.true_or]
        have hij2 : ((im : Int) == (jn : Int)) = true := by rw [beq_iff_eq]; exact hij
        clear hij hl
        go_enter Try.func65, Try.ntmps65
        go_wp2_with (first | (go_at_call 45; refine hfm.mono ?_; rintro e w1 ⟨rfl, rfl⟩) | (go_at_call 46; refine (hn1 ()).mono ?_; clear hn1; rintro e w1 ⟨rfl, rfl⟩) | (go_at_call 46; refine (hn2 ()).mono ?_; clear hn2; rintro e w1 ⟨rfl, rfl⟩) | fail)
        go_ret
        exact ⟨rfl, rfl⟩
      · rw [decide_eq_false hij, Bool.false_or]
        have hij2 : ((im : Int) == (jn : Int)) = false := beq_eq_false_iff_ne.2 hij
        clear hij
        go_enter Try.func65, Try.ntmps65
        go_wp2_with (first | (go_at_call 45; refine hfm.mono ?_; rintro e w1 ⟨rfl, rfl⟩) | (go_at_call 46; refine (hn1 ()).mono ?_; clear hn1; rintro e w1 ⟨rfl, rfl⟩) | (go_at_call 46; refine (hn2 ()).mono ?_; clear hn2; rintro e w1 ⟨rfl, rfl⟩) | (go_at_call 64; refine (hl ()).mono ?_; rintro e w1 ⟨rfl, rfl⟩) | fail)
        go_ret
        exact ⟨rfl, rfl⟩
set_option maxRecDepth 100000 in
set_option maxHeartbeats 4000000 in
theorem meetR_any {ok : Nat → Prop} {w : World} {l : List Nd} {v : Value} (h : RdNd ok w l v) (i j : Int) :
    Calls Try.prog 47 #[v, .int .i64 i, .int .i64 j] w fun e w' => e = .returned (.int .i64 (mtB l i j)) ∧ w = w' := by
  obtain ⟨a, cap, rfl, hlc, hcm⟩ := h.form
  have hfm := formedR_any h
  have hnm := fun i => stateR_any (w := w) (a := a) i hlc hcm
  have hli := fun k (hk : k < l.length) (j : Int) => lies_any h hk j
  unfold maxLen at hcm
  unfold mtB
  have hn1 := fun (_ : Unit) => hnm i
  have hn2 := fun (_ : Unit) => hnm j
  clear hnm
  cases hf : fmB l with
  | false =>
    rw [hf] at hfm
    rw [Bool.false_and, Bool.false_and, if_neg (by simp)]
    clear hf hli hn1 hn2
    go_enter Try.func47, Try.ntmps47
    go_wp2_with (first | (go_at_call 45; refine hfm.mono ?_; rintro e w1 ⟨rfl, rfl⟩) | fail)
    go_ret
    exact ⟨rfl, rfl⟩
  | true =>
  have HF := hidOf (fmB_fm hf)
  rw [hf] at hfm
  rw [Bool.true_and]
  clear hf
  cases h1 : nmB l.length i with
  | false =>
    rw [h1] at hn1
    rw [Bool.false_and, if_neg (by simp)]
    clear h1 hli
    go_enter Try.func47, Try.ntmps47
    go_wp2_with (first | (go_at_call 45; refine hfm.mono ?_; rintro e w1 ⟨rfl, rfl⟩) | (go_at_call 46; refine (hn1 ()).mono ?_; clear hn1; rintro e w1 ⟨rfl, rfl⟩) | fail)
    go_ret
    exact ⟨rfl, rfl⟩
  | true =>
  rw [Bool.true_and]
  rw [h1] at hn1
  cases h2 : nmB l.length j with
  | false =>
    rw [h2] at hn2
    rw [if_neg (by simp)]
    clear h1 h2 hli
    go_enter Try.func47, Try.ntmps47
    go_wp2_with (first | (go_at_call 45; refine hfm.mono ?_; rintro e w1 ⟨rfl, rfl⟩) | (go_at_call 46; refine (hn1 ()).mono ?_; clear hn1; rintro e w1 ⟨rfl, rfl⟩) | (go_at_call 46; refine (hn2 ()).mono ?_; clear hn2; rintro e w1 ⟨rfl, rfl⟩) | fail)
    go_ret
    exact ⟨rfl, rfl⟩
  | true =>
  rw [h2] at hn2
  rw [if_pos rfl]
  obtain ⟨i, rfl, hil⟩ := nmB_true h1
  obtain ⟨jn, rfl, hjl⟩ := nmB_true h2
  have HC := hidOf h
  clear h1 h2 h
  rw [Int.toNat_natCast]
  obtain ⟨n, hn⟩ : ∃ n, l.length = n := ⟨_, rfl⟩
  have HN := hidOf hn
  have HLI : Hid (∀ k : Nat, k < l.length → Calls Try.prog 64 #[.slice a n cap, .int .i64 (jn : Int), .int .i64 (k : Int)] w fun e w' => e = .returned (.bool (lsP (nB l) jn k)) ∧ w = w') := fun k hk => by
    have := hli jn hjl k
    rw [ls_same HF.out hjl hk]
    rw [hn] at this
    exact this
  rw [hn] at hlc hil hjl hfm hn1 hn2 HF ⊢
  obtain ⟨V, hV⟩ : ∃ V, mtC (nP l) (nB l) jn (nP l i + 1).toNat (nP l i) = V := ⟨_, rfl⟩
  have HV := hidOf hV
  rw [hV]
  obtain ⟨b, off, rfl, hbl, c0, c1, c2, c3, c4, c5, c6⟩ := nd_at HC.out i (by rw [HN.out]; exact hil)
  have hpl := HF.out.plt hil
  obtain ⟨p, hp⟩ : ∃ p, nP l i = p := ⟨_, rfl⟩
  rw [hp] at HV c1 hpl
  clear hn hV hp c0 c2 c3 c4 c5 c6 hli
  have i1 : (i : Int) < (n : Int) := by omega
  have i2 : (0 : Int) ≤ (i : Int) := by omega
  go_enter Try.func47, Try.ntmps47
  go_wp2_with (first | (go_at_call 45; refine hfm.mono ?_; rintro e w1 ⟨rfl, rfl⟩) | (go_at_call 46; refine (hn1 ()).mono ?_; clear hn1; rintro e w1 ⟨rfl, rfl⟩) | (go_at_call 46; refine (hn2 ()).mono ?_; clear hn2; rintro e w1 ⟨rfl, rfl⟩) | fail)
  clear hfm c1
  go_loop [7] (fun t => ∃ p : Int, -1 ≤ p ∧ p < i ∧ t = .int .i64 p ∧ Hid (mtC (nP l) (nB l) jn (p + 1).toNat p = V)) (fun t => (RowKit.intOf t + 1).toNat)
  case atStart => exact ⟨p, hpl.1, hpl.2, rfl, HV⟩
  case round =>
    obtain ⟨q, hq0, hq1, rfl, HQ⟩ := hrel
    by_cases hneg : q < 0
    · have hV : V = -1 := by
        rw [← HQ.out]
        have : q = -1 := by omega
        rw [this]; rfl
      subst hV
      have i3 : ¬ (0 : Int) ≤ q := by omega
      go_wp2
      go_ret
      exact ⟨rfl, rfl⟩
    obtain ⟨k, rfl⟩ : ∃ k : Nat, q = k := ⟨q.toNat, by omega⟩
    have hkn : k < l.length := by rw [HN.out]; omega
    have hl := HLI.out k hkn
    have HQ2 : Hid ((if lsP (nB l) jn k then (k : Int) else mtC (nP l) (nB l) jn (nP l k + 1).toNat (nP l k)) = V) := by
      have := HQ.out
      have e1 : ((k : Int) + 1).toNat = k + 1 := by omega
      rw [e1, mtC, if_neg hneg, Int.toNat_natCast] at this
      have hpk := HF.out.plt (i := k) (by omega)
      rw [mtC_more HF.out jn k (nP l k) (by omega) (by omega) (by omega)] at this
      exact this
    have i3 : (0 : Int) ≤ (k : Int) := by omega
    have i4 : (k : Int) < (n : Int) := by omega
    cases hls : lsP (nB l) jn k with
    | true =>
      have hV : V = (k : Int) := by rw [← HQ2.out, if_pos hls]
      subst hV
      rw [hls] at hl
      clear hls
      go_wp2_with (first | (go_at_call 64; refine hl.mono ?_; rintro e w2 ⟨rfl, rfl⟩) | fail)
      go_ret
      exact ⟨rfl, rfl⟩
    | false =>
      have HV2 : Hid (mtC (nP l) (nB l) jn (nP l k + 1).toNat (nP l k) = V) := by
        have := HQ2.out
        rw [if_neg (by rw [hls]; simp)] at this
        exact this
      rw [hls] at hl
      have hpk := HF.out.plt (i := k) (by omega)
      obtain ⟨b', off', he, hbl', _, c1, _⟩ := nd_at HC.out k hkn
      simp only [Option.some.injEq, Addr.mk.injEq, and_true] at he
      obtain ⟨rfl, rfl⟩ := he
      obtain ⟨pk, hk⟩ : ∃ x, nP l k = x := ⟨_, rfl⟩
      rw [hk] at c1 hpk HV2
      clear hls hk
      go_wp2_with (first | (go_at_call 64; refine hl.mono ?_; rintro e w2 ⟨rfl, rfl⟩) | fail)
      go_round
      case rel => exact ⟨pk, hpk.1, by omega, rfl, HV2⟩
      case measure => simp [RowKit.intOf]; omega
theorem inF_none {l : List Nd} (hf : fmB l = true) {i : Int} (h : i ≠ -1 ∧ nmB l.length i = false) : ∀ j : Nat, j ≤ l.length → inF l i j = []
  | 0, _ => rfl
  | j + 1, hj => by
    rw [inF_succ, inF_none hf h j (by omega)]
    have hp := (fmB_fm hf).plt (i := j) (by omega)
    rw [if_neg, List.append_nil]
    intro e
    have h2 : nmB l.length i = true := by
      rw [← e]
      have : 0 ≤ nP l j := by
        rcases Int.lt_or_le (nP l j) 0 with h3 | h3
        · exact absurd (show i = -1 by omega) h.1
        · exact h3
      unfold nmB
      simp only [Bool.and_eq_true, decide_eq_true_eq]
      omega
    rw [h.2] at h2
    cases h2
set_option maxRecDepth 100000 in
set_option maxHeartbeats 4000000 in
theorem innerR_any {ok : Nat → Prop} {w : World} {l : List Nd} {v : Value} (h : RdNd ok w l v) (i : Int) :
    Calls Try.prog 75 #[v, .int .i64 i] w fun e w' => ∃ u, e = .returned u ∧ RdZs (fun b => w.heap.size ≤ b) w' (inB l i) u ∧ Below w.heap.size w w' := by
  obtain ⟨a, cap, rfl, hlc, hcm⟩ := h.form
  have hn1 := fun (_ : Unit) => stateR_any (w := w) (a := a) i hlc hcm
  unfold maxLen at hcm
  have hfm := formedR_any h
  unfold inB
  cases hf : fmB l with
  | false =>
    rw [hf] at hfm
    rw [if_neg (by simp)]
    clear hf hn1
    go_enter Try.func75, Try.ntmps75
    go_wp2_with (first | (go_at_call 45; refine hfm.mono ?_; rintro e w1 ⟨rfl, rfl⟩) | fail)
    go_ret
    exact ⟨_, rfl, rdK_none _ _ _ _, Below.refl _ _⟩
  | true =>
    have h40 := fm_40 hf
    rw [hf] at hfm
    rw [if_pos rfl]
    by_cases hb1 : i ≠ -1 ∧ nmB l.length i = false
    · rw [inF_none hf hb1 _ (Nat.le_refl _)]
      have hi2 : (i == -1) = false := beq_eq_false_iff_ne.2 hb1.1
      have hi3 : (i != -1) = true := by simp [bne, hi2]
      rw [hb1.2] at hn1
      clear hb1 hf
      go_enter Try.func75, Try.ntmps75
      go_wp2_with (first | (go_at_call 45; refine hfm.mono ?_; rintro e w1 ⟨rfl, rfl⟩) | (go_at_call 46; refine (hn1 ()).mono ?_; clear hn1; rintro e w1 ⟨rfl, rfl⟩) | fail)
      go_ret
      exact ⟨_, rfl, rdK_none _ _ _ _, Below.refl _ _⟩
    have hi4 : i = -1 ∨ ((i == -1) = false ∧ (i != -1) = true ∧ nmB l.length i = true) := by
      by_cases hi : i = -1
      · exact .inl hi
      · refine .inr ⟨beq_eq_false_iff_ne.2 hi, by simp [bne, beq_eq_false_iff_ne.2 hi], ?_⟩
        cases h1 : nmB l.length i with
        | false => exact absurd ⟨hi, h1⟩ hb1
        | true => rfl
    clear hf hb1
    have HC := hidOf h
    obtain ⟨n, hn⟩ : ∃ n, l.length = n := ⟨_, rfl⟩
    rw [hn] at hlc h40 hfm hn1 hi4 ⊢
    have HN := hidOf hn
    clear h hn
    obtain ⟨i0, hi, hz0, hz1, hz2⟩ := info_parts Try.infoIntT
    rcases hi4 with rfl | ⟨hi5, hi6, hi7⟩
    · clear hn1
      go_enter Try.func75, Try.ntmps75
      go_wp2_with (first | (go_at_call 45; refine hfm.mono ?_; rintro e w1 ⟨rfl, rfl⟩) | fail)
      clear hfm
      go_loopw [5, 22] (fun t ix wr => ∃ (j : Nat), j ≤ n ∧ ix = .int .i64 (j : Int) ∧ OwnK wr w.heap.size 3 1 rInt t (inF l (-1) j) ∧ Below w.heap.size w wr) (fun _ ix _ => n - (RowKit.intOf ix).toNat)
      case atStart => exact ⟨0, Nat.zero_le _, rfl, ownK_nil _ _ _ _ _, Below.refl _ _⟩
      case round =>
        obtain ⟨j, hj, rfl, hO, hb⟩ := hrel
        obtain ⟨va, vc, rfl, hvl, hvm⟩ := hO.form
        by_cases hlt : j < n
        · obtain ⟨b, off, rfl, hbl, c0, c1, c2, c3, c4, c5, c6⟩ := nd_at HC.out j (by rw [HN.out]; exact hlt)
          replace c1 := (hb.cell (p := ⟨b, off + j * 7 + 1, none⟩) hbl).trans c1
          have HS := hidOf (inF_succ l (-1) j)
          have hil := inF_len l (-1) j
          generalize nP l j = x1 at *
          clear c0 c2 c3 c4 c5 c6
          have i1 : (j : Int) < (n : Int) := by omega
          have i2 : (0 : Int) ≤ (j : Int) := by omega
          by_cases he : x1 = (-1)
          · have HS2 : Hid (inF l (-1) (j + 1) = inF l (-1) j ++ [(j : Int)]) := by have := HS.out; rw [if_pos he] at this; exact this
            have he2 : (x1 == (-1)) = true := by rw [beq_iff_eq]; exact he
            clear HS he
            go_upto_region 8 with fail
            clear c1
            go_wp2_with (first
              | (at_builtin; refine wpList_pushK wr rfl _ _ 59 rfl w.heap.size 3 i0 (.int .i64 0) 1 8 Try.underlying59 hi hz0 hz1 hz2 rfl kp_int (.slice va (inF l (-1) j).length vc) (inF l (-1) j) (j : Int) [.int .i64 (j : Int)] wr.heap.size rfl rfl rfl (by simp [Value.oneCell']) hO rfl hb.size (fun x hx => (hO.blk x hx).2) (by omega) (by unfold maxLen; omega) hb.size ?_; intro vb wb hOb hgb hbb)
              | fail)
            go_wp2
            go_roundw
            case rel => exact ⟨j + 1, hlt, by go_num, by rw [HS2.out]; exact hOb, hb.trans hbb⟩
            case measure => simp [RowKit.intOf]; omega
          · have HS2 : Hid (inF l (-1) (j + 1) = inF l (-1) j) := by have := HS.out; rw [if_neg he, List.append_nil] at this; exact this
            have he2 : (x1 == (-1)) = false := beq_eq_false_iff_ne.2 he
            clear he HS
            go_wp2
            go_roundw
            case rel => exact ⟨j + 1, hlt, by go_num, by rw [HS2.out]; exact hO, hb⟩
            case measure => simp [RowKit.intOf]; omega
        · have i1 : ¬ (j : Int) < (n : Int) := by omega
          have hjn : j = n := by omega
          go_wp2
          go_ret
          refine ⟨_, rfl, ?_, hb⟩
          rw [← hjn]
          exact hO.rd kp_int
    · rw [hi7] at hn1
      go_enter Try.func75, Try.ntmps75
      go_wp2_with (first | (go_at_call 45; refine hfm.mono ?_; rintro e w1 ⟨rfl, rfl⟩) | (go_at_call 46; refine (hn1 ()).mono ?_; clear hn1; rintro e w1 ⟨rfl, rfl⟩) | fail)
      clear hfm
      go_loopw [5, 22] (fun t ix wr => ∃ (j : Nat), j ≤ n ∧ ix = .int .i64 (j : Int) ∧ OwnK wr w.heap.size 3 1 rInt t (inF l i j) ∧ Below w.heap.size w wr) (fun _ ix _ => n - (RowKit.intOf ix).toNat)
      case atStart => exact ⟨0, Nat.zero_le _, rfl, ownK_nil _ _ _ _ _, Below.refl _ _⟩
      case round =>
        obtain ⟨j, hj, rfl, hO, hb⟩ := hrel
        obtain ⟨va, vc, rfl, hvl, hvm⟩ := hO.form
        by_cases hlt : j < n
        · obtain ⟨b, off, rfl, hbl, c0, c1, c2, c3, c4, c5, c6⟩ := nd_at HC.out j (by rw [HN.out]; exact hlt)
          replace c1 := (hb.cell (p := ⟨b, off + j * 7 + 1, none⟩) hbl).trans c1
          have HS := hidOf (inF_succ l i j)
          have hil := inF_len l i j
          generalize nP l j = x1 at *
          clear c0 c2 c3 c4 c5 c6
          have i1 : (j : Int) < (n : Int) := by omega
          have i2 : (0 : Int) ≤ (j : Int) := by omega
          by_cases he : x1 = i
          · have HS2 : Hid (inF l i (j + 1) = inF l i j ++ [(j : Int)]) := by have := HS.out; rw [if_pos he] at this; exact this
            have he2 : (x1 == i) = true := by rw [beq_iff_eq]; exact he
            clear HS he
            go_upto_region 8 with fail
            clear c1
            go_wp2_with (first
              | (at_builtin; refine wpList_pushK wr rfl _ _ 59 rfl w.heap.size 3 i0 (.int .i64 0) 1 8 Try.underlying59 hi hz0 hz1 hz2 rfl kp_int (.slice va (inF l i j).length vc) (inF l i j) (j : Int) [.int .i64 (j : Int)] wr.heap.size rfl rfl rfl (by simp [Value.oneCell']) hO rfl hb.size (fun x hx => (hO.blk x hx).2) (by omega) (by unfold maxLen; omega) hb.size ?_; intro vb wb hOb hgb hbb)
              | fail)
            go_wp2
            go_roundw
            case rel => exact ⟨j + 1, hlt, by go_num, by rw [HS2.out]; exact hOb, hb.trans hbb⟩
            case measure => simp [RowKit.intOf]; omega
          · have HS2 : Hid (inF l i (j + 1) = inF l i j) := by have := HS.out; rw [if_neg he, List.append_nil] at this; exact this
            have he2 : (x1 == i) = false := beq_eq_false_iff_ne.2 he
            clear he HS
            go_wp2
            go_roundw
            case rel => exact ⟨j + 1, hlt, by go_num, by rw [HS2.out]; exact hO, hb⟩
            case measure => simp [RowKit.intOf]; omega
        · have i1 : ¬ (j : Int) < (n : Int) := by omega
          have hjn : j = n := by omega
          go_wp2
          go_ret
          refine ⟨_, rfl, ?_, hb⟩
          rw [← hjn]
          exact hO.rd kp_int
theorem int_at {ok : Nat → Prop} {w : World} {l : List Int} {a : Option Addr} {n cap : Nat} (h : RdZs ok w l (.slice a n cap)) (j : Nat) (hj : j < l.length) : ∃ b off, a = some ⟨b, off, none⟩ ∧ b < w.heap.size ∧ w.cell? ⟨b, off + j, none⟩ = some (.int .i64 l[j]) := by
  obtain ⟨a1, cap1, he, h1, h2, h3⟩ := h
  simp only [Value.slice.injEq] at he
  obtain ⟨rfl, rfl, rfl⟩ := he
  obtain ⟨b, off, cs, ha, _, hb, hl, hr, hc⟩ := h3 j hj
  have hr : cs = [.int .i64 l[j]] := hr
  subst hr
  have := hc 0 _ rfl
  rw [Nat.mul_one, Nat.add_zero] at this
  exact ⟨b, off, ha, hb, this⟩
set_option maxRecDepth 100000 in
set_option maxHeartbeats 4000000 in
theorem ints_any {ok ok' : Nat → Prop} {w : World} {l : List Int} {v v' : Value} (h : RdZs ok w l v) (h' : RdZs ok' w l v') :
    Calls Try.prog 24 #[v, v'] w fun e w' => e = .returned (.bool true) ∧ Below w.heap.size w w' := by
  obtain ⟨a, cap, rfl, hlc, hcm⟩ := h.form
  obtain ⟨a', cap', rfl, hlc', hcm'⟩ := h'.form
  unfold maxLen at hcm hcm'
  have HC := hidOf h
  have HC' := hidOf h'
  obtain ⟨n, hn⟩ : ∃ n, l.length = n := ⟨_, rfl⟩
  rw [hn] at hlc hlc' ⊢
  have HN := hidOf hn
  clear h h' hn
  go_enter Try.func24, Try.ntmps24
  go_wp2
  go_loopw [13] (fun ix wr => ∃ (j : Nat), j ≤ n ∧ ix = .int .i64 (j : Int) ∧ Below w.heap.size w wr) (fun ix _ => n - (RowKit.intOf ix).toNat)
  case atStart => exact ⟨0, Nat.zero_le _, rfl, Below.refl _ _⟩
  case round =>
    obtain ⟨j, hj, rfl, hb⟩ := hrel
    by_cases hlt : j < n
    · obtain ⟨b, off, rfl, hbl, c0⟩ := int_at HC.out j (by rw [HN.out]; exact hlt)
      obtain ⟨b', off', rfl, hbl', c0'⟩ := int_at HC'.out j (by rw [HN.out]; exact hlt)
      replace c0 := (hb.cell (p := ⟨b, off + j, none⟩) hbl).trans c0
      replace c0' := (hb.cell (p := ⟨b', off' + j, none⟩) hbl').trans c0'
      generalize l[j]'(by rw [HN.out]; exact hlt) = x at *
      have i1 : (j : Int) < (n : Int) := by omega
      have i2 : (0 : Int) ≤ (j : Int) := by omega
      have i3 : (x == x) = true := by simp
      go_upto_region 6 with fail
      go_quiet (fail)
      have hb : Below w.heap.size w (wr.drewN nq) := hb.trans ⟨rfl, rfl, rfl, Nat.le_refl _, fun _ _ => rfl⟩
      clear c0 c0'
      generalize wr.drewN nq = wq at *
      go_wp2
      go_roundw
      case rel => exact ⟨j + 1, hlt, by go_num, hb⟩
      case measure => simp [RowKit.intOf]; omega
    · have i1 : ¬ (j : Int) < (n : Int) := by omega
      go_wp2
      go_ret
      exact ⟨rfl, hb⟩

set_option maxRecDepth 100000 in
set_option maxHeartbeats 2000000 in
theorem has_any {ok : Nat → Prop} {w : World} {xs : List Int} {u : Value} (hx : RdZs ok w xs u) (x : Int) :
    Calls Try.prog 50 #[u, .int .i64 x] w fun e w' => e = .returned (.bool (xs.contains x)) ∧ w = w' := by
  obtain ⟨a, cap, rfl, hlc, hcm⟩ := hx.form
  unfold maxLen at hcm
  have HX := hidOf hx
  obtain ⟨V, hV⟩ : ∃ V, xs.contains x = V := ⟨_, rfl⟩
  rw [hV]
  obtain ⟨n, hn⟩ : ∃ n, xs.length = n := ⟨_, rfl⟩
  rw [hn] at hlc ⊢
  have HN := hidOf hn
  have HV : Hid ((xs.drop 0).contains x = V) := hV
  clear hx hn hV
  go_enter Try.func50, Try.ntmps50
  go_wp2
  go_loop [8] (fun ix => ∃ (j : Nat), j ≤ n ∧ ix = .int .i64 (j : Int) ∧ Hid ((xs.drop j).contains x = V)) (fun ix => n - (RowKit.intOf ix).toNat)
  case atStart => exact ⟨0, Nat.zero_le _, rfl, HV⟩
  case round =>
    obtain ⟨j, hj, rfl, HI⟩ := hrel
    by_cases hlt : j < n
    · have hjl : j < xs.length := by rw [HN.out]; exact hlt
      obtain ⟨b, off, rfl, hbl, c0⟩ := int_at HX.out j hjl
      have i1 : (j : Int) < (n : Int) := by omega
      have i2 : (0 : Int) ≤ (j : Int) := by omega
      have HD : Hid (xs.drop j = xs[j] :: xs.drop (j + 1)) := List.drop_eq_getElem_cons hjl
      generalize xs[j] = y at *
      by_cases he : y = x
      · have hVt : V = true := by rw [← HI.out, HD.out, he]; simp
        have he' : (y == x) = true := by simp [he]
        clear he
        subst hVt
        go_wp2
        go_ret
        exact ⟨rfl, rfl⟩
      · have he' : (y == x) = false := beq_eq_false_iff_ne.2 he
        have HI2 : Hid ((xs.drop (j + 1)).contains x = V) := by
          have h := HI.out
          rw [HD.out, List.contains_cons] at h
          have h2 : (x == y) = false := beq_eq_false_iff_ne.2 (fun e => he e.symm)
          rw [h2, Bool.false_or] at h
          exact h
        clear he
        go_wp2
        go_round
        case rel => exact ⟨j + 1, hlt, by go_num, HI2⟩
        case measure => simp [RowKit.intOf]; omega
    · have i1 : ¬ (j : Int) < (n : Int) := by omega
      have hVf : V = false := by rw [← HI.out, List.drop_eq_nil_of_le (by rw [HN.out]; omega)]; rfl
      subst hVf
      go_wp2
      go_ret
      exact ⟨rfl, rfl⟩
theorem src_zs {ok : Nat → Prop} {w : World} {l : List Int} {v : Value} (h : RdZs ok w l v) : Src Try.prog 1 59 v l.length (l.map (Value.int .i64)) w := by
  obtain ⟨a, cap, rfl, hlc, hcm⟩ := h.form
  cases a with
  | none =>
    have hl : l = [] := by
      rcases Nat.eq_zero_or_pos l.length with h0 | h0
      · exact List.eq_nil_of_length_eq_zero h0
      · obtain ⟨b, off, hb, _⟩ := int_at h 0 h0
        cases hb
    subst hl
    exact Src.ofNil w Try.underlying59 cap
  | some ad =>
    refine Src.ofSlice w Try.underlying59 ad l.length cap _ (by simp) (fun j u hu => ?_) (fun u hu => ?_)
    · rw [List.getElem?_map] at hu
      have hj : j < l.length := by
        rcases Nat.lt_or_ge j l.length with h' | h'
        · exact h'
        · rw [List.getElem?_eq_none h'] at hu; cases hu
      rw [List.getElem?_eq_getElem hj] at hu
      obtain ⟨b, off, hb, _, hc⟩ := int_at h j hj
      simp only [Option.some.injEq] at hb
      subst hb
      rw [add_plain]
      simp only [Option.map_some, Option.some.injEq] at hu
      rw [← hu]
      exact hc
    · rw [List.mem_map] at hu
      obtain ⟨x, _, rfl⟩ := hu
      rfl
/-- Numbers as they are told. -/
def toI (l : List Nat) : List Int := l.map (fun k : Nat => (k : Int))
theorem inB_nat {l : List Nd} (hf : fmB l = true) (x : Nat) : inB l x = toI (innN l x) := by
  unfold inB
  rw [if_pos hf]
  rfl
/-- A row of numbers under construction, as it goes on. -/
def OwnZ (w : World) (base : Nat) (v : Value) (l : List Int) : Prop := w.ownsRow base 3 1 v l.length (l.map (Value.int .i64))
theorem OwnZ.k {w : World} {base : Nat} {v : Value} {l : List Int} (h : OwnZ w base v l) : OwnK w base 3 1 rInt v l := z_ownK h
def BdC (l : List Nd) (f : Nat) : Prop := ∀ (ok : Nat → Prop) (w : World) (v : Value) (x : Nat), RdNd ok w l v → x < l.length → l.length - x ≤ f →
  Calls Try.prog 74 #[v, .int .i64 (x : Int)] w fun e w' => ∃ a n c, e = .returned (.slice a n c) ∧ OwnZ w' w.heap.size (.slice a n c) (toI (bdL l f x)) ∧ Below w.heap.size w w'
theorem innN_len (l : List Nd) (x : Nat) : (innN l x).length ≤ l.length := by
  unfold innN
  have := List.length_filter_le (fun k => decide (nP l k = (x : Int))) (List.range l.length)
  rwa [List.length_range] at this
theorem tsL_len {l : List Nd} (hf : fmB l = true) (i : Int) {x : Nat} (hx : x < l.length) : (tsL l i x).length ≤ 40 := by
  have hb := bN_lt hf hx
  have h40 := fm_40 hf
  unfold tsL
  have := List.length_filter_le (tS l i x) (List.range' x (bN l x - x))
  rw [List.length_range'] at this
  omega
theorem bdL_len {l : List Nd} (hf : fmB l = true) {f x : Nat} (hx : x < l.length) (h : l.length - x ≤ f) : (bdL l f x).length ≤ 40 := by
  rw [bd_ts hf x f x hx h (.inl rfl)]
  exact tsL_len hf x hx
/-- What is there when j of those right in x are gone through. -/
def bdJ (l : List Nd) (f x j : Nat) : List Nat := x :: ((if nA l x then innN l x else (innN l x).take 1).take j).flatMap (bdL l f)
theorem bdJ_end (l : List Nd) (f x : Nat) : bdJ l f x (innN l x).length = bdL l (f + 1) x := by
  unfold bdJ bdL
  congr 2
  apply List.take_of_length_le
  split
  · exact Nat.le_refl _
  · rw [List.length_take]; omega
theorem bdJ_le {l : List Nd} (hf : fmB l = true) {f x j : Nat} (hx : x < l.length) (h : l.length - x ≤ f + 1) : (bdJ l f x j).length ≤ 40 := by
  refine Nat.le_trans ?_ (bdL_len hf hx h)
  unfold bdJ bdL
  rw [List.length_cons, List.length_cons, Nat.add_le_add_iff_right]
  generalize (if nA l x then innN l x else (innN l x).take 1) = r
  have e : r.flatMap (bdL l f) = (r.take j).flatMap (bdL l f) ++ (r.drop j).flatMap (bdL l f) := by rw [← List.flatMap_append, List.take_append_drop]
  rw [e, List.length_append]
  omega
theorem bdJ_step (l : List Nd) (f x j : Nat) (hj : j < (innN l x).length) : bdJ l f x (j + 1) = if nA l x = true ∨ j = 0 then bdJ l f x j ++ bdL l f ((innN l x).getD j 0) else bdJ l f x j := by
  rw [show (innN l x).getD j 0 = (innN l x)[j] by simp [hj]]
  unfold bdJ
  cases ha : nA l x
  · rw [if_neg (by simp)]
    cases j with
    | zero =>
      rw [if_pos (.inr rfl)]
      have e : ((innN l x).take 1) = [(innN l x)[0]] := by simpa using List.take_succ_eq_append_getElem (i := 0) hj
      rw [e]
      simp
    | succ j =>
      rw [if_neg (by simp)]
      rw [List.take_take, List.take_take, Nat.min_eq_right (by omega), Nat.min_eq_right (by omega)]
  · rw [if_pos rfl, if_pos (.inl rfl), List.take_succ_eq_append_getElem hj, List.flatMap_append]
    simp
theorem toI_len (l : List Nat) : (toI l).length = l.length := by simp [toI]
theorem toI_app (a b : List Nat) : toI (a ++ b) = toI a ++ toI b := by simp [toI]
theorem ownZ_keep {w w' : World} {base : Nat} {v : Value} {l : List Int} (h : OwnZ w base v l) (hb : Below w.heap.size w w') : OwnZ w' base v l := ownsRow_keep h (fun g hg => hb.block g (ownsRow_lt h g hg).2)
theorem ownZ_form {w : World} {base : Nat} {v : Value} {l : List Int} (h : OwnZ w base v l) : ∃ a cap, v = .slice a l.length cap ∧ l.length ≤ cap ∧ cap ≤ maxLen := h.k.form
theorem info_int : ∃ i, Try.prog.info? 3 = some i ∧ i.zero = some (.int .i64 0) ∧ i.size = 1 ∧ i.bytes = 8 := info_parts Try.infoIntT
theorem ownZ_one (w : World) (x : Int) (n : Nat) (hn : n = w.heap.size) (base : Nat) (hb : base ≤ w.heap.size) : OwnZ (w.alloc (.cells #[.int .i64 x] 3)) base (.slice (some ⟨n, 0, none⟩) 1 1) [x] := by
  subst hn
  exact World.ownsRow_lit w #[.int .i64 x] 1 hb (by simp [maxLen]) rfl
set_option maxRecDepth 100000 in
set_option maxHeartbeats 8000000 in
theorem bd_step {l : List Nd} (hf : fmB l = true) (f : Nat) (IH : BdC l f) : BdC l (f + 1) := by
  intro ok w v x h hx hfu
  obtain ⟨a, cap, rfl, hlc, hcm⟩ := h.form
  unfold maxLen at hcm
  have h40 := fm_40 hf
  have hin := fun w1 (b1 : Below w.heap.size w w1) => innerR_any (h.on kp_nd b1) (x : Int)
  simp only [inB_nat hf] at hin
  have hrec := fun (c : Nat) (hc : c < l.length) (hcx : x < c) w1 (b1 : Below w.heap.size w w1) => IH (fun b => ok b) w1 _ c (h.on kp_nd b1) hc (by omega)
  obtain ⟨b, off, rfl, hbl0, c0, c1, c2, c3, c4, c5, c6⟩ := nd_at h x hx
  clear c0 c1 c2 c3 c5 c6
  have hA : (nAt l x).2.2.1 = nA l x := rfl
  rw [hA] at c4
  have HST := hidOf (fun j hj => bdJ_step l f x j hj)
  have HEN := hidOf (bdJ_end l f x)
  have HLE := fun j => bdJ_le hf (j := j) hx hfu
  have HMEM := hidOf (fun c (hc : c ∈ innN l x) => innN_mem hf hc)
  have HBL := hidOf (fun c (hc : c ∈ innN l x) => bdL_len hf (f := f) (innN_mem hf hc).1 (by have := (innN_mem hf hc).2.2.1; have := (innN_mem hf hc).1; omega))
  have hil := innN_len l x
  obtain ⟨n, hn⟩ : ∃ n, l.length = n := ⟨_, rfl⟩
  rw [hn] at hlc h40 hil hx hfu ⊢
  simp only [hn] at hin hrec HMEM
  clear hn h
  obtain ⟨K, hK⟩ : ∃ K, innN l x = K := ⟨_, rfl⟩
  simp only [hK] at hin HST HEN HMEM HBL hil
  clear hK
  obtain ⟨m, hm⟩ : ∃ m, K.length = m := ⟨_, rfl⟩
  rw [hm] at hil HEN
  have HM := hidOf hm
  clear hm hA
  have i1 : (x : Int) < n := by omega
  have i2 : (0 : Int) ≤ (x : Int) := by omega
  obtain ⟨i0, hi, hz0, hz1, hz2⟩ := info_int
  have hal : Below w.heap.size w (w.alloc (.cells #[.int .i64 (x : Int)] 3)) := (Below.refl _ _).alloc (Nat.le_refl _) _
  have hO0 : OwnZ (w.alloc (.cells #[.int .i64 (x : Int)] 3)) w.heap.size (.slice (some ⟨w.heap.size, 0, none⟩) 1 1) (toI (bdJ l f x 0)) := by
    have := ownZ_one w (x : Int) _ rfl w.heap.size (Nat.le_refl _)
    simpa [bdJ, toI] using this
  have hsx : (w.alloc (.cells #[.int .i64 (x : Int)] 3)).heap.size = w.heap.size + 1 := by simp
  go_enter Try.func74, Try.ntmps74
  go_upto_region 2 with fail
  generalize w.alloc (.cells #[.int .i64 (x : Int)] 3) = wx at *
  go_upto_region 3 with (first | (go_at_call 75; refine (hin _ hal).mono ?_; rintro e w1 ⟨u, rfl, hu, b1⟩; obtain ⟨ua, uc, rfl, hu1, hu2⟩ := hu.form) | fail)
  have hb1 := hal.trans (b1.mono hal.size)
  have hO1 := ownZ_keep hO0 b1
  rw [toI_len, HM.out] at hu1
  unfold maxLen at hu2
  have HU := hidOf (hu.stay kp_int (ok' := fun b => wx.heap.size ≤ b ∧ b < w1.heap.size) (w' := w1) (fun b hb hl => ⟨⟨hb, hl⟩, rfl⟩))
  clear hin hu b1 hO0
  have eU : (toI K).length = m := by rw [toI_len, HM.out]
  rw [eU]
  go_wp2
  go_loopw [5, 15] (fun t ix wr => ∃ (j : Nat), j ≤ m ∧ ix = .int .i64 (j : Int) ∧ OwnZ wr w.heap.size t (toI (bdJ l f x j)) ∧ RdZs (fun b => wx.heap.size ≤ b ∧ b < w1.heap.size) wr (toI K) (.slice ua m uc) ∧ Below w.heap.size w wr ∧ w1.heap.size ≤ wr.heap.size ∧ (∀ g, t.ownBlock = some g → g < wx.heap.size ∨ w1.heap.size ≤ g)) (fun _ ix _ => m - (RowKit.intOf ix).toNat)
  case atStart => exact ⟨0, Nat.zero_le _, rfl, hO1, by rw [← eU]; exact HU.out, hb1, Nat.le_refl _, fun g hg => .inl (by have h1 : some w.heap.size = some g := hg; have := Option.some.inj h1; omega)⟩
  case round =>
    clear hO1 hb1
    obtain ⟨j, hj, rfl, hO, hu, hb, hs1, hg1⟩ := hrel
    replace c4 := (hb.cell (p := ⟨b, off + x * 7 + 4, none⟩) hbl0).trans c4
    obtain ⟨va, vc, hvf, hvl, hvm⟩ := ownZ_form hO
    subst hvf
    have hLj := HLE j
    have hlen : (toI (bdJ l f x j)).length = (bdJ l f x j).length := toI_len _
    obtain ⟨p, hp⟩ : ∃ p, (bdJ l f x j).length = p := ⟨_, rfl⟩
    rw [hlen, hp] at hvl
    rw [hp] at hLj
    have eP : (toI (bdJ l f x j)).length = p := by rw [hlen, hp]
    unfold OwnZ at hO
    rw [eP] at hO hg1 ⊢
    clear hlen hp
    have HP := hidOf eP
    clear eP
    by_cases hlt : j < m
    · have hjK : j < K.length := by rw [HM.out]; exact hlt
      have i3 : (j : Int) < (m : Int) := by omega
      have i4 : (0 : Int) ≤ (j : Int) := by omega
      obtain ⟨ub, uo, hub, hubl, d0⟩ := int_at hu j (by rw [toI_len]; exact hjK)
      subst hub
      have eJ : (toI K)[j]'(by rw [toI_len]; exact hjK) = ((K.getD j 0 : Nat) : Int) := by simp [toI, hjK]
      rw [eJ] at d0
      have hmem : K.getD j 0 ∈ K := by simp [hjK]
      obtain ⟨c, hc⟩ : ∃ c, K.getD j 0 = c := ⟨_, rfl⟩
      have hstep := HST.out j hjK
      rw [hc] at d0 hmem hstep
      obtain ⟨m1, m2, m3, m4⟩ := HMEM.out c hmem
      have hcall := hrec c m1 m3
      have hbl := HBL.out c hmem
      clear hrec eJ hc
      cases ha : nA l x with
      | true =>
        rw [if_pos (.inl ha)] at hstep
        rw [ha] at c4
        have HS := hidOf hstep
        clear hstep ha
        go_wp2_with (first
          | (go_at_call 74; refine (hcall _ hb).mono ?_; rintro e w2 ⟨sa, sn, sc, rfl, hO2, b2⟩; have hOk := ownZ_keep (l := toI (bdJ l f x j)) (v := .slice va p vc) (by unfold OwnZ; rw [HP.out]; exact hO) b2; unfold OwnZ at hOk; rw [HP.out] at hOk; obtain ⟨sa', sc', hsf, _, _⟩ := ownZ_form hO2; simp only [Value.slice.injEq] at hsf; obtain ⟨rfl, rfl, rfl⟩ := hsf; have hsrc := src_zs hO2.k.rdz; have hsb : wr.heap.size ≤ w2.heap.size := b2.size)
          | (at_builtin; refine wpList_append_at _ rfl _ _ 59 59 rfl w.heap.size 3 i0 (.int .i64 0) 1 8 Try.underlying59 hi hz0 hz1 hz2 rfl (.slice va p vc) p _ rfl hOk _ _ _ rfl hsrc (toI (bdL l f c)).length (.inr (by rw [toI_len]; omega)) (Nat.le_refl _) (by rw [toI_len]; unfold maxLen; omega) (Nat.le_trans hb.size hsb) ?_; intro vb wb hOb hgb hat)
          | fail)
        have hOb2 : OwnZ wb w.heap.size vb (toI (bdJ l f x (j + 1))) := by
          unfold OwnZ
          rw [HS.out, toI_app, List.length_append, HP.out, List.map_append]
          exact hOb
        have hbb : Below w.heap.size w wb := (hb.trans (b2.mono hb.size)).grown hgb (Nat.le_trans hb.size hsb) (fun k hk => (ownsRow_lt hOk k hk).1)
        have hub : RdZs (fun b => wx.heap.size ≤ b ∧ b < w1.heap.size) wb (toI K) (.slice (some ⟨ub, uo, none⟩) m uc) := (hu.on kp_int b2).stay kp_int (fun b hb hl => ⟨hb, hgb.block b hl (fun e => by rcases hg1 b e.symm with h | h <;> omega)⟩)
        have hgb2 : ∀ g, vb.ownBlock = some g → g < wx.heap.size ∨ w1.heap.size ≤ g := fun g hg => by
          rcases hat with h | h
          · exact hg1 g (h ▸ hg)
          · rw [h] at hg
            have := Option.some.inj hg
            exact .inr (by omega)
        have hsw : w1.heap.size ≤ wb.heap.size := Nat.le_trans (Nat.le_trans hs1 hsb) hgb.size
        clear hOk hO2 hsrc hOb hgb hat hO hu
        go_wp2
        go_roundw
        case rel => exact ⟨j + 1, hlt, by go_num, hOb2, hub, hbb, hsw, hgb2⟩
        case measure => simp [RowKit.intOf]; omega
      | false =>
        rw [ha] at c4
        by_cases hj0 : j = 0
        · rw [if_pos (.inr hj0)] at hstep
          have i5 : ((j : Int) == 0) = true := by simp [hj0]
          have HS := hidOf hstep
          clear hstep ha hj0
          go_wp2_with (first
            | (go_at_call 74; refine (hcall _ hb).mono ?_; rintro e w2 ⟨sa, sn, sc, rfl, hO2, b2⟩; have hOk := ownZ_keep (l := toI (bdJ l f x j)) (v := .slice va p vc) (by unfold OwnZ; rw [HP.out]; exact hO) b2; unfold OwnZ at hOk; rw [HP.out] at hOk; obtain ⟨sa', sc', hsf, _, _⟩ := ownZ_form hO2; simp only [Value.slice.injEq] at hsf; obtain ⟨rfl, rfl, rfl⟩ := hsf; have hsrc := src_zs hO2.k.rdz; have hsb : wr.heap.size ≤ w2.heap.size := b2.size)
            | (at_builtin; refine wpList_append_at _ rfl _ _ 59 59 rfl w.heap.size 3 i0 (.int .i64 0) 1 8 Try.underlying59 hi hz0 hz1 hz2 rfl (.slice va p vc) p _ rfl hOk _ _ _ rfl hsrc (toI (bdL l f c)).length (.inr (by rw [toI_len]; omega)) (Nat.le_refl _) (by rw [toI_len]; unfold maxLen; omega) (Nat.le_trans hb.size hsb) ?_; intro vb wb hOb hgb hat)
            | fail)
          have hOb2 : OwnZ wb w.heap.size vb (toI (bdJ l f x (j + 1))) := by
            unfold OwnZ
            rw [HS.out, toI_app, List.length_append, HP.out, List.map_append]
            exact hOb
          have hbb : Below w.heap.size w wb := (hb.trans (b2.mono hb.size)).grown hgb (Nat.le_trans hb.size hsb) (fun k hk => (ownsRow_lt hOk k hk).1)
          have hub : RdZs (fun b => wx.heap.size ≤ b ∧ b < w1.heap.size) wb (toI K) (.slice (some ⟨ub, uo, none⟩) m uc) := (hu.on kp_int b2).stay kp_int (fun b hb hl => ⟨hb, hgb.block b hl (fun e => by rcases hg1 b e.symm with h | h <;> omega)⟩)
          have hgb2 : ∀ g, vb.ownBlock = some g → g < wx.heap.size ∨ w1.heap.size ≤ g := fun g hg => by
            rcases hat with h | h
            · exact hg1 g (h ▸ hg)
            · rw [h] at hg
              have := Option.some.inj hg
              exact .inr (by omega)
          have hsw : w1.heap.size ≤ wb.heap.size := Nat.le_trans (Nat.le_trans hs1 hsb) hgb.size
          clear hOk hO2 hsrc hOb hgb hat hO hu
          go_wp2
          go_roundw
          case rel => exact ⟨j + 1, hlt, by go_num, hOb2, hub, hbb, hsw, hgb2⟩
          case measure => simp [RowKit.intOf]; omega
        · rw [if_neg (by rw [ha]; simp [hj0])] at hstep
          have i5 : ((j : Int) == 0) = false := beq_eq_false_iff_ne.2 (by omega)
          have hO3 : OwnZ wr w.heap.size (.slice va p vc) (toI (bdJ l f x (j + 1))) := by rw [hstep]; unfold OwnZ; rw [HP.out]; exact hO
          clear hstep ha hj0
          go_wp2
          go_roundw
          case rel => exact ⟨j + 1, hlt, by go_num, hO3, hu, hb, hs1, hg1⟩
          case measure => simp [RowKit.intOf]; omega
    · have i3 : ¬ (j : Int) < (m : Int) := by omega
      obtain rfl : j = m := by omega
      go_wp2
      go_ret
      refine ⟨_, _, _, rfl, ?_, hb⟩
      unfold OwnZ
      rw [← HEN.out, HP.out]
      exact hO

theorem bd_all {l : List Nd} (hf : fmB l = true) : ∀ f, BdC l f
  | 0 => fun _ _ _ x _ hx h => by omega
  | f + 1 => bd_step hf f (bd_all hf f)
def TwC (l : List Nd) (i f : Nat) : Prop := ∀ (ok : Nat → Prop) (w : World) (v : Value) (x : Nat), RdNd ok w l v → x < l.length → l.length - x ≤ f → hoB l x i = true →
  Calls Try.prog 66 #[v, .int .i64 (x : Int), .int .i64 (i : Int)] w fun e w' => ∃ a n c, e = .returned (.slice a n c) ∧ OwnZ w' w.heap.size (.slice a n c) (toI (twL l i f x)) ∧ Below w.heap.size w w'
def twG (l : List Nd) (i f x c : Nat) : List Nat := if wiB l i c then twL l i f c else if nA l x then bdL l f c else []
def twJ (l : List Nd) (i f x j : Nat) : List Nat := x :: ((innN l x).take j).flatMap (twG l i f x)
theorem twJ_end (l : List Nd) (i f x : Nat) (hne : x ≠ i) : twJ l i f x (innN l x).length = twL l i (f + 1) x := by
  unfold twJ twL
  rw [if_neg hne, List.take_of_length_le (Nat.le_refl _)]
  rfl
theorem twJ_step (l : List Nd) (i f x j : Nat) (hj : j < (innN l x).length) : twJ l i f x (j + 1) = twJ l i f x j ++ twG l i f x ((innN l x).getD j 0) := by
  rw [show (innN l x).getD j 0 = (innN l x)[j] by simp [hj]]
  unfold twJ
  rw [List.take_succ_eq_append_getElem hj, List.flatMap_append]
  simp
theorem twJ_le {l : List Nd} (hf : fmB l = true) {i f x j : Nat} (hin : i < l.length) (hx : x < l.length) (h : l.length - x ≤ f + 1) (hi : hoB l x i = true) (hne : x ≠ i) : (twJ l i f x j).length ≤ 40 := by
  have h1 := tsL_len hf i hx
  rw [← tw_ts hf hin (f + 1) x hx h hi, ← twJ_end l i f x hne] at h1
  refine Nat.le_trans ?_ h1
  unfold twJ
  rw [List.length_cons, List.length_cons, Nat.add_le_add_iff_right]
  rw [List.take_of_length_le (Nat.le_refl (innN l x).length)]
  have e : (innN l x).flatMap (twG l i f x) = ((innN l x).take j).flatMap (twG l i f x) ++ ((innN l x).drop j).flatMap (twG l i f x) := by rw [← List.flatMap_append, List.take_append_drop]
  rw [e, List.length_append]
  omega
set_option maxRecDepth 100000 in
set_option maxHeartbeats 8000000 in
theorem tw_step {l : List Nd} (hf : fmB l = true) {i : Nat} (hin : i < l.length) (f : Nat) (IH : TwC l i f) : TwC l i (f + 1) := by
  intro ok w v x h hx hfu hho
  obtain ⟨a, cap, rfl, hlc, hcm⟩ := h.form
  unfold maxLen at hcm
  have h40 := fm_40 hf
  by_cases hxi : x = i
  · subst hxi
    have hbd := bd_all hf (f + 1) ok w _ x h hx hfu
    have e : twL l x (f + 1) x = bdL l (f + 1) x := by
      show (if x = x then bdL l (f + 1) x else _) = _
      rw [if_pos rfl]
    rw [e]
    clear h
    go_enter Try.func66, Try.ntmps66
    go_wp2_with (first | (go_at_call 74; refine hbd.mono ?_; rintro e w1 ⟨sa, sn, sc, rfl, hO2, b2⟩) | fail)
    go_ret
    exact ⟨_, _, _, rfl, hO2, b2⟩
  have q1 : ((x : Int) == (i : Int)) = false := beq_eq_false_iff_ne.2 (by omega)
  have hinr := fun w1 (b1 : Below w.heap.size w w1) => innerR_any (h.on kp_nd b1) (x : Int)
  simp only [inB_nat hf] at hinr
  have hwi := fun (c : Nat) w1 (b1 : Below w.heap.size w w1) => withinR_any (h.on kp_nd b1) (i : Int) (c : Int)
  have hrec := fun (c : Nat) (hc : c < l.length) (hcx : x < c) (hh : hoB l c i = true) w1 (b1 : Below w.heap.size w w1) => IH (fun b => ok b) w1 _ c (h.on kp_nd b1) hc (by omega) hh
  have hrbd := fun (c : Nat) (hc : c < l.length) (hcx : x < c) w1 (b1 : Below w.heap.size w w1) => bd_all hf f (fun b => ok b) w1 _ c (h.on kp_nd b1) hc (by omega)
  obtain ⟨b, off, rfl, hbl0, c0, c1, c2, c3, c4, c5, c6⟩ := nd_at h x hx
  clear c0 c1 c2 c3 c5 c6
  have hA : (nAt l x).2.2.1 = nA l x := rfl
  rw [hA] at c4
  have HST := hidOf (fun j hj => twJ_step l i f x j hj)
  have HEN := hidOf (twJ_end l i f x hxi)
  have HLE := fun j => twJ_le hf (j := j) hin hx hfu hho hxi
  have HMEM := hidOf (fun c (hc : c ∈ innN l x) => innN_mem hf hc)
  have HWI := hidOf (fun c (hc : c ∈ innN l x) => wiB_hoB hf hin (innN_mem hf hc).1)
  have HBL := hidOf (fun c (hc : c ∈ innN l x) => bdL_len hf (f := f) (innN_mem hf hc).1 (by have := (innN_mem hf hc).2.2.1; have := (innN_mem hf hc).1; omega))
  have HTL := hidOf (fun c (hc : c ∈ innN l x) (hh : hoB l c i = true) => (show (twL l i f c).length ≤ 40 by rw [tw_ts hf hin f c (innN_mem hf hc).1 (by have := (innN_mem hf hc).2.2.1; have := (innN_mem hf hc).1; omega) hh]; exact tsL_len hf i (innN_mem hf hc).1))
  have hil := innN_len l x
  obtain ⟨n, hn⟩ : ∃ n, l.length = n := ⟨_, rfl⟩
  rw [hn] at hlc h40 hil hx hfu ⊢
  simp only [hn] at hinr hrec HMEM hwi hrbd
  clear hn h
  obtain ⟨K, hK⟩ : ∃ K, innN l x = K := ⟨_, rfl⟩
  simp only [hK] at hinr HST HEN HMEM HBL hil HWI HTL
  clear hK
  obtain ⟨m, hm⟩ : ∃ m, K.length = m := ⟨_, rfl⟩
  rw [hm] at hil HEN
  have HM := hidOf hm
  clear hm hA hxi
  have i1 : (x : Int) < n := by omega
  have i2 : (0 : Int) ≤ (x : Int) := by omega
  obtain ⟨i0, hi, hz0, hz1, hz2⟩ := info_int
  have hal : Below w.heap.size w (w.alloc (.cells #[.int .i64 (x : Int)] 3)) := (Below.refl _ _).alloc (Nat.le_refl _) _
  have hO0 : OwnZ (w.alloc (.cells #[.int .i64 (x : Int)] 3)) w.heap.size (.slice (some ⟨w.heap.size, 0, none⟩) 1 1) (toI (twJ l i f x 0)) := by
    have := ownZ_one w (x : Int) _ rfl w.heap.size (Nat.le_refl _)
    simpa [twJ, toI] using this
  have hsx : (w.alloc (.cells #[.int .i64 (x : Int)] 3)).heap.size = w.heap.size + 1 := by simp
  go_enter Try.func66, Try.ntmps66
  go_upto_region 4 with fail
  generalize w.alloc (.cells #[.int .i64 (x : Int)] 3) = wx at *
  go_upto_region 5 with (first | (go_at_call 75; refine (hinr _ hal).mono ?_; rintro e w1 ⟨u, rfl, hu, b1⟩; obtain ⟨ua, uc, rfl, hu1, hu2⟩ := hu.form) | fail)
  have hb1 := hal.trans (b1.mono hal.size)
  have hO1 := ownZ_keep hO0 b1
  rw [toI_len, HM.out] at hu1
  unfold maxLen at hu2
  have HU := hidOf (hu.stay kp_int (ok' := fun b => wx.heap.size ≤ b ∧ b < w1.heap.size) (w' := w1) (fun b hb hl => ⟨⟨hb, hl⟩, rfl⟩))
  clear hinr hu b1 hO0
  have eU : (toI K).length = m := by rw [toI_len, HM.out]
  rw [eU]
  go_wp2
  go_loopw [7, 23] (fun t ix wr => ∃ (j : Nat), j ≤ m ∧ ix = .int .i64 (j : Int) ∧ OwnZ wr w.heap.size t (toI (twJ l i f x j)) ∧ RdZs (fun b => wx.heap.size ≤ b ∧ b < w1.heap.size) wr (toI K) (.slice ua m uc) ∧ Below w.heap.size w wr ∧ w1.heap.size ≤ wr.heap.size ∧ (∀ g, t.ownBlock = some g → g < wx.heap.size ∨ w1.heap.size ≤ g)) (fun _ ix _ => m - (RowKit.intOf ix).toNat)
  case atStart => exact ⟨0, Nat.zero_le _, rfl, hO1, by rw [← eU]; exact HU.out, hb1, Nat.le_refl _, fun g hg => .inl (by have h1 : some w.heap.size = some g := hg; have := Option.some.inj h1; omega)⟩
  case round =>
    clear hO1 hb1
    obtain ⟨j, hj, rfl, hO, hu, hb, hs1, hg1⟩ := hrel
    obtain ⟨va, vc, hvf, hvl, hvm⟩ := ownZ_form hO
    subst hvf
    have hLj := HLE j
    have hlen : (toI (twJ l i f x j)).length = (twJ l i f x j).length := toI_len _
    obtain ⟨p, hp⟩ : ∃ p, (twJ l i f x j).length = p := ⟨_, rfl⟩
    rw [hlen, hp] at hvl
    rw [hp] at hLj
    have eP : (toI (twJ l i f x j)).length = p := by rw [hlen, hp]
    unfold OwnZ at hO
    rw [eP] at hO hg1 ⊢
    clear hlen hp
    have HP := hidOf eP
    clear eP
    by_cases hlt : j < m
    · have hjK : j < K.length := by rw [HM.out]; exact hlt
      have i3 : (j : Int) < (m : Int) := by omega
      have i4 : (0 : Int) ≤ (j : Int) := by omega
      obtain ⟨ub, uo, hub, hubl, d0⟩ := int_at hu j (by rw [toI_len]; exact hjK)
      subst hub
      have eJ : (toI K)[j]'(by rw [toI_len]; exact hjK) = ((K.getD j 0 : Nat) : Int) := by simp [toI, hjK]
      rw [eJ] at d0
      have hmem : K.getD j 0 ∈ K := by simp [hjK]
      obtain ⟨c, hc⟩ : ∃ c, K.getD j 0 = c := ⟨_, rfl⟩
      have hstep := HST.out j hjK
      rw [hc] at d0 hmem hstep
      obtain ⟨m1, m2, m3, m4⟩ := HMEM.out c hmem
      have hw0 := HWI.out c hmem
      have hwc := hwi c _ hb
      have hct := hrec c m1 m3
      have hcb := hrbd c m1 m3
      have hlb := HBL.out c hmem
      have hlt2 := HTL.out c hmem
      clear hrec hrbd hwi eJ hc
      unfold twG at hstep
      cases hh : hoB l c i with
      | true =>
        rw [hw0, hh] at hwc
        rw [hw0, hh, if_pos rfl] at hstep
        have hcall := hct hh
        have hlr := hlt2 hh
        have HS := hidOf hstep
        clear hstep hh hct hcb hlt2 hw0
        go_upto_region 9 with (first | (go_at_call 65; refine hwc.mono ?_; rintro e w5 ⟨rfl, rfl⟩) | fail)
        have b5 := Below.refl wr.heap.size wr
        have hb5 := hb.trans (b5.mono hb.size)
        have hO5 : OwnZ wr w.heap.size (.slice va p vc) (toI (twJ l i f x j)) := ownZ_keep (by unfold OwnZ; rw [HP.out]; exact hO) b5
        have hu5 := hu.on kp_int b5
        have hs5 : w1.heap.size ≤ wr.heap.size := Nat.le_trans hs1 b5.size
        replace c4 := (hb5.cell (p := ⟨b, off + x * 7 + 4, none⟩) hbl0).trans c4
        replace d0 := (b5.cell (p := ⟨ub, uo + j, none⟩) hubl).trans d0
        clear hO hu hb hs1 b5 hwc
        go_wp2_with (first
          | (go_at_call 66; refine (hcall _ hb5).mono ?_; rintro e w2 ⟨sa, sn, sc, rfl, hO2, b2⟩; have hOk := ownZ_keep hO5 b2; unfold OwnZ at hOk; rw [HP.out] at hOk; obtain ⟨sa', sc', hsf, _, _⟩ := ownZ_form hO2; simp only [Value.slice.injEq] at hsf; obtain ⟨rfl, rfl, rfl⟩ := hsf; have hsrc := src_zs hO2.k.rdz; have hsb : wr.heap.size ≤ w2.heap.size := b2.size)
          | (at_builtin; refine wpList_append_at _ rfl _ _ 59 59 rfl w.heap.size 3 i0 (.int .i64 0) 1 8 Try.underlying59 hi hz0 hz1 hz2 rfl (.slice va p vc) p _ rfl hOk _ _ _ rfl hsrc (toI (twL l i f c)).length (.inr (by rw [toI_len]; omega)) (Nat.le_refl _) (by rw [toI_len]; unfold maxLen; omega) (Nat.le_trans hb5.size hsb) ?_; intro vb wb hOb hgb hat)
          | fail)
        have hOb2 : OwnZ wb w.heap.size vb (toI (twJ l i f x (j + 1))) := by
          unfold OwnZ
          rw [HS.out, toI_app, List.length_append, HP.out, List.map_append]
          exact hOb
        have hbb : Below w.heap.size w wb := (hb5.trans (b2.mono hb5.size)).grown hgb (Nat.le_trans hb5.size hsb) (fun k hk => (ownsRow_lt hOk k hk).1)
        have hub : RdZs (fun b => wx.heap.size ≤ b ∧ b < w1.heap.size) wb (toI K) (.slice (some ⟨ub, uo, none⟩) m uc) := (hu5.on kp_int b2).stay kp_int (fun b hb hl => ⟨hb, hgb.block b hl (fun e => by rcases hg1 b e.symm with h | h <;> omega)⟩)
        have hgb2 : ∀ g, vb.ownBlock = some g → g < wx.heap.size ∨ w1.heap.size ≤ g := fun g hg => by
          rcases hat with h | h
          · exact hg1 g (h ▸ hg)
          · rw [h] at hg
            have := Option.some.inj hg
            exact .inr (by omega)
        have hsw : w1.heap.size ≤ wb.heap.size := Nat.le_trans (Nat.le_trans hs5 hsb) hgb.size
        clear hOk hO2 hsrc hOb hgb hat hO5 hu5
        go_wp2
        go_roundw
        case rel => exact ⟨j + 1, hlt, by go_num, hOb2, hub, hbb, hsw, hgb2⟩
        case measure => simp [RowKit.intOf]; omega
      | false =>
        rw [hw0, hh] at hwc
        rw [hw0, hh, if_neg (by simp)] at hstep
        clear hct hlt2 hw0 hh
        cases ha : nA l x with
        | true =>
          rw [ha, if_pos rfl] at hstep
          rw [ha] at c4
          have hcall := hcb
          have hlr := hlb
          have HS := hidOf hstep
          clear hstep ha hcb
          go_upto_region 10 with (first | (go_at_call 65; refine hwc.mono ?_; rintro e w5 ⟨rfl, rfl⟩) | fail)
          have b5 := Below.refl wr.heap.size wr
          have hb5 := hb.trans (b5.mono hb.size)
          have hO5 : OwnZ wr w.heap.size (.slice va p vc) (toI (twJ l i f x j)) := ownZ_keep (by unfold OwnZ; rw [HP.out]; exact hO) b5
          have hu5 := hu.on kp_int b5
          have hs5 : w1.heap.size ≤ wr.heap.size := Nat.le_trans hs1 b5.size
          replace c4 := (hb5.cell (p := ⟨b, off + x * 7 + 4, none⟩) hbl0).trans c4
          replace d0 := (b5.cell (p := ⟨ub, uo + j, none⟩) hubl).trans d0
          clear hO hu hb hs1 b5 hwc
          go_wp2_with (first
            | (go_at_call 74; refine (hcall _ hb5).mono ?_; rintro e w2 ⟨sa, sn, sc, rfl, hO2, b2⟩; have hOk := ownZ_keep hO5 b2; unfold OwnZ at hOk; rw [HP.out] at hOk; obtain ⟨sa', sc', hsf, _, _⟩ := ownZ_form hO2; simp only [Value.slice.injEq] at hsf; obtain ⟨rfl, rfl, rfl⟩ := hsf; have hsrc := src_zs hO2.k.rdz; have hsb : wr.heap.size ≤ w2.heap.size := b2.size)
            | (at_builtin; refine wpList_append_at _ rfl _ _ 59 59 rfl w.heap.size 3 i0 (.int .i64 0) 1 8 Try.underlying59 hi hz0 hz1 hz2 rfl (.slice va p vc) p _ rfl hOk _ _ _ rfl hsrc (toI (bdL l f c)).length (.inr (by rw [toI_len]; omega)) (Nat.le_refl _) (by rw [toI_len]; unfold maxLen; omega) (Nat.le_trans hb5.size hsb) ?_; intro vb wb hOb hgb hat)
            | fail)
          have hOb2 : OwnZ wb w.heap.size vb (toI (twJ l i f x (j + 1))) := by
            unfold OwnZ
            rw [HS.out, toI_app, List.length_append, HP.out, List.map_append]
            exact hOb
          have hbb : Below w.heap.size w wb := (hb5.trans (b2.mono hb5.size)).grown hgb (Nat.le_trans hb5.size hsb) (fun k hk => (ownsRow_lt hOk k hk).1)
          have hub : RdZs (fun b => wx.heap.size ≤ b ∧ b < w1.heap.size) wb (toI K) (.slice (some ⟨ub, uo, none⟩) m uc) := (hu5.on kp_int b2).stay kp_int (fun b hb hl => ⟨hb, hgb.block b hl (fun e => by rcases hg1 b e.symm with h | h <;> omega)⟩)
          have hgb2 : ∀ g, vb.ownBlock = some g → g < wx.heap.size ∨ w1.heap.size ≤ g := fun g hg => by
            rcases hat with h | h
            · exact hg1 g (h ▸ hg)
            · rw [h] at hg
              have := Option.some.inj hg
              exact .inr (by omega)
          have hsw : w1.heap.size ≤ wb.heap.size := Nat.le_trans (Nat.le_trans hs5 hsb) hgb.size
          clear hOk hO2 hsrc hOb hgb hat hO5 hu5
          go_wp2
          go_roundw
          case rel => exact ⟨j + 1, hlt, by go_num, hOb2, hub, hbb, hsw, hgb2⟩
          case measure => simp [RowKit.intOf]; omega
        | false =>
          rw [ha, if_neg (by simp), List.append_nil] at hstep
          rw [ha] at c4
          have HS := hidOf hstep
          clear hstep ha hcb
          go_upto_region 10 with (first | (go_at_call 65; refine hwc.mono ?_; rintro e w5 ⟨rfl, rfl⟩) | fail)
          have b5 := Below.refl wr.heap.size wr
          have hb5 := hb.trans (b5.mono hb.size)
          have hO3 : OwnZ wr w.heap.size (.slice va p vc) (toI (twJ l i f x (j + 1))) := by rw [HS.out]; exact ownZ_keep (by unfold OwnZ; rw [HP.out]; exact hO) b5
          have hu5 := hu.on kp_int b5
          have hs5 : w1.heap.size ≤ wr.heap.size := Nat.le_trans hs1 b5.size
          replace c4 := (hb5.cell (p := ⟨b, off + x * 7 + 4, none⟩) hbl0).trans c4
          go_wp2
          go_roundw
          case rel => exact ⟨j + 1, hlt, by go_num, hO3, hu5, hb5, hs5, hg1⟩
          case measure => simp [RowKit.intOf]; omega
    · have i3 : ¬ (j : Int) < (m : Int) := by omega
      obtain rfl : j = m := by omega
      go_wp2
      go_ret
      refine ⟨_, _, _, rfl, ?_, hb⟩
      unfold OwnZ
      rw [← HEN.out, HP.out]
      exact hO
theorem tw_all {l : List Nd} (hf : fmB l = true) {i : Nat} (hin : i < l.length) : ∀ f, TwC l i f
  | 0 => fun _ _ _ x _ hx h => by omega
  | f + 1 => tw_step hf hin f (tw_all hf hin f)
end Go.Proofs.Ytbccdkhbplmknaa
