
/- What the document's Find, Within, Meet, Inner, Ints answer. -/
import Derived.Test.YtdekboacjjpjeaaTrW
namespace Go.Proofs.Ytdekboacjjpjeaa
open Go.RowKit Go.Lib
set_option linter.unusedSimpArgs false
set_option linter.unusedVariables false
attribute [local go_sem ↓] Go.wp_at_zero Go.wp_at_succ

set_option maxRecDepth 100000 in
set_option maxHeartbeats 4000000 in
theorem findR_any {ok : Nat → Prop} {w : World} {l : List Nd} {v : Value} (h : RdNd ok w l v) (s : ByteArray) :
    Calls Try.prog 20 #[v, .string s] w fun e w' => e = .returned (.int .i64 (fdB l s)) ∧ w = w' := by
  obtain ⟨a, cap, rfl, hlc, hcm⟩ := h.form
  unfold maxLen at hcm
  have hfm := formedR_any h
  unfold fdB
  cases hf : fmB l with
  | false =>
    rw [hf] at hfm
    rw [if_neg (by simp)]
    clear hf
    go_enter Try.func20, Try.ntmps20
    go_wp2_with (first | (go_at_call 18; refine hfm.mono ?_; rintro e w1 ⟨rfl, rfl⟩) | fail)
    go_ret
    exact ⟨rfl, rfl⟩
  | true =>
    have h40 := fm_40 hf
    rw [hf] at hfm
    rw [if_pos rfl]
    clear hf
    have HC := hidOf h
    obtain ⟨V, hV⟩ : ∃ V, fdF l s l.length 0 = V := ⟨_, rfl⟩
    rw [hV]
    obtain ⟨n, hn⟩ : ∃ n, l.length = n := ⟨_, rfl⟩
    rw [hn] at hlc h40 hV hfm ⊢
    have HN := hidOf hn
    have HV : Hid (fdF l s (n - 0) 0 = V) := hV
    clear h hn hV
    go_enter Try.func20, Try.ntmps20
    go_wp2_with (first | (go_at_call 18; refine hfm.mono ?_; rintro e w1 ⟨rfl, rfl⟩) | fail)
    clear hfm
    go_loop [11] (fun ix => ∃ (j : Nat), j ≤ n ∧ ix = .int .i64 (j : Int) ∧ Hid (fdF l s (n - j) j = V)) (fun ix => n - (RowKit.intOf ix).toNat)
    case atStart => exact ⟨0, Nat.zero_le _, rfl, HV⟩
    case round =>
      obtain ⟨j, hj, rfl, HI⟩ := hrel
      by_cases hlt : j < n
      · obtain ⟨b, off, rfl, hbl, c0, c1, c2, c3, c4, c5, c6⟩ := nd_at HC.out j (by rw [HN.out]; exact hlt)
        have HI2 : Hid ((if (nAt l j).1 = s then (j : Int) else fdF l s (n - (j + 1)) (j + 1)) = V) := by
          have := HI.out
          have e : n - j = (n - (j + 1)) + 1 := by omega
          rw [e, fdF] at this
          exact this
        generalize (nAt l j).1 = x0 at *
        clear c1 c2 c3 c4 c5 c6
        have i1 : (j : Int) < (n : Int) := by omega
        have i2 : (0 : Int) ≤ (j : Int) := by omega
        by_cases he : x0 = s
        · have hVj : V = (j : Int) := by rw [← HI2.out, if_pos he]
          subst hVj
          subst he
          go_wp2
          go_ret
          exact ⟨rfl, rfl⟩
        · have HV2 : Hid (fdF l s (n - (j + 1)) (j + 1) = V) := by have := HI2.out; rw [if_neg he] at this; exact this
          have he2 : (x0.toList == s.toList) = false := by
            rw [beq_eq_false_iff_ne]
            intro h
            have h' : x0.data.toList = s.data.toList := by rw [← ByteArray.toList_eq, ← ByteArray.toList_eq]; exact h
            exact he (ByteArray.ext (Array.toList_inj.1 h'))
          clear he
          go_wp2
          go_round
          case rel => exact ⟨j + 1, hlt, by go_num, HV2⟩
          case measure => simp [RowKit.intOf]; omega
      · have i1 : ¬ (j : Int) < (n : Int) := by omega
        have hV : V = -1 := by
          rw [← HI.out]
          have : n - j = 0 := by omega
          rw [this]; rfl
        subst hV
        go_wp2
        go_ret
        exact ⟨rfl, rfl⟩
theorem wiB_cases {l : List Nd} (hf : fmB l = true) (i j : Int) :
    wiB l i j = (if i ≠ -1 ∧ nmB l.length i = false then false else if j ≠ -1 ∧ nmB l.length j = false then false else decide (j = -1) || decide (i = j) || (decide (0 ≤ i) && lsP (nB l) i j)) := by
  unfold wiB
  rw [hf, Bool.true_and]
  have hm1 : nmB l.length (-1) = false := nmB_no (fun h => by omega)
  by_cases hj : j = -1
  · subst hj
    rw [if_pos rfl]
    by_cases hi : i = -1
    · subst hi; simp
    · rw [decide_eq_false hi, Bool.false_or]
      cases h1 : nmB l.length i with
      | false => rw [if_pos ⟨hi, rfl⟩]
      | true => simp
  · rw [if_neg hj]
    cases h2 : nmB l.length j with
    | false =>
      rw [Bool.and_false, Bool.false_and]
      split
      · rfl
      · rw [if_pos ⟨hj, rfl⟩]
    | true =>
      rw [Bool.and_true]
      cases h1 : nmB l.length i with
      | false =>
        rw [Bool.false_and]
        by_cases hi : i = -1
        · subst hi
          rw [if_neg (by simp), if_neg (by simp), decide_eq_false hj, decide_eq_false (fun e => hj e.symm)]
          simp
        · rw [if_pos ⟨hi, rfl⟩]
      | true =>
        obtain ⟨k, rfl, hk⟩ := nmB_true h1
        rw [if_neg (by simp), if_neg (by simp), decide_eq_false hj]
        simp
set_option maxRecDepth 100000 in
set_option maxHeartbeats 4000000 in
theorem withinR_any {ok : Nat → Prop} {w : World} {l : List Nd} {v : Value} (h : RdNd ok w l v) (i j : Int) :
    Calls Try.prog 22 #[v, .int .i64 i, .int .i64 j] w fun e w' => e = .returned (.bool (wiB l i j)) ∧ w = w' := by
  obtain ⟨a, cap, rfl, hlc, hcm⟩ := h.form
  have hfm := formedR_any h
  have hnm := fun i => stateR_any (w := w) (a := a) i hlc hcm
  have hli := fun k (hk : k < l.length) (j : Int) => lies_any h hk j
  unfold maxLen at hcm
  cases hf : fmB l with
  | false =>
    rw [hf] at hfm
    have e : wiB l i j = false := by unfold wiB; rw [hf]; rfl
    rw [e]
    clear hf hli hnm e
    go_enter Try.func22, Try.ntmps22
    go_wp2_with (first | (go_at_call 18; refine hfm.mono ?_; rintro e w1 ⟨rfl, rfl⟩) | fail)
    go_ret
    exact ⟨rfl, rfl⟩
  | true =>
  have hFM := fmB_fm hf
  rw [wiB_cases hf]
  rw [hf] at hfm
  clear hf
  have hn1 := fun (_ : Unit) => hnm i
  have hn2 := fun (_ : Unit) => hnm j
  clear hnm
  by_cases hb1 : i ≠ -1 ∧ nmB l.length i = false
  · rw [if_pos hb1]
    have hi2 : (i == -1) = false := beq_eq_false_iff_ne.2 hb1.1
    have hi3 : (i != -1) = true := by simp [bne, hi2]
    rw [hb1.2] at hn1
    clear hb1 hli
    go_enter Try.func22, Try.ntmps22
    go_wp2_with (first | (go_at_call 18; refine hfm.mono ?_; rintro e w1 ⟨rfl, rfl⟩) | (go_at_call 41; refine (hn1 ()).mono ?_; clear hn1; rintro e w1 ⟨rfl, rfl⟩) | fail)
    go_ret
    exact ⟨rfl, rfl⟩
  rw [if_neg hb1]
  have hi4 : i = -1 ∨ ((i == -1) = false ∧ (i != -1) = true ∧ nmB l.length i = true) := by
    by_cases hi : i = -1
    · exact .inl hi
    · refine .inr ⟨beq_eq_false_iff_ne.2 hi, by simp [bne, beq_eq_false_iff_ne.2 hi], ?_⟩
      cases h1 : nmB l.length i with
      | false => exact absurd ⟨hi, h1⟩ hb1
      | true => rfl
  clear hb1
  by_cases hb2 : j ≠ -1 ∧ nmB l.length j = false
  · rw [if_pos hb2]
    have hj2 : (j == -1) = false := beq_eq_false_iff_ne.2 hb2.1
    have hj3 : (j != -1) = true := by simp [bne, hj2]
    rw [hb2.2] at hn2
    clear hb2 hli
    rcases hi4 with rfl | ⟨hi5, hi6, hi7⟩
    · go_enter Try.func22, Try.ntmps22
      go_wp2_with (first | (go_at_call 18; refine hfm.mono ?_; rintro e w1 ⟨rfl, rfl⟩) | (go_at_call 41; refine (hn2 ()).mono ?_; clear hn2; rintro e w1 ⟨rfl, rfl⟩) | fail)
      go_ret
      exact ⟨rfl, rfl⟩
    · rw [hi7] at hn1
      clear hi7
      go_enter Try.func22, Try.ntmps22
      go_wp2_with (first | (go_at_call 18; refine hfm.mono ?_; rintro e w1 ⟨rfl, rfl⟩) | (go_at_call 41; refine (hn1 ()).mono ?_; clear hn1; rintro e w1 ⟨rfl, rfl⟩) | (go_at_call 41; refine (hn2 ()).mono ?_; clear hn2; rintro e w1 ⟨rfl, rfl⟩) | fail)
      go_ret
      exact ⟨rfl, rfl⟩
  rw [if_neg hb2]
  have hj4 : j = -1 ∨ ((j == -1) = false ∧ (j != -1) = true ∧ nmB l.length j = true ∧ decide (j = -1) = false) := by
    by_cases hj : j = -1
    · exact .inl hj
    · refine .inr ⟨beq_eq_false_iff_ne.2 hj, by simp [bne, beq_eq_false_iff_ne.2 hj], ?_, decide_eq_false hj⟩
      cases h1 : nmB l.length j with
      | false => exact absurd ⟨hj, h1⟩ hb2
      | true => rfl
  clear hb2
  rcases hj4 with rfl | ⟨hj5, hj6, hj7, hj8⟩
  · rw [decide_eq_true rfl, Bool.true_or, Bool.true_or]
    clear hli
    rcases hi4 with rfl | ⟨hi5, hi6, hi7⟩
    · go_enter Try.func22, Try.ntmps22
      go_wp2_with (first | (go_at_call 18; refine hfm.mono ?_; rintro e w1 ⟨rfl, rfl⟩) | fail)
      go_ret
      exact ⟨rfl, rfl⟩
    · rw [hi7] at hn1
      clear hi7
      go_enter Try.func22, Try.ntmps22
      go_wp2_with (first | (go_at_call 18; refine hfm.mono ?_; rintro e w1 ⟨rfl, rfl⟩) | (go_at_call 41; refine (hn1 ()).mono ?_; clear hn1; rintro e w1 ⟨rfl, rfl⟩) | fail)
      go_ret
      exact ⟨rfl, rfl⟩
  · rw [hj8, Bool.false_or]
    obtain ⟨jn, rfl, hjn⟩ := nmB_true hj7
    rw [hj7] at hn2
    rcases hi4 with rfl | ⟨hi5, hi6, hi7⟩
    · have e : (decide ((-1 : Int) = (jn : Int)) || (decide ((0 : Int) ≤ -1) && lsP (nB l) (-1) jn)) = false := by
        rw [decide_eq_false (by omega), decide_eq_false (by omega)]; rfl
      have hij : ((-1 : Int) == (jn : Int)) = false := by rw [beq_eq_false_iff_ne]; omega
      rw [e]
      clear hj7 hj8 e hli
      go_enter Try.func22, Try.ntmps22
      go_wp2_with (first | (go_at_call 18; refine hfm.mono ?_; rintro e w1 ⟨rfl, rfl⟩) | (go_at_call 41; refine (hn2 ()).mono ?_; clear hn2; rintro e w1 ⟨rfl, rfl⟩) | fail)
      go_ret
      exact ⟨rfl, rfl⟩
    · obtain ⟨im, rfl, him⟩ := nmB_true hi7
      rw [hi7] at hn1
      rw [decide_eq_true (show (0 : Int) ≤ (im : Int) by omega), Bool.true_and, ls_same hFM him hjn]
      have hl := fun (_ : Unit) => hli im him (jn : Int)
      obtain ⟨LV, hLV⟩ : ∃ x, lsR (nP l) (jn : Int) (im + 1) im = x := ⟨_, rfl⟩
      rw [hLV] at hl ⊢
      clear hi7 hj7 hj8 hli hLV hFM
      by_cases hij : (im : Int) = (jn : Int)
      · rw [decide_eq_true hij, Bool.true_or]
        have hij2 : ((im : Int) == (jn : Int)) = true := by rw [beq_iff_eq]; exact hij
        clear hij hl
        go_enter Try.func22, Try.ntmps22
        go_wp2_with (first | (go_at_call 18; refine hfm.mono ?_; rintro e w1 ⟨rfl, rfl⟩) | (go_at_call 41; refine (hn1 ()).mono ?_; clear hn1; rintro e w1 ⟨rfl, rfl⟩) | (go_at_call 41; refine (hn2 ()).mono ?_; clear hn2; rintro e w1 ⟨rfl, rfl⟩) | fail)
        go_ret
        exact ⟨rfl, rfl⟩
      · rw [decide_eq_false hij, Bool.false_or]
        have hij2 : ((im : Int) == (jn : Int)) = false := beq_eq_false_iff_ne.2 hij
        clear hij
        go_enter Try.func22, Try.ntmps22
        go_wp2_with (first | (go_at_call 18; refine hfm.mono ?_; rintro e w1 ⟨rfl, rfl⟩) | (go_at_call 41; refine (hn1 ()).mono ?_; clear hn1; rintro e w1 ⟨rfl, rfl⟩) | (go_at_call 41; refine (hn2 ()).mono ?_; clear hn2; rintro e w1 ⟨rfl, rfl⟩) | (go_at_call 36; refine (hl ()).mono ?_; rintro e w1 ⟨rfl, rfl⟩) | fail)
        go_ret
        exact ⟨rfl, rfl⟩
set_option maxRecDepth 100000 in
set_option maxHeartbeats 4000000 in
theorem meetR_any {ok : Nat → Prop} {w : World} {l : List Nd} {v : Value} (h : RdNd ok w l v) (i j : Int) :
    Calls Try.prog 24 #[v, .int .i64 i, .int .i64 j] w fun e w' => e = .returned (.int .i64 (mtB l i j)) ∧ w = w' := by
  obtain ⟨a, cap, rfl, hlc, hcm⟩ := h.form
  have hfm := formedR_any h
  have hnm := fun i => stateR_any (w := w) (a := a) i hlc hcm
  have hli := fun k (hk : k < l.length) (j : Int) => lies_any h hk j
  unfold maxLen at hcm
  unfold mtB
  have hn1 := fun (_ : Unit) => hnm i
  have hn2 := fun (_ : Unit) => hnm j
  clear hnm
  cases hf : fmB l with
  | false =>
    rw [hf] at hfm
    rw [Bool.false_and, Bool.false_and, if_neg (by simp)]
    clear hf hli hn1 hn2
    go_enter Try.func24, Try.ntmps24
    go_wp2_with (first | (go_at_call 18; refine hfm.mono ?_; rintro e w1 ⟨rfl, rfl⟩) | fail)
    go_ret
    exact ⟨rfl, rfl⟩
  | true =>
  have HF := hidOf (fmB_fm hf)
  rw [hf] at hfm
  rw [Bool.true_and]
  clear hf
  cases h1 : nmB l.length i with
  | false =>
    rw [h1] at hn1
    rw [Bool.false_and, if_neg (by simp)]
    clear h1 hli
    go_enter Try.func24, Try.ntmps24
    go_wp2_with (first | (go_at_call 18; refine hfm.mono ?_; rintro e w1 ⟨rfl, rfl⟩) | (go_at_call 41; refine (hn1 ()).mono ?_; clear hn1; rintro e w1 ⟨rfl, rfl⟩) | fail)
    go_ret
    exact ⟨rfl, rfl⟩
  | true =>
  rw [Bool.true_and]
  rw [h1] at hn1
  cases h2 : nmB l.length j with
  | false =>
    rw [h2] at hn2
    rw [if_neg (by simp)]
    clear h1 h2 hli
    go_enter Try.func24, Try.ntmps24
    go_wp2_with (first | (go_at_call 18; refine hfm.mono ?_; rintro e w1 ⟨rfl, rfl⟩) | (go_at_call 41; refine (hn1 ()).mono ?_; clear hn1; rintro e w1 ⟨rfl, rfl⟩) | (go_at_call 41; refine (hn2 ()).mono ?_; clear hn2; rintro e w1 ⟨rfl, rfl⟩) | fail)
    go_ret
    exact ⟨rfl, rfl⟩
  | true =>
  rw [h2] at hn2
  rw [if_pos rfl]
  obtain ⟨i, rfl, hil⟩ := nmB_true h1
  obtain ⟨jn, rfl, hjl⟩ := nmB_true h2
  have HC := hidOf h
  clear h1 h2 h
  rw [Int.toNat_natCast]
  obtain ⟨n, hn⟩ : ∃ n, l.length = n := ⟨_, rfl⟩
  have HN := hidOf hn
  have HLI : Hid (∀ k : Nat, k < l.length → Calls Try.prog 36 #[.slice a n cap, .int .i64 (jn : Int), .int .i64 (k : Int)] w fun e w' => e = .returned (.bool (lsP (nB l) jn k)) ∧ w = w') := fun k hk => by
    have := hli jn hjl k
    rw [ls_same HF.out hjl hk]
    rw [hn] at this
    exact this
  rw [hn] at hlc hil hjl hfm hn1 hn2 HF ⊢
  obtain ⟨V, hV⟩ : ∃ V, mtC (nP l) (nB l) jn (nP l i + 1).toNat (nP l i) = V := ⟨_, rfl⟩
  have HV := hidOf hV
  rw [hV]
  obtain ⟨b, off, rfl, hbl, c0, c1, c2, c3, c4, c5, c6⟩ := nd_at HC.out i (by rw [HN.out]; exact hil)
  have hpl := HF.out.plt hil
  obtain ⟨p, hp⟩ : ∃ p, nP l i = p := ⟨_, rfl⟩
  rw [hp] at HV c1 hpl
  clear hn hV hp c0 c2 c3 c4 c5 c6 hli
  have i1 : (i : Int) < (n : Int) := by omega
  have i2 : (0 : Int) ≤ (i : Int) := by omega
  go_enter Try.func24, Try.ntmps24
  go_wp2_with (first | (go_at_call 18; refine hfm.mono ?_; rintro e w1 ⟨rfl, rfl⟩) | (go_at_call 41; refine (hn1 ()).mono ?_; clear hn1; rintro e w1 ⟨rfl, rfl⟩) | (go_at_call 41; refine (hn2 ()).mono ?_; clear hn2; rintro e w1 ⟨rfl, rfl⟩) | fail)
  clear hfm c1
  go_loop [7] (fun t => ∃ p : Int, -1 ≤ p ∧ p < i ∧ t = .int .i64 p ∧ Hid (mtC (nP l) (nB l) jn (p + 1).toNat p = V)) (fun t => (RowKit.intOf t + 1).toNat)
  case atStart => exact ⟨p, hpl.1, hpl.2, rfl, HV⟩
  case round =>
    obtain ⟨q, hq0, hq1, rfl, HQ⟩ := hrel
    by_cases hneg : q < 0
    · have hV : V = -1 := by
        rw [← HQ.out]
        have : q = -1 := by omega
        rw [this]; rfl
      subst hV
      have i3 : ¬ (0 : Int) ≤ q := by omega
      go_wp2
      go_ret
      exact ⟨rfl, rfl⟩
    obtain ⟨k, rfl⟩ : ∃ k : Nat, q = k := ⟨q.toNat, by omega⟩
    have hkn : k < l.length := by rw [HN.out]; omega
    have hl := HLI.out k hkn
    have HQ2 : Hid ((if lsP (nB l) jn k then (k : Int) else mtC (nP l) (nB l) jn (nP l k + 1).toNat (nP l k)) = V) := by
      have := HQ.out
      have e1 : ((k : Int) + 1).toNat = k + 1 := by omega
      rw [e1, mtC, if_neg hneg, Int.toNat_natCast] at this
      have hpk := HF.out.plt (i := k) (by omega)
      rw [mtC_more HF.out jn k (nP l k) (by omega) (by omega) (by omega)] at this
      exact this
    have i3 : (0 : Int) ≤ (k : Int) := by omega
    have i4 : (k : Int) < (n : Int) := by omega
    cases hls : lsP (nB l) jn k with
    | true =>
      have hV : V = (k : Int) := by rw [← HQ2.out, if_pos hls]
      subst hV
      rw [hls] at hl
      clear hls
      go_wp2_with (first | (go_at_call 36; refine hl.mono ?_; rintro e w2 ⟨rfl, rfl⟩) | fail)
      go_ret
      exact ⟨rfl, rfl⟩
    | false =>
      have HV2 : Hid (mtC (nP l) (nB l) jn (nP l k + 1).toNat (nP l k) = V) := by
        have := HQ2.out
        rw [if_neg (by rw [hls]; simp)] at this
        exact this
      rw [hls] at hl
      have hpk := HF.out.plt (i := k) (by omega)
      obtain ⟨b', off', he, hbl', _, c1, _⟩ := nd_at HC.out k hkn
      simp only [Option.some.injEq, Addr.mk.injEq, and_true] at he
      obtain ⟨rfl, rfl⟩ := he
      obtain ⟨pk, hk⟩ : ∃ x, nP l k = x := ⟨_, rfl⟩
      rw [hk] at c1 hpk HV2
      clear hls hk
      go_wp2_with (first | (go_at_call 36; refine hl.mono ?_; rintro e w2 ⟨rfl, rfl⟩) | fail)
      go_round
      case rel => exact ⟨pk, hpk.1, by omega, rfl, HV2⟩
      case measure => simp [RowKit.intOf]; omega
theorem inF_none {l : List Nd} (hf : fmB l = true) {i : Int} (h : i ≠ -1 ∧ nmB l.length i = false) : ∀ j : Nat, j ≤ l.length → inF l i j = []
  | 0, _ => rfl
  | j + 1, hj => by
    rw [inF_succ, inF_none hf h j (by omega)]
    have hp := (fmB_fm hf).plt (i := j) (by omega)
    rw [if_neg, List.append_nil]
    intro e
    have h2 : nmB l.length i = true := by
      rw [← e]
      have : 0 ≤ nP l j := by
        rcases Int.lt_or_le (nP l j) 0 with h3 | h3
        · exact absurd (show i = -1 by omega) h.1
        · exact h3
      unfold nmB
      simp only [Bool.and_eq_true, decide_eq_true_eq]
      omega
    rw [h.2] at h2
    cases h2
set_option maxRecDepth 100000 in
set_option maxHeartbeats 4000000 in
theorem innerR_any {ok : Nat → Prop} {w : World} {l : List Nd} {v : Value} (h : RdNd ok w l v) (i : Int) :
    Calls Try.prog 27 #[v, .int .i64 i] w fun e w' => ∃ u, e = .returned u ∧ RdZs (fun b => w.heap.size ≤ b) w' (inB l i) u ∧ Below w.heap.size w w' := by
  obtain ⟨a, cap, rfl, hlc, hcm⟩ := h.form
  have hn1 := fun (_ : Unit) => stateR_any (w := w) (a := a) i hlc hcm
  unfold maxLen at hcm
  have hfm := formedR_any h
  unfold inB
  cases hf : fmB l with
  | false =>
    rw [hf] at hfm
    rw [if_neg (by simp)]
    clear hf hn1
    go_enter Try.func27, Try.ntmps27
    go_wp2_with (first | (go_at_call 18; refine hfm.mono ?_; rintro e w1 ⟨rfl, rfl⟩) | fail)
    go_ret
    exact ⟨_, rfl, rdK_none _ _ _ _, Below.refl _ _⟩
  | true =>
    have h40 := fm_40 hf
    rw [hf] at hfm
    rw [if_pos rfl]
    by_cases hb1 : i ≠ -1 ∧ nmB l.length i = false
    · rw [inF_none hf hb1 _ (Nat.le_refl _)]
      have hi2 : (i == -1) = false := beq_eq_false_iff_ne.2 hb1.1
      have hi3 : (i != -1) = true := by simp [bne, hi2]
      rw [hb1.2] at hn1
      clear hb1 hf
      go_enter Try.func27, Try.ntmps27
      go_wp2_with (first | (go_at_call 18; refine hfm.mono ?_; rintro e w1 ⟨rfl, rfl⟩) | (go_at_call 41; refine (hn1 ()).mono ?_; clear hn1; rintro e w1 ⟨rfl, rfl⟩) | fail)
      go_ret
      exact ⟨_, rfl, rdK_none _ _ _ _, Below.refl _ _⟩
    have hi4 : i = -1 ∨ ((i == -1) = false ∧ (i != -1) = true ∧ nmB l.length i = true) := by
      by_cases hi : i = -1
      · exact .inl hi
      · refine .inr ⟨beq_eq_false_iff_ne.2 hi, by simp [bne, beq_eq_false_iff_ne.2 hi], ?_⟩
        cases h1 : nmB l.length i with
        | false => exact absurd ⟨hi, h1⟩ hb1
        | true => rfl
    clear hf hb1
    have HC := hidOf h
    obtain ⟨n, hn⟩ : ∃ n, l.length = n := ⟨_, rfl⟩
    rw [hn] at hlc h40 hfm hn1 hi4 ⊢
    have HN := hidOf hn
    clear h hn
    obtain ⟨i0, hi, hz0, hz1, hz2⟩ := info_parts Try.infoIntT
    rcases hi4 with rfl | ⟨hi5, hi6, hi7⟩
    · clear hn1
      go_enter Try.func27, Try.ntmps27
      go_wp2_with (first | (go_at_call 18; refine hfm.mono ?_; rintro e w1 ⟨rfl, rfl⟩) | fail)
      clear hfm
      go_loopw [5, 22] (fun t ix wr => ∃ (j : Nat), j ≤ n ∧ ix = .int .i64 (j : Int) ∧ OwnK wr w.heap.size 3 1 rInt t (inF l (-1) j) ∧ Below w.heap.size w wr) (fun _ ix _ => n - (RowKit.intOf ix).toNat)
      case atStart => exact ⟨0, Nat.zero_le _, rfl, ownK_nil _ _ _ _ _, Below.refl _ _⟩
      case round =>
        obtain ⟨j, hj, rfl, hO, hb⟩ := hrel
        obtain ⟨va, vc, rfl, hvl, hvm⟩ := hO.form
        by_cases hlt : j < n
        · obtain ⟨b, off, rfl, hbl, c0, c1, c2, c3, c4, c5, c6⟩ := nd_at HC.out j (by rw [HN.out]; exact hlt)
          replace c1 := (hb.cell (p := ⟨b, off + j * 7 + 1, none⟩) hbl).trans c1
          have HS := hidOf (inF_succ l (-1) j)
          have hil := inF_len l (-1) j
          generalize nP l j = x1 at *
          clear c0 c2 c3 c4 c5 c6
          have i1 : (j : Int) < (n : Int) := by omega
          have i2 : (0 : Int) ≤ (j : Int) := by omega
          by_cases he : x1 = (-1)
          · have HS2 : Hid (inF l (-1) (j + 1) = inF l (-1) j ++ [(j : Int)]) := by have := HS.out; rw [if_pos he] at this; exact this
            have he2 : (x1 == (-1)) = true := by rw [beq_iff_eq]; exact he
            clear HS he
            go_upto_region 8 with fail
            clear c1
            go_wp2_with (first
              | (at_builtin; refine wpList_pushK wr rfl _ _ 64 rfl w.heap.size 3 i0 (.int .i64 0) 1 8 Try.underlying64 hi hz0 hz1 hz2 rfl kp_int (.slice va (inF l (-1) j).length vc) (inF l (-1) j) (j : Int) [.int .i64 (j : Int)] wr.heap.size rfl rfl rfl (by simp [Value.oneCell']) hO rfl hb.size (fun x hx => (hO.blk x hx).2) (by omega) (by unfold maxLen; omega) hb.size ?_; intro vb wb hOb hgb hbb)
              | fail)
            go_wp2
            go_roundw
            case rel => exact ⟨j + 1, hlt, by go_num, by rw [HS2.out]; exact hOb, hb.trans hbb⟩
            case measure => simp [RowKit.intOf]; omega
          · have HS2 : Hid (inF l (-1) (j + 1) = inF l (-1) j) := by have := HS.out; rw [if_neg he, List.append_nil] at this; exact this
            have he2 : (x1 == (-1)) = false := beq_eq_false_iff_ne.2 he
            clear he HS
            go_wp2
            go_roundw
            case rel => exact ⟨j + 1, hlt, by go_num, by rw [HS2.out]; exact hO, hb⟩
            case measure => simp [RowKit.intOf]; omega
        · have i1 : ¬ (j : Int) < (n : Int) := by omega
          have hjn : j = n := by omega
          go_wp2
          go_ret
          refine ⟨_, rfl, ?_, hb⟩
          rw [← hjn]
          exact hO.rd kp_int
    · rw [hi7] at hn1
      go_enter Try.func27, Try.ntmps27
      go_wp2_with (first | (go_at_call 18; refine hfm.mono ?_; rintro e w1 ⟨rfl, rfl⟩) | (go_at_call 41; refine (hn1 ()).mono ?_; clear hn1; rintro e w1 ⟨rfl, rfl⟩) | fail)
      clear hfm
      go_loopw [5, 22] (fun t ix wr => ∃ (j : Nat), j ≤ n ∧ ix = .int .i64 (j : Int) ∧ OwnK wr w.heap.size 3 1 rInt t (inF l i j) ∧ Below w.heap.size w wr) (fun _ ix _ => n - (RowKit.intOf ix).toNat)
      case atStart => exact ⟨0, Nat.zero_le _, rfl, ownK_nil _ _ _ _ _, Below.refl _ _⟩
      case round =>
        obtain ⟨j, hj, rfl, hO, hb⟩ := hrel
        obtain ⟨va, vc, rfl, hvl, hvm⟩ := hO.form
        by_cases hlt : j < n
        · obtain ⟨b, off, rfl, hbl, c0, c1, c2, c3, c4, c5, c6⟩ := nd_at HC.out j (by rw [HN.out]; exact hlt)
          replace c1 := (hb.cell (p := ⟨b, off + j * 7 + 1, none⟩) hbl).trans c1
          have HS := hidOf (inF_succ l i j)
          have hil := inF_len l i j
          generalize nP l j = x1 at *
          clear c0 c2 c3 c4 c5 c6
          have i1 : (j : Int) < (n : Int) := by omega
          have i2 : (0 : Int) ≤ (j : Int) := by omega
          by_cases he : x1 = i
          · have HS2 : Hid (inF l i (j + 1) = inF l i j ++ [(j : Int)]) := by have := HS.out; rw [if_pos he] at this; exact this
            have he2 : (x1 == i) = true := by rw [beq_iff_eq]; exact he
            clear HS he
            go_upto_region 8 with fail
            clear c1
            go_wp2_with (first
              | (at_builtin; refine wpList_pushK wr rfl _ _ 64 rfl w.heap.size 3 i0 (.int .i64 0) 1 8 Try.underlying64 hi hz0 hz1 hz2 rfl kp_int (.slice va (inF l i j).length vc) (inF l i j) (j : Int) [.int .i64 (j : Int)] wr.heap.size rfl rfl rfl (by simp [Value.oneCell']) hO rfl hb.size (fun x hx => (hO.blk x hx).2) (by omega) (by unfold maxLen; omega) hb.size ?_; intro vb wb hOb hgb hbb)
              | fail)
            go_wp2
            go_roundw
            case rel => exact ⟨j + 1, hlt, by go_num, by rw [HS2.out]; exact hOb, hb.trans hbb⟩
            case measure => simp [RowKit.intOf]; omega
          · have HS2 : Hid (inF l i (j + 1) = inF l i j) := by have := HS.out; rw [if_neg he, List.append_nil] at this; exact this
            have he2 : (x1 == i) = false := beq_eq_false_iff_ne.2 he
            clear he HS
            go_wp2
            go_roundw
            case rel => exact ⟨j + 1, hlt, by go_num, by rw [HS2.out]; exact hO, hb⟩
            case measure => simp [RowKit.intOf]; omega
        · have i1 : ¬ (j : Int) < (n : Int) := by omega
          have hjn : j = n := by omega
          go_wp2
          go_ret
          refine ⟨_, rfl, ?_, hb⟩
          rw [← hjn]
          exact hO.rd kp_int
theorem int_at {ok : Nat → Prop} {w : World} {l : List Int} {a : Option Addr} {n cap : Nat} (h : RdZs ok w l (.slice a n cap)) (j : Nat) (hj : j < l.length) : ∃ b off, a = some ⟨b, off, none⟩ ∧ b < w.heap.size ∧ w.cell? ⟨b, off + j, none⟩ = some (.int .i64 l[j]) := by
  obtain ⟨a1, cap1, he, h1, h2, h3⟩ := h
  simp only [Value.slice.injEq] at he
  obtain ⟨rfl, rfl, rfl⟩ := he
  obtain ⟨b, off, cs, ha, _, hb, hl, hr, hc⟩ := h3 j hj
  have hr : cs = [.int .i64 l[j]] := hr
  subst hr
  have := hc 0 _ rfl
  rw [Nat.mul_one, Nat.add_zero] at this
  exact ⟨b, off, ha, hb, this⟩
set_option maxRecDepth 100000 in
set_option maxHeartbeats 4000000 in
theorem ints_any {ok ok' : Nat → Prop} {w : World} {l : List Int} {v v' : Value} (h : RdZs ok w l v) (h' : RdZs ok' w l v') :
    Calls Try.prog 25 #[v, v'] w fun e w' => e = .returned (.bool true) ∧ Below w.heap.size w w' := by
  obtain ⟨a, cap, rfl, hlc, hcm⟩ := h.form
  obtain ⟨a', cap', rfl, hlc', hcm'⟩ := h'.form
  unfold maxLen at hcm hcm'
  have HC := hidOf h
  have HC' := hidOf h'
  obtain ⟨n, hn⟩ : ∃ n, l.length = n := ⟨_, rfl⟩
  rw [hn] at hlc hlc' ⊢
  have HN := hidOf hn
  clear h h' hn
  go_enter Try.func25, Try.ntmps25
  go_wp2
  go_loopw [13] (fun ix wr => ∃ (j : Nat), j ≤ n ∧ ix = .int .i64 (j : Int) ∧ Below w.heap.size w wr) (fun ix _ => n - (RowKit.intOf ix).toNat)
  case atStart => exact ⟨0, Nat.zero_le _, rfl, Below.refl _ _⟩
  case round =>
    obtain ⟨j, hj, rfl, hb⟩ := hrel
    by_cases hlt : j < n
    · obtain ⟨b, off, rfl, hbl, c0⟩ := int_at HC.out j (by rw [HN.out]; exact hlt)
      obtain ⟨b', off', rfl, hbl', c0'⟩ := int_at HC'.out j (by rw [HN.out]; exact hlt)
      replace c0 := (hb.cell (p := ⟨b, off + j, none⟩) hbl).trans c0
      replace c0' := (hb.cell (p := ⟨b', off' + j, none⟩) hbl').trans c0'
      generalize l[j]'(by rw [HN.out]; exact hlt) = x at *
      have i1 : (j : Int) < (n : Int) := by omega
      have i2 : (0 : Int) ≤ (j : Int) := by omega
      have i3 : (x == x) = true := by simp
      go_upto_region 6 with fail
      go_quiet (fail)
      have hb : Below w.heap.size w (wr.drewN nq) := hb.trans ⟨rfl, rfl, rfl, Nat.le_refl _, fun _ _ => rfl⟩
      clear c0 c0'
      generalize wr.drewN nq = wq at *
      go_wp2
      go_roundw
      case rel => exact ⟨j + 1, hlt, by go_num, hb⟩
      case measure => simp [RowKit.intOf]; omega
    · have i1 : ¬ (j : Int) < (n : Int) := by omega
      go_wp2
      go_ret
      exact ⟨rfl, hb⟩
end Go.Proofs.Ytdekboacjjpjeaa
