
/- What the program's numbered, liesIn, Within, Meet answer. -/
import Derived.Test.YtdekboacjjpjeaaTrS
namespace Go.Proofs.Ytdekboacjjpjeaa
open Go.RowKit Go.Lib
set_option linter.unusedSimpArgs false
set_option linter.unusedVariables false
attribute [local go_sem ↓] Go.wp_at_zero Go.wp_at_succ

/-- Is it a state's number? -/
def nmB (n : Nat) (i : Int) : Bool := decide (0 ≤ i) && decide (i < n)
theorem nmB_true {n : Nat} {i : Int} (h : nmB n i = true) : ∃ k : Nat, i = k ∧ k < n := by
  unfold nmB at h
  simp only [Bool.and_eq_true, decide_eq_true_eq] at h
  exact ⟨i.toNat, by omega, by omega⟩
theorem nmB_nat {n k : Nat} (h : k < n) : nmB n (k : Int) = true := by
  unfold nmB
  simp only [Bool.and_eq_true, decide_eq_true_eq]
  omega
theorem nmB_no {n : Nat} {i : Int} (h : ¬ (0 ≤ i ∧ i < n)) : nmB n i = false := by
  unfold nmB
  rw [Bool.eq_false_iff]
  simp only [ne_eq, Bool.and_eq_true, decide_eq_true_eq]
  exact h
set_option maxHeartbeats 1000000 in
theorem numbered_any {w : World} {a : Option Addr} {n cap : Nat} (i : Int) (hlc : n ≤ cap) (hcm : cap ≤ maxLen) :
    Calls Try.prog 39 #[.slice a n cap, .int .i64 i] w fun e w' => e = .returned (.bool (nmB n i)) ∧ w = w' := by
  unfold maxLen at hcm
  by_cases h0 : 0 ≤ i
  · by_cases h1 : i < n
    · have e : nmB n i = true := by unfold nmB; simp [h0, h1]
      rw [e]
      clear e
      go_enter Try.func39, Try.ntmps39
      go_wp2
      go_ret
      exact ⟨rfl, rfl⟩
    · have e : nmB n i = false := nmB_no (fun h => h1 h.2)
      rw [e]
      clear e
      go_enter Try.func39, Try.ntmps39
      go_wp2
      go_ret
      exact ⟨rfl, rfl⟩
  · have e : nmB n i = false := nmB_no (fun h => h0 h.1)
    rw [e]
    clear e
    go_enter Try.func39, Try.ntmps39
    go_wp2
    go_ret
    exact ⟨rfl, rfl⟩
set_option maxHeartbeats 1000000 in
theorem liesIn_any {ok : Nat → Prop} {w : World} {l : List Nd} {v : Value} (h : RdNd ok w l v) (i : Int) (j : Nat) (hj : j < l.length) :
    Calls Try.prog 40 #[v, .int .i64 i, .int .i64 (j : Int)] w fun e w' => e = .returned (.bool (lsP (nB l) i j)) ∧ w = w' := by
  obtain ⟨a, cap, rfl, hlc, hcm⟩ := h.form
  unfold maxLen at hcm
  obtain ⟨b, off, rfl, hbl, c0, c1, c2, c3, c4, c5, c6⟩ := nd_at h j hj
  have i1 : (j : Int) < (l.length : Int) := by omega
  have i2 : (0 : Int) ≤ (j : Int) := by omega
  have eP : lsP (nB l) i j = (decide ((j : Int) < i) && decide (i < nB l j)) := by unfold lsP; rw [Int.toNat_natCast]
  rw [eP]
  generalize nB l j = q at *
  generalize l.length = n at *
  clear h c0 c1 c2 c4 c5 c6 eP
  by_cases h1 : (j : Int) < i
  · by_cases h2 : i < q
    · have e : (decide ((j : Int) < i) && decide (i < q)) = true := by simp [h1, h2]
      rw [e]
      clear e
      go_enter Try.func40, Try.ntmps40
      go_wp2
      go_ret
      exact ⟨rfl, rfl⟩
    · have e : (decide ((j : Int) < i) && decide (i < q)) = false := by simp [h2]
      rw [e]
      clear e
      go_enter Try.func40, Try.ntmps40
      go_wp2
      go_ret
      exact ⟨rfl, rfl⟩
  · have e : (decide ((j : Int) < i) && decide (i < q)) = false := by simp [h1]
    rw [e]
    clear e
    go_enter Try.func40, Try.ntmps40
    go_wp2
    go_ret
    exact ⟨rfl, rfl⟩
/-- Does i lie in j, or is it? -/
def wiB (l : List Nd) (i j : Int) : Bool := fmB l && (if j = -1 then (decide (i = -1) || nmB l.length i) else nmB l.length i && nmB l.length j && (decide (i = j) || lsP (nB l) i j))
set_option maxRecDepth 100000 in
set_option maxHeartbeats 4000000 in
theorem within_any {ok : Nat → Prop} {w : World} {l : List Nd} {v : Value} (h : RdNd ok w l v) (i j : Int) :
    Calls Try.prog 21 #[v, .int .i64 i, .int .i64 j] w fun e w' => e = .returned (.bool (wiB l i j)) ∧ Below w.heap.size w w' := by
  obtain ⟨a, cap, rfl, hlc, hcm⟩ := h.form
  have hfm := formed_any h
  have hnm := fun w1 i => numbered_any (w := w1) (a := a) i hlc hcm
  have hli := fun w1 (b1 : Below w.heap.size w w1) i k (hk : k < l.length) => liesIn_any (h.stay kp_nd (ok' := ok) (w' := w1) (fun k hk hl => ⟨hk, b1.block k hl⟩)) i k hk
  unfold maxLen at hcm
  unfold wiB
  cases hf : fmB l with
  | false =>
    rw [hf] at hfm
    rw [Bool.false_and]
    clear hf hli hnm
    go_enter Try.func21, Try.ntmps21
    go_wp2_with (first | (go_at_call 13; refine hfm.mono ?_; rintro e w1 ⟨rfl, b1⟩) | fail)
    go_ret
    exact ⟨rfl, b1⟩
  | true =>
    rw [Bool.true_and]
    rw [hf] at hfm
    clear hf
    by_cases hj : j = -1
    · rw [if_pos hj]
      subst hj
      clear hli
      by_cases hi : i = -1
      · subst hi
        go_enter Try.func21, Try.ntmps21
        go_wp2_with (first | (go_at_call 13; refine hfm.mono ?_; rintro e w1 ⟨rfl, b1⟩) | (go_at_call 39; refine (hnm _ _).mono ?_; rintro e w2 ⟨rfl, rfl⟩) | fail)
        go_ret
        exact ⟨rfl, b1⟩
      · have hi2 : (i == -1) = false := beq_eq_false_iff_ne.2 hi
        have e : decide (i = -1) = false := decide_eq_false hi
        rw [e, Bool.false_or]
        clear e hi
        go_enter Try.func21, Try.ntmps21
        go_wp2_with (first | (go_at_call 13; refine hfm.mono ?_; rintro e w1 ⟨rfl, b1⟩) | (go_at_call 39; refine (hnm _ _).mono ?_; rintro e w2 ⟨rfl, rfl⟩) | fail)
        go_ret
        exact ⟨rfl, b1⟩
    · rw [if_neg hj]
      have hj2 : (j == -1) = false := beq_eq_false_iff_ne.2 hj
      clear hj
      cases h1 : nmB l.length i with
      | false =>
        have hn1 := fun w1 => hnm w1 i
        rw [h1] at hn1
        rw [Bool.false_and, Bool.false_and]
        clear h1 hnm hli
        go_enter Try.func21, Try.ntmps21
        go_wp2_with (first | (go_at_call 13; refine hfm.mono ?_; rintro e w1 ⟨rfl, b1⟩) | (go_at_call 39; refine (hn1 _).mono ?_; rintro e w2 ⟨rfl, rfl⟩) | fail)
        go_ret
        exact ⟨rfl, b1⟩
      | true =>
        rw [Bool.true_and]
        cases h2 : nmB l.length j with
        | false =>
          rw [Bool.false_and]
          have hn1 := fun w1 => hnm w1 i
          have hn2 := fun w1 => hnm w1 j
          rw [h1] at hn1
          rw [h2] at hn2
          clear h1 h2 hnm hli
          go_enter Try.func21, Try.ntmps21
          go_wp2_with (first | (go_at_call 13; refine hfm.mono ?_; rintro e w1 ⟨rfl, b1⟩) | (go_at_call 39; refine (hn1 _).mono ?_; clear hn1; rintro e w2 ⟨rfl, rfl⟩) | (go_at_call 39; refine (hn2 _).mono ?_; rintro e w2 ⟨rfl, rfl⟩) | fail)
          go_ret
          exact ⟨rfl, b1⟩
        | true =>
          rw [Bool.true_and]
          have hn1 := fun w1 => hnm w1 i
          have hn2 := fun w1 => hnm w1 j
          rw [h1] at hn1
          rw [h2] at hn2
          obtain ⟨j, rfl, hjl⟩ := nmB_true h2
          clear h1 h2 hnm
          by_cases hij : i = (j : Int)
          · rw [decide_eq_true hij, Bool.true_or]
            clear hli
            subst hij
            go_enter Try.func21, Try.ntmps21
            go_wp2_with (first | (go_at_call 13; refine hfm.mono ?_; rintro e w1 ⟨rfl, b1⟩) | (go_at_call 39; refine (hn1 _).mono ?_; rintro e w2 ⟨rfl, rfl⟩) | fail)
            go_ret
            exact ⟨rfl, b1⟩
          · rw [decide_eq_false hij, Bool.false_or]
            have hi2 : (i == (j : Int)) = false := beq_eq_false_iff_ne.2 hij
            have hl := fun w1 (b1 : Below w.heap.size w w1) => hli w1 b1 i j hjl
            generalize lsP (nB l) i j = V at *
            clear hij hli
            go_enter Try.func21, Try.ntmps21
            go_wp2_with (first | (go_at_call 13; refine hfm.mono ?_; rintro e w1 ⟨rfl, b1⟩) | (go_at_call 39; refine (hn1 _).mono ?_; clear hn1; rintro e w2 ⟨rfl, rfl⟩) | (go_at_call 39; refine (hn2 _).mono ?_; rintro e w2 ⟨rfl, rfl⟩) | (go_at_call 40; refine (hl _ b1).mono ?_; rintro e w2 ⟨rfl, rfl⟩) | fail)
            go_ret
            exact ⟨rfl, b1⟩
/-- The innermost one that both lie in. -/
def mtB (l : List Nd) (i j : Int) : Int := if fmB l && nmB l.length i && nmB l.length j then mtC (nP l) (nB l) j (nP l i.toNat + 1).toNat (nP l i.toNat) else -1
theorem fmB_fm {l : List Nd} (h : fmB l = true) : FmP l.length (nD l) (nP l) (nB l) (nL l) := of_decide_eq_true h
set_option maxRecDepth 100000 in
set_option maxHeartbeats 4000000 in
theorem meet_any {ok : Nat → Prop} {w : World} {l : List Nd} {v : Value} (h : RdNd ok w l v) (i j : Int) :
    Calls Try.prog 23 #[v, .int .i64 i, .int .i64 j] w fun e w' => e = .returned (.int .i64 (mtB l i j)) ∧ Below w.heap.size w w' := by
  obtain ⟨a, cap, rfl, hlc, hcm⟩ := h.form
  have hfm := formed_any h
  have hnm := fun w1 i => numbered_any (w := w1) (a := a) i hlc hcm
  have hli := fun w1 (b1 : Below w.heap.size w w1) i k (hk : k < l.length) => liesIn_any (h.stay kp_nd (ok' := ok) (w' := w1) (fun k hk hl => ⟨hk, b1.block k hl⟩)) i k hk
  unfold maxLen at hcm
  unfold mtB
  cases hf : fmB l with
  | false =>
    rw [hf] at hfm
    rw [Bool.false_and, Bool.false_and, if_neg (by simp)]
    clear hf hli hnm
    go_enter Try.func23, Try.ntmps23
    go_wp2_with (first | (go_at_call 13; refine hfm.mono ?_; rintro e w1 ⟨rfl, b1⟩) | fail)
    go_ret
    exact ⟨rfl, b1⟩
  | true =>
  have HF := hidOf (fmB_fm hf)
  rw [hf] at hfm
  rw [Bool.true_and]
  clear hf
  cases h1 : nmB l.length i with
  | false =>
    have hn1 := fun w1 => hnm w1 i
    rw [h1] at hn1
    rw [Bool.false_and, if_neg (by simp)]
    clear h1 hnm hli
    go_enter Try.func23, Try.ntmps23
    go_wp2_with (first | (go_at_call 13; refine hfm.mono ?_; rintro e w1 ⟨rfl, b1⟩) | (go_at_call 39; refine (hn1 _).mono ?_; rintro e w2 ⟨rfl, rfl⟩) | fail)
    go_ret
    exact ⟨rfl, b1⟩
  | true =>
  rw [Bool.true_and]
  cases h2 : nmB l.length j with
  | false =>
    have hn1 := fun w1 => hnm w1 i
    have hn2 := fun w1 => hnm w1 j
    rw [h1] at hn1
    rw [h2] at hn2
    rw [if_neg (by simp)]
    clear h1 h2 hnm hli
    go_enter Try.func23, Try.ntmps23
    go_wp2_with (first | (go_at_call 13; refine hfm.mono ?_; rintro e w1 ⟨rfl, b1⟩) | (go_at_call 39; refine (hn1 _).mono ?_; clear hn1; rintro e w2 ⟨rfl, rfl⟩) | (go_at_call 39; refine (hn2 _).mono ?_; rintro e w2 ⟨rfl, rfl⟩) | fail)
    go_ret
    exact ⟨rfl, b1⟩
  | true =>
  have hn1 := fun w1 => hnm w1 i
  have hn2 := fun w1 => hnm w1 j
  rw [h1] at hn1
  rw [h2] at hn2
  rw [if_pos rfl]
  obtain ⟨i, rfl, hil⟩ := nmB_true h1
  obtain ⟨jn, rfl, hjl⟩ := nmB_true h2
  generalize hjj : (jn : Int) = j at *
  have HC := hidOf h
  clear h1 h2 hnm h
  rw [Int.toNat_natCast]
  obtain ⟨n, hn⟩ : ∃ n, l.length = n := ⟨_, rfl⟩
  have HN := hidOf hn
  have HLI : Hid (∀ w1 (b1 : Below w.heap.size w w1) k (hk : k < l.length), Calls Try.prog 40 #[.slice a n cap, .int .i64 j, .int .i64 (k : Int)] w1 fun e w' => e = .returned (.bool (lsP (nB l) j k)) ∧ w1 = w') := fun w1 b1 k hk => by
    have := hli w1 b1 j k hk
    rw [hn] at this
    exact this
  rw [hn] at hlc hil hjl hfm hn1 hn2 HF ⊢
  obtain ⟨V, hV⟩ : ∃ V, mtC (nP l) (nB l) j (nP l i + 1).toNat (nP l i) = V := ⟨_, rfl⟩
  have HV := hidOf hV
  rw [hV]
  obtain ⟨b, off, rfl, hbl, c0, c1, c2, c3, c4, c5, c6⟩ := nd_at HC.out i (by rw [HN.out]; exact hil)
  have hpl := HF.out.plt hil
  obtain ⟨p, hp⟩ : ∃ p, nP l i = p := ⟨_, rfl⟩
  rw [hp] at HV c1 hpl
  clear hn hV hp c0 c2 c3 c4 c5 c6 hli hjl hjj
  have HC1 : Hid (∀ w1 (b1 : Below w.heap.size w w1), w1.cell? ⟨b, off + i * 7 + 1, none⟩ = some (.int .i64 p)) := fun w1 b1 => (b1.cell (p := ⟨b, off + i * 7 + 1, none⟩) hbl).trans c1
  clear c1
  have i1 : (i : Int) < (n : Int) := by omega
  have i2 : (0 : Int) ≤ (i : Int) := by omega
  go_enter Try.func23, Try.ntmps23
  go_upto_region 3 with (first | (go_at_call 13; refine hfm.mono ?_; rintro e w1 ⟨rfl, b1⟩) | (go_at_call 39; refine (hn1 _).mono ?_; clear hn1; rintro e w2 ⟨rfl, rfl⟩) | (go_at_call 39; refine (hn2 _).mono ?_; rintro e w2 ⟨rfl, rfl⟩) | fail)
  clear hfm hn2
  have c1 := HC1.out w1 b1
  go_wp2
  clear c1
  go_loop [7] (fun t => ∃ p : Int, -1 ≤ p ∧ p < i ∧ t = .int .i64 p ∧ Hid (mtC (nP l) (nB l) j (p + 1).toNat p = V)) (fun t => (RowKit.intOf t + 1).toNat)
  case atStart => exact ⟨p, hpl.1, hpl.2, rfl, HV⟩
  case round =>
    obtain ⟨q, hq0, hq1, rfl, HQ⟩ := hrel
    by_cases hneg : q < 0
    · have hV : V = q := by
        rw [← HQ.out]
        have : q = -1 := by omega
        rw [this]; rfl
      subst hV
      have i3 : ¬ (0 : Int) ≤ V := by omega
      go_wp2
      go_ret
      exact ⟨rfl, b1⟩
    obtain ⟨k, rfl⟩ : ∃ k : Nat, q = k := ⟨q.toNat, by omega⟩
    have hkn : k < l.length := by rw [HN.out]; omega
    have hl := HLI.out w1 b1 k hkn
    have HQ2 : Hid ((if lsP (nB l) j k then (k : Int) else mtC (nP l) (nB l) j (nP l k + 1).toNat (nP l k)) = V) := by
      have := HQ.out
      have e1 : ((k : Int) + 1).toNat = k + 1 := by omega
      rw [e1, mtC, if_neg hneg, Int.toNat_natCast] at this
      have hpk := HF.out.plt (i := k) (by omega)
      rw [mtC_more HF.out j k (nP l k) (by omega) (by omega) (by omega)] at this
      exact this
    have i3 : (0 : Int) ≤ (k : Int) := by omega
    have i4 : (k : Int) < (n : Int) := by omega
    cases hls : lsP (nB l) j k with
    | true =>
      have hV : V = (k : Int) := by rw [← HQ2.out, if_pos hls]
      subst hV
      rw [hls] at hl
      clear hls
      go_wp2_with (first | (go_at_call 40; refine hl.mono ?_; rintro e w2 ⟨rfl, rfl⟩) | fail)
      go_ret
      exact ⟨rfl, b1⟩
    | false =>
      have HV2 : Hid (mtC (nP l) (nB l) j (nP l k + 1).toNat (nP l k) = V) := by
        have := HQ2.out
        rw [if_neg (by rw [hls]; simp)] at this
        exact this
      rw [hls] at hl
      have hpk := HF.out.plt (i := k) (by omega)
      obtain ⟨b', off', he, hbl', _, c1, _⟩ := nd_at HC.out k hkn
      simp only [Option.some.injEq, Addr.mk.injEq, and_true] at he
      obtain ⟨rfl, rfl⟩ := he
      replace c1 := (b1.cell (p := ⟨b, off + k * 7 + 1, none⟩) hbl).trans c1
      obtain ⟨pk, hk⟩ : ∃ x, nP l k = x := ⟨_, rfl⟩
      rw [hk] at c1 hpk HV2
      clear hls hk
      go_wp2_with (first | (go_at_call 40; refine hl.mono ?_; rintro e w2 ⟨rfl, rfl⟩) | fail)
      go_round
      case rel => exact ⟨pk, hpk.1, by omega, rfl, HV2⟩
      case measure => simp [RowKit.intOf]; omega
end Go.Proofs.Ytdekboacjjpjeaa
