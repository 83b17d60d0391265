
/- What the document's Formed answers. -/
import Derived.Test.YtdekboacjjpjeaaTrV
namespace Go.Proofs.Ytdekboacjjpjeaa
open Go.RowKit Go.Lib
set_option linter.unusedSimpArgs false
set_option linter.unusedVariables false
attribute [local go_sem ↓] Go.wp_at_zero Go.wp_at_succ

set_option maxRecDepth 100000 in
set_option maxHeartbeats 8000000 in
theorem formedR_any {ok : Nat → Prop} {w : World} {l : List Nd} {v : Value} (h : RdNd ok w l v) :
    Calls Try.prog 18 #[v] w fun e w' => e = .returned (.bool (fmB l)) ∧ w = w' := by
  obtain ⟨a, cap, rfl, hlc, hcm⟩ := h.form
  unfold maxLen at hcm
  obtain ⟨V, hV⟩ : ∃ V, fmB l = V := ⟨_, rfl⟩
  rw [hV]
  have HV : Hid (fmB l = V) := hV
  have HC := hidOf h
  have hF : ¬ (l.length ≤ 40 ∧ ∀ i < l.length, FR l.length (nD l) (nP l) (nB l) (nL l) i) → V = false := fun h => by
    rw [← HV.out]
    unfold fmB
    rw [decide_eq_false]
    exact fun h2 => h ((fm_same _ _ _ _ _).1 h2)
  have hT : (l.length ≤ 40 ∧ ∀ i < l.length, FR l.length (nD l) (nP l) (nB l) (nL l) i) → V = true := fun h => by
    rw [← HV.out]
    unfold fmB
    rw [decide_eq_true]
    exact (fm_same _ _ _ _ _).2 h
  have hls : ∀ i : Nat, i < l.length → ∀ j : Int, Calls Try.prog 36 #[.slice a l.length cap, .int .i64 (i : Int), .int .i64 j] w fun e w' => e = .returned (.bool (lsR (nP l) j (i + 1) i)) ∧ w = w' := fun i hi j => lies_any h hi j
  obtain ⟨n, hn⟩ : ∃ n, l.length = n := ⟨_, rfl⟩
  rw [hn] at hlc hF hT hls ⊢
  have HN : Hid (l.length = n) := hn
  have HT := hidOf hT
  have HF := hidOf hF
  have HLS := hidOf hls
  clear h hV hn hT hF hls
  by_cases h40 : 40 < n
  · have hF := HF.out (fun h => by omega)
    subst hF
    have i0 : (40 : Int) < (n : Int) := by omega
    go_enter Try.func18, Try.ntmps18
    go_wp2
    go_ret
    exact ⟨rfl, rfl⟩
  have i0 : ¬ (40 : Int) < (n : Int) := by omega
  go_enter Try.func18, Try.ntmps18
  go_wp2
  go_loop [14] (fun ix => ∃ (i : Nat), i ≤ n ∧ ix = .int .i64 (i : Int) ∧ Hid (Ahd i (nP l) ∧ ∀ m < i, FR n (nD l) (nP l) (nB l) (nL l) m)) (fun ix => n - (RowKit.intOf ix).toNat)
  case atStart => exact ⟨0, Nat.zero_le _, rfl, ⟨fun m hm => by omega, fun m hm => by omega⟩⟩
  case round =>
    obtain ⟨i, hin, rfl, HI⟩ := hrel
    by_cases hlt : i < n
    · obtain ⟨b, off, rfl, hbl, c0, c1, c2, c3, c4, c5, c6⟩ := nd_at HC.out i (by rw [HN.out]; exact hlt)
      have HCE : Hid (∀ k : Nat, k < n → w.cell? ⟨b, off + k * 7 + 1, none⟩ = some (.int .i64 (nP l k))) := fun k hk => by
        obtain ⟨b', off', he, _, _, k1, _⟩ := nd_at HC.out k (by rw [HN.out]; exact hk)
        simp only [Option.some.injEq, Addr.mk.injEq, and_true] at he
        obtain ⟨rfl, rfl⟩ := he
        exact k1
      have i1 : (i : Int) < (n : Int) := by omega
      have i2 : (0 : Int) ≤ (i : Int) := by omega
      obtain ⟨p, hp⟩ : ∃ p, nP l i = p := ⟨_, rfl⟩
      obtain ⟨d, hd⟩ : ∃ p, nD l i = p := ⟨_, rfl⟩
      obtain ⟨bh, hbh⟩ : ∃ p, nB l i = p := ⟨_, rfl⟩
      obtain ⟨lf, hlf⟩ : ∃ p, nL l i = p := ⟨_, rfl⟩
      rw [hp] at c1
      rw [hd] at c2
      rw [hbh] at c3
      rw [hlf] at c6
      obtain ⟨OK, hOK⟩ : ∃ x, (decide (p = -1) || okR (nP l) p i ((i : Int) - 1)) = x := ⟨_, rfl⟩
      obtain ⟨DV, hDV⟩ : ∃ x, dpR (nP l) i p = x := ⟨_, rfl⟩
      obtain ⟨BV, hBV⟩ : ∃ x, bhR (nP l) i (n - (i + 1)) (i + 1) = x := ⟨_, rfl⟩
      have HFR : Hid (FR n (nD l) (nP l) (nB l) (nL l) i ↔ (OK = true ∧ d = (DV : Int) ∧ bh = (BV : Int) ∧ lf = decide ((BV : Int) = (i : Int) + 1))) := by
        unfold FR
        rw [hp, hd, hbh, hlf, hDV, hBV, ← hOK]
        rw [Bool.or_eq_true, decide_eq_true_eq]
        constructor
        · rintro ⟨h1, h2, h3, h4⟩
          rw [h3] at h4
          exact ⟨h1, h2, h3, h4⟩
        · rintro ⟨h1, h2, h3, h4⟩
          refine ⟨h1, h2, h3, ?_⟩
          rw [h3]; exact h4
      have HOK := hidOf hOK
      have HDV := hidOf hDV
      have HBV := hidOf hBV
      have HPI := hidOf hp
      have hDl : DV ≤ i := by rw [← hDV]; exact dpR_le (n := n) i p
      have hBl : BV ≤ n := by rw [← hBV]; have := bhR_le (nP l) i (n - (i + 1)) (i + 1); omega
      clear hp hd hbh hlf hOK hDV hBV c0 c4 c5
      go_upto_block 2 with fail
      go_cut [4, 5] from 25 to 42 (fun u4 u5 wc => u4 = .bool OK ∧ Hid (w = wc))
      case first =>
        have hst : Hid (((p == -1) || okR (nP l) p (((i : Int) - 1) + 1).toNat ((i : Int) - 1)) = OK) := by
          have := HOK.out
          have e : (((i : Int) - 1) + 1).toNat = i := by omega
          rw [e]
          exact this
        go_wp2_with fail
        go_loop [4, 5] (fun s t => ∃ (o : Bool) (k : Int), -1 ≤ k ∧ k < i ∧ s = .bool o ∧ t = .int .i64 k ∧ Hid ((o || okR (nP l) p (k + 1).toNat k) = OK)) (fun _ t => (RowKit.intOf t + 1).toNat)
        case atStart => exact ⟨_, _, by omega, by omega, rfl, rfl, hst⟩
        case round =>
          obtain ⟨o, k, hk0, hk1, rfl, rfl, HO⟩ := hrel
          by_cases hneg : k < 0
          · have e : o = OK := by
              rw [← HO.out]
              have : k = -1 := by omega
              rw [this]
              show o = (o || false)
              rw [Bool.or_false]
            subst e
            go_wp2
            go_meet
            case rel => exact ⟨rfl, rfl⟩
          · cases o with
            | true =>
              have e : true = OK := by rw [← HO.out]; rfl
              subst e
              have i3 : (0 : Int) ≤ k := by omega
              go_wp2
              go_meet
              case rel => exact ⟨rfl, rfl⟩
            | false =>
              obtain ⟨kn, rfl⟩ : ∃ kn : Nat, k = kn := ⟨k.toNat, by omega⟩
              have i3 : (0 : Int) ≤ (kn : Int) := by omega
              have i4 : (kn : Int) < (n : Int) := by omega
              have hA := HI.out.1 kn (by omega)
              have HO2 : Hid ((p == (kn : Int) || okR (nP l) p (nP l kn + 1).toNat (nP l kn)) = OK) := by
                have := HO.out
                rw [Bool.false_or, okR_step HI.out.1 p (by omega)] at this
                exact this
              have k1 := HCE.out kn (by omega)
              obtain ⟨pk, hpk⟩ : ∃ x, nP l kn = x := ⟨_, rfl⟩
              rw [hpk] at k1 hA HO2
              clear hpk hneg
              go_wp2
              go_round
              case rel => exact ⟨_, _, hA.1, by omega, rfl, rfl, HO2⟩
              case measure => simp [RowKit.intOf]; omega
      case rest =>
      obtain ⟨rfl, hwc⟩ := hcut
      obtain rfl := hwc.out
      clear hwc
      have HOA : Hid (OK = true → Ahd (i + 1) (nP l) ∧ -1 ≤ p ∧ p < i) := fun h => by
        have h2 := HOK.out
        rw [h, Bool.or_eq_true, decide_eq_true_eq, ← HPI.out] at h2
        have hA := fr_ahd (n := n) HI.out.1 h2
        have := hA i (by omega)
        rw [HPI.out] at this
        exact ⟨hA, this⟩
      clear HOK
      cases OK with
      | false =>
        have hF := HF.out (fun h => by have := (HFR.out.1 (h.2 i hlt)).1; simp at this)
        subst hF
        go_wp2
        go_ret
        exact ⟨rfl, rfl⟩
      | true =>
      have HA2 : Hid (Ahd (i + 1) (nP l) ∧ -1 ≤ p ∧ p < i) := HOA.out rfl
      go_upto_block 4 with fail
      go_cut [6, 7] from 50 to 58 (fun u6 u7 wc => u6 = .int .i64 (DV : Int) ∧ Hid (w = wc))
      case first =>
        have hst : Hid (0 + dpR (nP l) (p + 1).toNat p = DV) := by
          have := HDV.out
          rw [dpR_more HA2.out.1 i p HA2.out.2.1 HA2.out.2.2 (by have := HA2.out.2.2; omega)] at this
          rw [Nat.zero_add]; exact this
        have hp0 := HA2.out.2
        go_wp2_with fail
        go_loop [6, 7] (fun s t => ∃ (dd : Nat) (k : Int), -1 ≤ k ∧ k < i ∧ s = .int .i64 (dd : Int) ∧ t = .int .i64 k ∧ Hid (dd + dpR (nP l) (k + 1).toNat k = DV)) (fun _ t => (RowKit.intOf t + 1).toNat)
        case atStart => exact ⟨0, p, by omega, by omega, rfl, rfl, hst⟩
        case round =>
          clear hst hp0
          obtain ⟨dd, k, hk0, hk1, rfl, rfl, HO⟩ := hrel
          by_cases hneg : k < 0
          · have e : dd = DV := by
              rw [← HO.out]
              have : k = -1 := by omega
              rw [this]
              rfl
            subst e
            have i3 : ¬ (0 : Int) ≤ k := by omega
            go_wp2
            go_meet
            case rel => exact ⟨rfl, rfl⟩
          · obtain ⟨kn, rfl⟩ : ∃ kn : Nat, k = kn := ⟨k.toNat, by omega⟩
            have i3 : (0 : Int) ≤ (kn : Int) := by omega
            have i4 : (kn : Int) < (n : Int) := by omega
            have hA := HI.out.1 kn (by omega)
            have HO2 : Hid (dd + 1 + dpR (nP l) (nP l kn + 1).toNat (nP l kn) = DV) := by
              have := HO.out
              rw [dpR_step HI.out.1 (by omega)] at this
              exact (Nat.add_assoc _ _ _).trans this
            have hdd : dd ≤ 40 := by have := HO.out; omega
            have k1 := HCE.out kn (by omega)
            obtain ⟨pk, hpk⟩ : ∃ x, nP l kn = x := ⟨_, rfl⟩
            rw [hpk] at k1 hA HO2
            clear hpk hneg
            go_wp2
            go_round
            case rel => exact ⟨dd + 1, pk, hA.1, by omega, by go_num, rfl, HO2⟩
            case measure => simp [RowKit.intOf]; omega
      case rest =>
      obtain ⟨rfl, hwc⟩ := hcut
      obtain rfl := hwc.out
      clear hwc HDV
      go_upto_block 6 with fail
      go_cut [8] from 61 to 72 (fun u8 wc => u8 = .int .i64 (BV : Int) ∧ Hid (w = wc))
      case first =>
        have ei : ((i + 1 : Nat) : Int) = (i : Int) + 1 := by omega
        have HEI := hidOf ei
        clear ei
        go_wp2_with fail
        go_loop [8] (fun t => ∃ (k : Nat), i + 1 ≤ k ∧ k ≤ n ∧ t = .int .i64 (k : Int) ∧ Hid (bhR (nP l) i (n - k) k = BV)) (fun t => n - (RowKit.intOf t).toNat)
        case atStart => exact ⟨i + 1, Nat.le_refl _, by omega, by rw [HEI.out], HBV⟩
        case round =>
          obtain ⟨k, hk0, hk1, rfl, HO⟩ := hrel
          by_cases hkn : k < n
          · have hl := HLS.out k hkn i
            have HO2 : Hid ((if lsR (nP l) i (k + 1) k then bhR (nP l) i (n - (k + 1)) (k + 1) else k) = BV) := by
              have := HO.out
              have e : n - k = (n - (k + 1)) + 1 := by omega
              rw [e, bhR] at this
              exact this
            have i3 : (k : Int) < (n : Int) := by omega
            cases hx : lsR (nP l) i (k + 1) k with
            | false =>
              rw [hx] at hl
              have e : k = BV := by have := HO2.out; rw [hx] at this; exact this
              subst e
              clear hx
              go_wp2_with (first | (go_at_call 36; refine hl.mono ?_; rintro e w1 ⟨rfl, rfl⟩) | fail)
              go_meet
              case rel => exact ⟨rfl, rfl⟩
            | true =>
              rw [hx] at hl
              have HO3 : Hid (bhR (nP l) i (n - (k + 1)) (k + 1) = BV) := by have := HO2.out; rw [hx] at this; exact this
              clear hx
              go_wp2_with (first | (go_at_call 36; refine hl.mono ?_; rintro e w1 ⟨rfl, rfl⟩) | fail)
              go_round
              case rel => exact ⟨k + 1, by omega, by omega, by go_num, HO3⟩
              case measure => simp [RowKit.intOf]; omega
          · have e : k = BV := by
              rw [← HO.out]
              have : n - k = 0 := by omega
              rw [this]; rfl
            subst e
            have i3 : ¬ (k : Int) < (n : Int) := by omega
            go_wp2
            go_meet
            case rel => exact ⟨rfl, rfl⟩
      case rest =>
      obtain ⟨rfl, hwc⟩ := hcut
      obtain rfl := hwc.out
      clear hwc HBV
      obtain ⟨L, hL⟩ : ∃ L, ((BV : Int) == (i : Int) + 1) = L := ⟨_, rfl⟩
      have HL : Hid (decide ((BV : Int) = (i : Int) + 1) = L) := hL
      have hx : ((d == (DV : Int)) = false ∧ ¬ FR n (nD l) (nP l) (nB l) (nL l) i) ∨ (d = (DV : Int) ∧ (bh == (BV : Int)) = false ∧ ¬ FR n (nD l) (nP l) (nB l) (nL l) i) ∨ (d = (DV : Int) ∧ bh = (BV : Int) ∧ (lf == L) = false ∧ ¬ FR n (nD l) (nP l) (nB l) (nL l) i) ∨ (d = (DV : Int) ∧ bh = (BV : Int) ∧ lf = L ∧ FR n (nD l) (nP l) (nB l) (nL l) i) := by
        by_cases h1 : d = (DV : Int)
        · by_cases h2 : bh = (BV : Int)
          · by_cases h3 : lf = L
            · exact .inr (.inr (.inr ⟨h1, h2, h3, HFR.out.2 ⟨rfl, h1, h2, h3.trans HL.out.symm⟩⟩))
            · exact .inr (.inr (.inl ⟨h1, h2, beq_eq_false_iff_ne.2 h3, fun h => h3 ((HFR.out.1 h).2.2.2.trans HL.out)⟩))
          · exact .inr (.inl ⟨h1, beq_eq_false_iff_ne.2 h2, fun h => h2 (HFR.out.1 h).2.2.1⟩)
        · exact .inl ⟨beq_eq_false_iff_ne.2 h1, fun h => h1 (HFR.out.1 h).2.1⟩
      rcases hx with ⟨u1, hne⟩ | ⟨rfl, u1, hne⟩ | ⟨rfl, rfl, u1, hne⟩ | ⟨rfl, rfl, rfl, he⟩
      · have hF := HF.out (fun h => hne (h.2 i hlt))
        subst hF
        have u2 : (d != (DV : Int)) = true := by simp [bne, u1]
        go_wp2
        go_ret
        exact ⟨rfl, rfl⟩
      · have hF := HF.out (fun h => hne (h.2 i hlt))
        subst hF
        have u2 : (bh != (BV : Int)) = true := by simp [bne, u1]
        go_wp2
        go_ret
        exact ⟨rfl, rfl⟩
      · have hF := HF.out (fun h => hne (h.2 i hlt))
        subst hF
        have u2 : (lf != L) = true := by simp [bne, u1]
        go_wp2
        go_ret
        exact ⟨rfl, rfl⟩
      · go_wp2
        go_round
        case rel => exact ⟨i + 1, hlt, by go_num, ⟨HA2.out.1, fun m hm => by
          rcases Nat.lt_or_ge m i with h2 | h2
          · exact HI.out.2 m h2
          · have h3 : m = i := by omega
            rw [h3]; exact he⟩⟩
        case measure => simp [RowKit.intOf]; omega
    · have i1 : ¬ (i : Int) < (n : Int) := by omega
      have hT := HT.out ⟨by omega, fun m hm => HI.out.2 m (by omega)⟩
      subst hT
      go_wp2
      go_ret
      exact ⟨rfl, rfl⟩
end Go.Proofs.Ytdekboacjjpjeaa
