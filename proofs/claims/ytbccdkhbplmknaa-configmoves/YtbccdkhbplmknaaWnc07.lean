import Derived.Test.YtbccdkhbplmknaaWnc06
import Derived.Test.YtbccdkhbplmknaaWnc05
import Derived.Test.YtbccdkhbplmknaaWnc04
import Derived.Test.YtbccdkhbplmknaaWnc01
import Derived.ProofKit
import Derived.OpenShut
import Derived.ShutString
import Derived.ChangeOld
import Derived.SizedLaws
import Derived.Below
import Derived.Test.YtbccdkhbplmknaaRows
import Derived.Test.YtbccdkhbplmknaaWnc02
import Derived.Deep.Slices
import Derived.Test.YtbccdkhbplmknaaWnc03

/- What the document's Enter, Leave and Move answer. -/
namespace Go.Proofs.Ytbccdkhbplmknaa
open Go.RowKit Go.Lib
set_option linter.unusedSimpArgs false
set_option linter.unusedVariables false
attribute [local go_sem ↓] Go.wp_at_zero Go.wp_at_succ

theorem wrap_less (n : Int) (h0 : -1 ≤ n) (h1 : n < 9223372036854775808) : IntKind.i64.wrap n = n := by
  unfold IntKind.wrap
  simp [IntKind.bits, IntKind.signed]
  omega
/-- On the way up to o. -/
def Upw (l : List Nd) (o : Int) (i k : Nat) : Prop := k < l.length ∧ hoB l k i = true ∧ (o = -1 ∨ ∃ q : Nat, o = q ∧ q < k ∧ k < bN l q)
theorem upw_step {l : List Nd} (hf : fmB l = true) {o : Int} {i k : Nat} (h : Upw l o i k) (hne : nP l k ≠ o) : ∃ p : Nat, nP l k = p ∧ p < k ∧ Upw l o i p := by
  obtain ⟨h1, h2, h3⟩ := h
  have hp := (fmB_fm hf).plt (i := k) h1
  have h0 : 0 ≤ nP l k := by
    rcases h3 with rfl | ⟨q, rfl, h4, h5⟩
    · omega
    · have := (par_of hf (x := q) (by omega) h1 ⟨h4, h5⟩).1
      omega
  obtain ⟨p, hpe⟩ : ∃ p : Nat, nP l k = p := ⟨(nP l k).toNat, by omega⟩
  have hin := par_in hf h1 hpe
  have hpl : p < l.length := by omega
  have hn := nest hf hpl h1 hin
  have hi := (hoB_nat hf h1).1 h2
  refine ⟨p, hpe, by omega, hpl, (hoB_nat hf hpl).2 ⟨by omega, by omega⟩, ?_⟩
  rcases h3 with rfl | ⟨q, rfl, h4, h5⟩
  · exact .inl rfl
  · have := (par_of hf (x := q) (by omega) h1 ⟨h4, h5⟩).1
    exact .inr ⟨q, rfl, by omega, by omega⟩
theorem upw_start {l : List Nd} {o : Int} {i : Nat} (hin : i < l.length) (hw : wiB l i o = true) (hne : (i : Int) ≠ o) : Upw l o i i := by
  have hf := wiB_fm hw
  have hb := bN_lt hf hin
  refine ⟨hin, (hoB_nat hf hin).2 ⟨by omega, by omega⟩, ?_⟩
  by_cases ho : o = -1
  · exact .inl ho
  · right
    have h2 : nmB l.length o = true := by
      unfold wiB at hw
      rw [hf, if_neg ho, Bool.true_and, Bool.and_eq_true, Bool.and_eq_true] at hw
      exact hw.1.2
    obtain ⟨q, rfl, hq⟩ := nmB_true h2
    have h3 := wiB_in hf hin hq (by omega) hw
    have h4 := (in_iff hf hq hin).2 h3
    exact ⟨q, rfl, h4.1, h4.2⟩
theorem nmB_not {n : Nat} {i : Int} (h : nmB n i = false) : ¬ ∃ k : Nat, i = k ∧ k < n := by
  rintro ⟨k, rfl, hk⟩
  rw [nmB_nat hk] at h
  cases h
set_option maxRecDepth 100000 in
set_option maxHeartbeats 8000000 in
theorem enterR_any {ok : Nat → Prop} {w : World} {l : List Nd} {v : Value} (h : RdNd ok w l v) (o i : Int) :
    Calls Try.prog 49 #[v, .int .i64 o, .int .i64 i] w fun e w' => ∃ a n c, e = .returned (.slice a n c) ∧ OwnK w' w.heap.size 3 1 rInt (.slice a n c) (etB l o i) ∧ Below w.heap.size w w' := by
  obtain ⟨a, cap, rfl, hlc, hcm⟩ := h.form
  have hfm := formedR_any h
  have hst := fun w1 => stateR_any (w := w1) (a := a) (n := l.length) (cap := cap) i hlc hcm
  have hwi := fun w1 (b1 : Below w.heap.size w w1) => withinR_any (h.on kp_nd b1) i o
  unfold maxLen at hcm
  cases hf : fmB l with
  | false =>
    have e : etB l o i = [] := by
      unfold etB
      rw [if_pos (.inr (by unfold wiB; rw [hf]; rfl))]
    rw [hf] at hfm
    rw [e]
    go_enter Try.func49, Try.ntmps49
    go_wp2_with (first | (go_at_call 45; refine hfm.mono ?_; rintro e w1 ⟨rfl, rfl⟩) | fail)
    go_ret
    exact ⟨_, _, _, rfl, ownK_nil _ _ _ _ _, Below.refl _ _⟩
  | true =>
    rw [hf] at hfm
    have h40 := fm_40 hf
    cases h1 : nmB l.length i with
    | false =>
      have e : etB l o i = [] := by
        unfold etB
        by_cases h2 : i = o
        · rw [if_pos (.inl h2)]
        · have hw0 : wiB l i o = false := by
            cases hw : wiB l i o
            · rfl
            · exact absurd (wiB_num hw h2) (nmB_not h1)
          rw [if_pos (.inr hw0)]
      rw [h1] at hst
      rw [e]
      go_enter Try.func49, Try.ntmps49
      go_wp2_with (first | (go_at_call 45; refine hfm.mono ?_; rintro e w1 ⟨rfl, rfl⟩) | (go_at_call 46; refine (hst _).mono ?_; rintro e w2 ⟨rfl, rfl⟩) | fail)
      go_ret
      exact ⟨_, _, _, rfl, ownK_nil _ _ _ _ _, Below.refl _ _⟩
    | true =>
      rw [h1] at hst
      obtain ⟨k0, rfl, hin⟩ := nmB_true h1
      by_cases hoi : o = (k0 : Int)
      · have e : etB l o k0 = [] := by unfold etB; rw [if_pos (.inl hoi.symm)]
        rw [e]
        have q1 : (o == (k0 : Int)) = true := by simp [hoi]
        clear hoi e
        go_enter Try.func49, Try.ntmps49
        go_wp2_with (first | (go_at_call 45; refine hfm.mono ?_; rintro e w1 ⟨rfl, rfl⟩) | (go_at_call 46; refine (hst _).mono ?_; rintro e w2 ⟨rfl, rfl⟩) | fail)
        go_ret
        exact ⟨_, _, _, rfl, ownK_nil _ _ _ _ _, Below.refl _ _⟩
      have q1 : (o == (k0 : Int)) = false := beq_eq_false_iff_ne.2 hoi
      cases hw : wiB l k0 o with
      | false =>
        have e : etB l o k0 = [] := by unfold etB; rw [if_pos (.inr hw)]
        rw [e]
        rw [hw] at hwi
        clear hoi e
        go_enter Try.func49, Try.ntmps49
        go_wp2_with (first | (go_at_call 45; refine hfm.mono ?_; rintro e w1 ⟨rfl, rfl⟩) | (go_at_call 46; refine (hst _).mono ?_; rintro e w2 ⟨rfl, rfl⟩) | (go_at_call 65; refine (hwi _ (Below.refl _ _)).mono ?_; rintro e w3 ⟨rfl, rfl⟩) | fail)
        go_ret
        exact ⟨_, _, _, rfl, ownK_nil _ _ _ _ _, Below.refl _ _⟩
      | true =>
        rw [hw] at hwi
        have HUP0 := hidOf (upw_start hin hw (fun e => hoi e.symm))
        have HET : Hid (etB l o k0 = numS (enS l o k0) 40) := by
          show etB l o k0 = _
          unfold etB
          rw [if_neg (by simp [hw]; exact fun e => hoi e.symm)]
        have HTS := hidOf (fun (x : Nat) (hx : Upw l o k0 x) (hp : nP l x = o) => et_ts hf hx.1 hin hp hx.2.1)
        have HTW := hidOf (fun (x : Nat) (hx : Upw l o k0 x) => tw_ts hf hin l.length x hx.1 (by omega) hx.2.1)
        have HSTEP := hidOf (fun (k : Nat) (hk : Upw l o k0 k) hne => upw_step hf hk hne)
        have hto := fun (x : Nat) (hx : Upw l o k0 x) => tw_all hf hin l.length ok w _ x h hx.1 (by omega) hx.2.1
        have HC := hidOf h
        obtain ⟨n, hn⟩ : ∃ n, l.length = n := ⟨_, rfl⟩
        simp only [hn] at hlc hfm hst hwi hto HTW hin
        rw [hn]
        have HN := hidOf hn
        clear h hn hoi hw h1
        go_enter Try.func49, Try.ntmps49
        go_wp2_with (first | (go_at_call 45; refine hfm.mono ?_; rintro e w1 ⟨rfl, rfl⟩) | (go_at_call 46; refine (hst _).mono ?_; rintro e w2 ⟨rfl, rfl⟩) | (go_at_call 65; refine (hwi _ (Below.refl _ _)).mono ?_; rintro e w3 ⟨rfl, rfl⟩) | fail)
        clear hfm hst hwi
        go_loop [7] (fun ix => ∃ (k : Nat), ix = .int .i64 (k : Int) ∧ Hid (Upw l o k0 k)) (fun ix => (RowKit.intOf ix).toNat)
        case atStart => exact ⟨k0, rfl, HUP0⟩
        case round =>
          obtain ⟨k, rfl, HU⟩ := hrel
          have hkl : k < l.length := HU.out.1
          have hkn : k < n := by rw [← HN.out]; exact hkl
          obtain ⟨b, off, rfl, hbl, c0, c1, c2, c3, c4, c5, c6⟩ := nd_at HC.out k hkl
          clear c0 c2 c3 c4 c5 c6
          have j1 : (k : Int) < (n : Int) := by omega
          have j2 : (0 : Int) ≤ (k : Int) := by omega
          by_cases hp : nP l k = o
          · have q2 : (nP l k != o) = false := by simp [hp]
            have hts := HTS.out k HU.out hp
            have htw := HTW.out k HU.out
            have hcall := hto k HU.out
            have HFIN : Hid (etB l o k0 = toI (twL l k0 n k)) := by show etB l o k0 = _; rw [HET.out, hts, htw]; rfl
            clear hts htw hto hp
            go_wp2_with (first | (go_at_call 66; refine hcall.mono ?_; rintro e w5 ⟨sa, sn, sc, rfl, hO2, b2⟩) | fail)
            go_ret
            exact ⟨_, _, _, rfl, by rw [HFIN.out]; exact hO2.k, b2⟩
          · have q2 : (nP l k != o) = true := by simp [hp]
            obtain ⟨p, hpe, hpk, HU2⟩ := HSTEP.out k HU.out hp
            rw [hpe] at c1 q2
            clear hto hp hpe
            go_wp2
            go_round
            case rel => exact ⟨p, rfl, HU2⟩
            case measure => simp [RowKit.intOf]; omega
/-- Which are left, as the document has it. -/
def lvR (l : List Nd) (xs : List Int) (o : Int) : Nat → Bool := fun i => decide ((i : Int) ≠ o) && (xs.contains (i : Int) && wiB l i o)
theorem numS_cut {s t : Nat → Bool} {n m : Nat} (hnm : n ≤ m) (h : ∀ i < n, s i = t i) (h0 : ∀ i, n ≤ i → s i = false) : numS s m = numS t n := by
  unfold numS
  congr 1
  have h1 := rng_split 0 n m (by omega) hnm
  rw [List.range_eq_range', List.range_eq_range']
  simp only [Nat.sub_zero] at h1
  rw [h1, List.filter_append]
  have e2 : (List.range' n (m - n)).filter s = [] := by
    apply List.filter_eq_nil_iff.2
    intro k hk
    rw [List.mem_range'_1] at hk
    rw [h0 k hk.1]
    simp
  rw [e2, List.append_nil]
  apply List.filter_congr
  intro k hk
  rw [List.mem_range'_1] at hk
  exact h k (by omega)
theorem lvB_ref {l : List Nd} (hf : fmB l = true) {xs : List Int} {o : Int} (ho : o = -1 ∨ nmB l.length o = true) : lvB l xs o = (numS (lvR l xs o) l.length).reverse := by
  unfold lvB
  rw [if_pos (by rw [hf]; rcases ho with h | h <;> simp [h])]
  congr 1
  refine numS_cut (fm_40 hf) (fun i hi => ?_) (fun i hi => ?_)
  · unfold lvS lvR stO
    rw [decide_eq_true hi, Bool.true_and]
    have e : hoB l o i = wiB l i o := by
      rcases ho with rfl | h
      · unfold hoB wiB
        rw [hf, nmB_nat hi]
        simp
      · obtain ⟨q, rfl, hq⟩ := nmB_true h
        exact (wiB_hoB hf hi hq).symm
    rw [e]
    cases xs.contains (i : Int) <;> cases wiB l i o <;> cases decide ((i : Int) ≠ o) <;> rfl
  · unfold lvS stO
    rw [decide_eq_false (by omega)]
    rfl
/-- From the last one down to j. -/
def lvD (l : List Nd) (xs : List Int) (o : Int) (j : Nat) : List Int := (toI ((List.range' j (l.length - j)).filter (lvR l xs o))).reverse
theorem lvD_end (l : List Nd) (xs : List Int) (o : Int) : lvD l xs o 0 = (numS (lvR l xs o) l.length).reverse := by
  unfold lvD numS toI
  rw [List.range_eq_range', Nat.sub_zero]
theorem lvD_step (l : List Nd) (xs : List Int) (o : Int) (j : Nat) (hj : j < l.length) : lvD l xs o j = if lvR l xs o j then lvD l xs o (j + 1) ++ [(j : Int)] else lvD l xs o (j + 1) := by
  unfold lvD
  rw [show l.length - j = (l.length - (j + 1)) + 1 by omega, List.range'_succ]
  cases h : lvR l xs o j
  · rw [List.filter_cons_of_neg (by simp [h])]; rfl
  · rw [List.filter_cons_of_pos h]
    simp [toI]
theorem lvD_len (l : List Nd) (xs : List Int) (o : Int) (j : Nat) : (lvD l xs o j).length ≤ l.length := by
  unfold lvD
  rw [List.length_reverse, toI_len]
  have := List.length_filter_le (lvR l xs o) (List.range' j (l.length - j))
  rw [List.length_range'] at this
  omega
theorem lvD_all (l : List Nd) (xs : List Int) (o : Int) : lvD l xs o l.length = [] := by
  unfold lvD
  rw [Nat.sub_self]
  rfl
set_option maxRecDepth 100000 in
set_option maxHeartbeats 8000000 in
theorem leaveR_any {ok ok' : Nat → Prop} {w : World} {l : List Nd} {xs : List Int} {v u : Value} (h : RdNd ok w l v) (hx : RdZs ok' w xs u) (o : Int) :
    Calls Try.prog 48 #[v, u, .int .i64 o] w fun e w' => ∃ a n c, e = .returned (.slice a n c) ∧ OwnK w' w.heap.size 3 1 rInt (.slice a n c) (lvB l xs o) ∧ Below w.heap.size w w' := by
  obtain ⟨a, cap, rfl, hlc, hcm⟩ := h.form
  obtain ⟨xa, xc, rfl, _, _⟩ := hx.form
  have hfm := formedR_any h
  have hst := fun w1 => stateR_any (w := w1) (a := a) (n := l.length) (cap := cap) o hlc hcm
  have hwi := fun (i : Nat) w1 (b1 : Below w.heap.size w w1) => withinR_any (h.on kp_nd b1) (i : Int) o
  have hha := fun (i : Nat) w1 (b1 : Below w.heap.size w w1) => has_any (RdK.on kp_int hx b1) (i : Int)
  unfold maxLen at hcm
  cases hf : fmB l with
  | false =>
    have e : lvB l xs o = [] := by unfold lvB; rw [hf]; rfl
    rw [hf] at hfm
    rw [e]
    go_enter Try.func48, Try.ntmps48
    go_wp2_with (first | (go_at_call 45; refine hfm.mono ?_; rintro e w1 ⟨rfl, rfl⟩) | fail)
    go_ret
    exact ⟨_, _, _, rfl, ownK_nil _ _ _ _ _, Below.refl _ _⟩
  | true =>
    rw [hf] at hfm
    have h40 := fm_40 hf
    by_cases ho : o = -1 ∨ nmB l.length o = true
    · have HREF := hidOf ((lvB_ref hf ho (xs := xs)).trans (lvD_end l xs o).symm)
      have HSTEP := hidOf (fun j hj => lvD_step l xs o j hj)
      have HLEN := fun j => lvD_len l xs o j
      have HALL := lvD_all l xs o
      have HV : Hid (∀ i : Nat, lvR l xs o i = (decide ((i : Int) ≠ o) && (xs.contains (i : Int) && wiB l i o))) := fun i => rfl
      obtain ⟨n, hn⟩ : ∃ n, l.length = n := ⟨_, rfl⟩
      simp only [hn] at hlc hfm hst hwi hha HSTEP HLEN HALL h40 ho
      rw [hn]
      clear h hx hn hf
      obtain ⟨i0, hi, hz0, hz1, hz2⟩ := info_int
      have WAYS : (o != -1) = false ∨ ((o != -1) = true ∧ nmB n o = true) := by
        rcases ho with h | h
        · exact .inl (by simp [h])
        · by_cases e : o = -1
          · exact .inl (by simp [e])
          · exact .inr ⟨by simp [e], h⟩
      clear ho
      -- RWAYS
      rcases WAYS with e1 | ⟨e1, hq⟩
      · go_enter Try.func48, Try.ntmps48
        have w0 : IntKind.i64.wrap ((n : Int) - 1) = (n : Int) - 1 := wrap_less _ (by omega) (by omega)
        go_wp2_with (first | (go_at_call 45; refine hfm.mono ?_; rintro e w1 ⟨rfl, rfl⟩) | (go_at_call 46; refine (hst _).mono ?_; rintro e w2 ⟨rfl, rfl⟩) | fail)
        clear hfm hst
        go_loopw [7, 8] (fun t ix wr => ∃ (j : Nat), j ≤ n ∧ ix = .int .i64 ((j : Int) - 1) ∧ OwnK wr w.heap.size 3 1 rInt t (lvD l xs o j) ∧ Below w.heap.size w wr) (fun _ ix _ => (RowKit.intOf ix + 1).toNat)
        case atStart => exact ⟨n, Nat.le_refl _, rfl, by rw [HALL]; exact ownK_nil _ _ _ _ _, Below.refl _ _⟩
        case round =>
          obtain ⟨j', hj, rfl, hO, hb⟩ := hrel
          obtain ⟨va, vc, rfl, hvl, hvm⟩ := hO.form
          cases j' with
          | zero =>
            have i1 : ¬ ((0 : Nat) : Int) - 1 ≥ 0 := by omega
            go_wp2
            go_ret
            exact ⟨_, _, _, rfl, by rw [HREF.out]; exact hO, hb⟩
          | succ j =>
            have ej : ((j + 1 : Nat) : Int) - 1 = (j : Int) := by omega
            rw [ej]
            have i1 : (j : Int) ≥ 0 := by omega
            have w2 : IntKind.i64.wrap ((j : Int) - 1) = (j : Int) - 1 := wrap_less _ (by omega) (by omega)
            have hst := HSTEP.out j (by omega)
            have hv := HV.out j
            have hl := HLEN (j + 1)
            have hc1 := hha j _ hb
            have hc2 := hwi j _ hb
            clear hha hwi HLEN HALL ej
            by_cases he : (j : Int) = o
            · have he' : ((j : Int) != o) = false := by simp [he]
              have hs2 : lvD l xs o j = lvD l xs o (j + 1) := by rw [hst, hv, decide_eq_false (by simpa using he)]; rfl
              have HO : Hid (OwnK wr w.heap.size 3 1 rInt (.slice va (lvD l xs o (j + 1)).length vc) (lvD l xs o j)) := by show OwnK _ _ _ _ _ _ _; rw [hs2]; exact hO
              clear he hst hv hs2
              go_wp2
              go_roundw
              case rel => exact ⟨j, by omega, by go_num, HO.out, hb⟩
              case measure => simp [RowKit.intOf]
            · have he' : ((j : Int) != o) = true := by simp [he]
              rw [decide_eq_true he, Bool.true_and] at hv
              cases hq1 : xs.contains (j : Int) with
              | false =>
                rw [hq1] at hc1 hv
                have hs2 : lvD l xs o j = lvD l xs o (j + 1) := by rw [hst, hv]; rfl
                have HO : Hid (OwnK wr w.heap.size 3 1 rInt (.slice va (lvD l xs o (j + 1)).length vc) (lvD l xs o j)) := by show OwnK _ _ _ _ _ _ _; rw [hs2]; exact hO
                clear he hst hv hs2 hq1
                go_wp2_with (first | (go_at_call 50; refine hc1.mono ?_; rintro e w5 ⟨rfl, rfl⟩) | fail)
                go_roundw
                case rel => exact ⟨j, by omega, by go_num, HO.out, hb⟩
                case measure => simp [RowKit.intOf]
              | true =>
                rw [hq1] at hc1 hv
                cases hq2 : wiB l j o with
                | false =>
                  rw [hq2] at hc2 hv
                  have hs2 : lvD l xs o j = lvD l xs o (j + 1) := by rw [hst, hv]; rfl
                  have HO : Hid (OwnK wr w.heap.size 3 1 rInt (.slice va (lvD l xs o (j + 1)).length vc) (lvD l xs o j)) := by show OwnK _ _ _ _ _ _ _; rw [hs2]; exact hO
                  clear he hst hv hs2 hq1 hq2
                  go_wp2_with (first | (go_at_call 50; refine hc1.mono ?_; rintro e w5 ⟨rfl, rfl⟩) | (go_at_call 65; refine hc2.mono ?_; rintro e w6 ⟨rfl, rfl⟩) | fail)
                  go_roundw
                  case rel => exact ⟨j, by omega, by go_num, HO.out, hb⟩
                  case measure => simp [RowKit.intOf]
                | true =>
                  rw [hq2] at hc2 hv
                  have HS2 : Hid (lvD l xs o j = lvD l xs o (j + 1) ++ [(j : Int)]) := by show _ = _; rw [hst, hv]; rfl
                  clear he hst hv hq1 hq2
                  go_wp2_with (first
                    | (go_at_call 50; refine hc1.mono ?_; rintro e w5 ⟨rfl, rfl⟩)
                    | (go_at_call 65; refine hc2.mono ?_; rintro e w6 ⟨rfl, rfl⟩)
                    | (at_builtin; refine wpList_pushK wr rfl _ _ 59 rfl w.heap.size 3 i0 (.int .i64 0) 1 8 Try.underlying59 hi hz0 hz1 hz2 rfl kp_int (.slice va (lvD l xs o (j + 1)).length vc) (lvD l xs o (j + 1)) (j : Int) [.int .i64 (j : Int)] wr.heap.size rfl rfl rfl (by simp [Value.oneCell']) hO rfl hb.size (fun x hx => (hO.blk x hx).2) (by omega) (by unfold maxLen; omega) hb.size ?_; intro vb wb hOb hgb hbb)
                    | fail)
                  go_wp2
                  go_roundw
                  case rel => exact ⟨j, by omega, by go_num, by rw [HS2.out]; exact hOb, hb.trans hbb⟩
                  case measure => simp [RowKit.intOf]
      · rw [hq] at hst
        go_enter Try.func48, Try.ntmps48
        have w0 : IntKind.i64.wrap ((n : Int) - 1) = (n : Int) - 1 := wrap_less _ (by omega) (by omega)
        go_wp2_with (first | (go_at_call 45; refine hfm.mono ?_; rintro e w1 ⟨rfl, rfl⟩) | (go_at_call 46; refine (hst _).mono ?_; rintro e w2 ⟨rfl, rfl⟩) | fail)
        clear hfm hst
        go_loopw [7, 8] (fun t ix wr => ∃ (j : Nat), j ≤ n ∧ ix = .int .i64 ((j : Int) - 1) ∧ OwnK wr w.heap.size 3 1 rInt t (lvD l xs o j) ∧ Below w.heap.size w wr) (fun _ ix _ => (RowKit.intOf ix + 1).toNat)
        case atStart => exact ⟨n, Nat.le_refl _, rfl, by rw [HALL]; exact ownK_nil _ _ _ _ _, Below.refl _ _⟩
        case round =>
          obtain ⟨j', hj, rfl, hO, hb⟩ := hrel
          obtain ⟨va, vc, rfl, hvl, hvm⟩ := hO.form
          cases j' with
          | zero =>
            have i1 : ¬ ((0 : Nat) : Int) - 1 ≥ 0 := by omega
            go_wp2
            go_ret
            exact ⟨_, _, _, rfl, by rw [HREF.out]; exact hO, hb⟩
          | succ j =>
            have ej : ((j + 1 : Nat) : Int) - 1 = (j : Int) := by omega
            rw [ej]
            have i1 : (j : Int) ≥ 0 := by omega
            have w2 : IntKind.i64.wrap ((j : Int) - 1) = (j : Int) - 1 := wrap_less _ (by omega) (by omega)
            have hst := HSTEP.out j (by omega)
            have hv := HV.out j
            have hl := HLEN (j + 1)
            have hc1 := hha j _ hb
            have hc2 := hwi j _ hb
            clear hha hwi HLEN HALL ej
            by_cases he : (j : Int) = o
            · have he' : ((j : Int) != o) = false := by simp [he]
              have hs2 : lvD l xs o j = lvD l xs o (j + 1) := by rw [hst, hv, decide_eq_false (by simpa using he)]; rfl
              have HO : Hid (OwnK wr w.heap.size 3 1 rInt (.slice va (lvD l xs o (j + 1)).length vc) (lvD l xs o j)) := by show OwnK _ _ _ _ _ _ _; rw [hs2]; exact hO
              clear he hst hv hs2
              go_wp2
              go_roundw
              case rel => exact ⟨j, by omega, by go_num, HO.out, hb⟩
              case measure => simp [RowKit.intOf]
            · have he' : ((j : Int) != o) = true := by simp [he]
              rw [decide_eq_true he, Bool.true_and] at hv
              cases hq1 : xs.contains (j : Int) with
              | false =>
                rw [hq1] at hc1 hv
                have hs2 : lvD l xs o j = lvD l xs o (j + 1) := by rw [hst, hv]; rfl
                have HO : Hid (OwnK wr w.heap.size 3 1 rInt (.slice va (lvD l xs o (j + 1)).length vc) (lvD l xs o j)) := by show OwnK _ _ _ _ _ _ _; rw [hs2]; exact hO
                clear he hst hv hs2 hq1
                go_wp2_with (first | (go_at_call 50; refine hc1.mono ?_; rintro e w5 ⟨rfl, rfl⟩) | fail)
                go_roundw
                case rel => exact ⟨j, by omega, by go_num, HO.out, hb⟩
                case measure => simp [RowKit.intOf]
              | true =>
                rw [hq1] at hc1 hv
                cases hq2 : wiB l j o with
                | false =>
                  rw [hq2] at hc2 hv
                  have hs2 : lvD l xs o j = lvD l xs o (j + 1) := by rw [hst, hv]; rfl
                  have HO : Hid (OwnK wr w.heap.size 3 1 rInt (.slice va (lvD l xs o (j + 1)).length vc) (lvD l xs o j)) := by show OwnK _ _ _ _ _ _ _; rw [hs2]; exact hO
                  clear he hst hv hs2 hq1 hq2
                  go_wp2_with (first | (go_at_call 50; refine hc1.mono ?_; rintro e w5 ⟨rfl, rfl⟩) | (go_at_call 65; refine hc2.mono ?_; rintro e w6 ⟨rfl, rfl⟩) | fail)
                  go_roundw
                  case rel => exact ⟨j, by omega, by go_num, HO.out, hb⟩
                  case measure => simp [RowKit.intOf]
                | true =>
                  rw [hq2] at hc2 hv
                  have HS2 : Hid (lvD l xs o j = lvD l xs o (j + 1) ++ [(j : Int)]) := by show _ = _; rw [hst, hv]; rfl
                  clear he hst hv hq1 hq2
                  go_wp2_with (first
                    | (go_at_call 50; refine hc1.mono ?_; rintro e w5 ⟨rfl, rfl⟩)
                    | (go_at_call 65; refine hc2.mono ?_; rintro e w6 ⟨rfl, rfl⟩)
                    | (at_builtin; refine wpList_pushK wr rfl _ _ 59 rfl w.heap.size 3 i0 (.int .i64 0) 1 8 Try.underlying59 hi hz0 hz1 hz2 rfl kp_int (.slice va (lvD l xs o (j + 1)).length vc) (lvD l xs o (j + 1)) (j : Int) [.int .i64 (j : Int)] wr.heap.size rfl rfl rfl (by simp [Value.oneCell']) hO rfl hb.size (fun x hx => (hO.blk x hx).2) (by omega) (by unfold maxLen; omega) hb.size ?_; intro vb wb hOb hgb hbb)
                    | fail)
                  go_wp2
                  go_roundw
                  case rel => exact ⟨j, by omega, by go_num, by rw [HS2.out]; exact hOb, hb.trans hbb⟩
                  case measure => simp [RowKit.intOf]
      -- END RWAYS
    · have e : lvB l xs o = [] := by
        unfold lvB
        rw [if_neg]
        simp at ho ⊢
        exact fun _ => ho
      rw [e]
      have e1 : (o != -1) = true := by simp; exact fun e => ho (.inl e)
      have e2 : nmB l.length o = false := by simpa using fun e => ho (.inr e)
      rw [e2] at hst
      clear e
      go_enter Try.func48, Try.ntmps48
      go_wp2_with (first | (go_at_call 45; refine hfm.mono ?_; rintro e w1 ⟨rfl, rfl⟩) | (go_at_call 46; refine (hst _).mono ?_; rintro e w2 ⟨rfl, rfl⟩) | fail)
      go_ret
      exact ⟨_, _, _, rfl, ownK_nil _ _ _ _ _, Below.refl _ _⟩

def FewOut (l : List Nd) (e : Ending) : Prop := ∃ b : Bool, e = .returned (.bool b) ∧ (b = true → l.length ≤ 60)
set_option maxRecDepth 100000 in
set_option maxHeartbeats 4000000 in
theorem fewN_any {ok : Nat → Prop} {w : World} {l : List Nd} {v : Value} (h : RdNd ok w l v) :
    Calls Try.prog 39 #[v] w fun e w' => FewOut l e ∧ w = w' := by
  obtain ⟨a, cap, rfl, hlc, hcm⟩ := h.form
  unfold maxLen at hcm
  have HC := hidOf h
  obtain ⟨n, hn⟩ : ∃ n, l.length = n := ⟨_, rfl⟩
  rw [hn] at hlc ⊢
  have HN := hidOf hn
  clear h hn
  go_enter Try.func39, Try.ntmps39
  go_wp2
  go_loop [6] (fun ix => ∃ (j : Nat), j ≤ n ∧ j ≤ 60 ∧ ix = .int .i64 (j : Int)) (fun ix => n - (RowKit.intOf ix).toNat)
  case atStart => exact ⟨0, Nat.zero_le _, by omega, rfl⟩
  case round =>
    obtain ⟨j, hj, hj6, rfl⟩ := hrel
    by_cases hlt : j < n
    · obtain ⟨b, off, rfl, hbl, c0, c1, c2, c3, c4, c5, c6⟩ := nd_at HC.out j (by rw [HN.out]; exact hlt)
      generalize (nAt l j).1 = x0 at *
      clear c1 c2 c3 c4 c5 c6
      have i1 : (j : Int) < (n : Int) := by omega
      have i2 : (0 : Int) ≤ (j : Int) := by omega
      by_cases h60 : j = 60
      · have i3 : (j : Int) ≥ 60 := by omega
        clear h60
        go_wp2
        go_ret
        exact ⟨⟨false, rfl, fun h => by simp at h⟩, rfl⟩
      have i3 : ¬ (j : Int) ≥ 60 := by omega
      by_cases hb : 1000 < x0.size
      · have i4 : (x0.size : Int) > 1000 := by omega
        clear hb
        go_wp2
        go_ret
        exact ⟨⟨false, rfl, fun h => by simp at h⟩, rfl⟩
      · have i4 : ¬ (x0.size : Int) > 1000 := by omega
        clear hb
        go_wp2
        go_round
        case rel => exact ⟨j + 1, hlt, by omega, by go_num⟩
        case measure => simp [RowKit.intOf]; omega
    · have i1 : ¬ (j : Int) < (n : Int) := by omega
      go_wp2
      go_ret
      exact ⟨⟨true, rfl, fun _ => by rw [HN.out]; omega⟩, rfl⟩
set_option maxRecDepth 100000 in
set_option maxHeartbeats 4000000 in
theorem theirsN_any {ok : Nat → Prop} {w : World} {l : List Nd} {v : Value} (h : RdNd ok w l v) (h60 : l.length ≤ 60) :
    Calls Try.prog 15 #[v] w fun e w' => ∃ u, e = .returned u ∧ RdNd (fun b => w.heap.size ≤ b) w' l u ∧ Below w.heap.size w w' := by
  obtain ⟨a, cap, rfl, hlc, hcm⟩ := h.form
  unfold maxLen at hcm
  have HC := hidOf h
  obtain ⟨n, hn⟩ : ∃ n, l.length = n := ⟨_, rfl⟩
  rw [hn] at hlc h60 ⊢
  have HN := hidOf hn
  clear h hn
  obtain ⟨i0, hi, hz0, hz1, hz2⟩ := info_parts Try.infoNdP
  go_enter Try.func15, Try.ntmps15
  go_wp2
  go_loopw [3, 7] (fun t ix wr => ∃ (j : Nat), j ≤ n ∧ ix = .int .i64 (j : Int) ∧ OwnK wr w.heap.size 72 7 rNd t (l.take j) ∧ Below w.heap.size w wr) (fun _ ix _ => n - (RowKit.intOf ix).toNat)
  case atStart => exact ⟨0, Nat.zero_le _, rfl, ownK_nil _ _ _ _ _, Below.refl _ _⟩
  case round =>
    obtain ⟨j, hj, rfl, hO, hb⟩ := hrel
    have hlj : (l.take j).length = j := by rw [List.length_take, HN.out]; omega
    obtain ⟨va, vc, hv, hvl, hvm⟩ := hO.form
    rw [hlj] at hv hvl
    subst hv
    have HLJ := hidOf hlj
    clear hlj
    by_cases hlt : j < n
    · have hjl : j < l.length := by rw [HN.out]; exact hlt
      obtain ⟨b, off, rfl, hbl, c0, c1, c2, c3, c4, c5, c6⟩ := nd_at HC.out j hjl
      replace c0 := (hb.cell (p := ⟨b, off + j * 7, none⟩) hbl).trans c0
      replace c1 := (hb.cell (p := ⟨b, off + j * 7 + 1, none⟩) hbl).trans c1
      replace c2 := (hb.cell (p := ⟨b, off + j * 7 + 2, none⟩) hbl).trans c2
      replace c3 := (hb.cell (p := ⟨b, off + j * 7 + 3, none⟩) hbl).trans c3
      replace c4 := (hb.cell (p := ⟨b, off + j * 7 + 4, none⟩) hbl).trans c4
      replace c5 := (hb.cell (p := ⟨b, off + j * 7 + 5, none⟩) hbl).trans c5
      replace c6 := (hb.cell (p := ⟨b, off + j * 7 + 6, none⟩) hbl).trans c6
      have HS : Hid (l.take (j + 1) = l.take j ++ [nAt l j]) := by
        show _ = _
        rw [List.take_succ_eq_append_getElem hjl, nAt_get hjl]
      have hrn : rNd (fun b => wr.heap.size ≤ b) wr (nAt l j) [.string (nAt l j).1, .int .i64 (nP l j), .int .i64 (nD l j), .int .i64 (nB l j), .bool (nAt l j).2.2.1, .bool (nAt l j).2.2.2.1, .bool (nL l j)] := rfl
      have HRN := hidOf hrn
      obtain ⟨nd, hnd⟩ : ∃ x, nAt l j = x := ⟨_, rfl⟩
      generalize nP l j = x1 at *
      generalize nD l j = x2 at *
      generalize nB l j = x3 at *
      generalize nL l j = x6 at *
      rw [hnd] at c0 c4 c5 HS HRN
      generalize nd.1 = x0 at *
      generalize nd.2.2.1 = x4 at *
      generalize nd.2.2.2.1 = x5 at *
      clear hnd hrn
      have i1 : (j : Int) < (n : Int) := by omega
      have i2 : (0 : Int) ≤ (j : Int) := by omega
      go_wp2_with (first
        | (at_builtin; refine wpList_pushK wr rfl _ _ 32 rfl w.heap.size 72 i0 (.agg #[.string ⟨#[]⟩, .int .i64 0, .int .i64 0, .int .i64 0, .bool false, .bool false, .bool false]) 7 48 Try.underlying32 hi hz0 hz1 hz2 rfl kp_nd (.slice va j vc) (l.take j) nd [.string x0, .int .i64 x1, .int .i64 x2, .int .i64 x3, .bool x4, .bool x5, .bool x6] wr.heap.size rfl rfl rfl (by simp [Value.oneCell']) hO HRN.out hb.size (fun x hx => (hO.blk x hx).2) (by rw [HLJ.out]; omega) (by rw [HLJ.out]; unfold maxLen; omega) hb.size ?_; intro vb wb hOb hgb hbb)
        | fail)
      go_wp2
      go_roundw
      case rel => exact ⟨j + 1, hlt, by go_num, by rw [HS.out]; exact hOb, hb.trans hbb⟩
      case measure => simp [RowKit.intOf]; omega
    · have i1 : ¬ (j : Int) < (n : Int) := by omega
      have hjn : l.take j = l := List.take_of_length_le (by rw [HN.out]; omega)
      rw [hjn] at hO
      go_wp2
      go_ret
      exact ⟨_, rfl, hO.rd kp_nd, hb⟩
def ndA : Nd := (⟨#[97]⟩, (-1, 0, 1), (false, false, true))
theorem rdA (w : World) : RdNd (fun _ => True) (w.alloc (.cells #[.string ⟨#[97]⟩, .int .i64 (-1), .int .i64 0, .int .i64 1, .bool false, .bool false, .bool true] 72)) [ndA] (.slice (some ⟨w.heap.size, 0, none⟩) 1 1) := by
  refine ⟨_, 1, rfl, Nat.le_refl _, by simp [maxLen], fun i hi => ?_⟩
  have : i = 0 := by simp at hi; omega
  subst this
  refine ⟨w.heap.size, 0, ndV ndA, rfl, trivial, by simp, rfl, rfl, fun j u hu => ?_⟩
  have := (Bn.new w (ndV ndA) 72 _ rfl j u hu).1
  rw [show 0 + 0 * 7 + j = j by omega]
  exact this

theorem numS_has (s : Nat → Bool) (m i : Nat) : (numS s m).contains (i : Int) = (decide (i < m) && s i) := by
  rw [Bool.eq_iff_iff, List.contains_iff_mem, Bool.and_eq_true, decide_eq_true_eq]
  unfold numS
  simp only [List.mem_map, List.mem_filter, List.mem_range]
  constructor
  · rintro ⟨k, ⟨h1, h2⟩, h3⟩
    have : k = i := by omega
    subst this
    exact ⟨h1, h2⟩
  · rintro ⟨h1, h2⟩
    exact ⟨i, ⟨h1, h2⟩, rfl⟩
/-- What is active then, as the document has it. -/
def nxR (xs LV ET : List Int) : Nat → Bool := fun i => ET.contains (i : Int) || (xs.contains (i : Int) && !LV.contains (i : Int))
theorem mv_ref {l : List Nd} (hf : fmB l = true) (xs : List Int) (f t : Int) : numS (mvS l xs f t) 40 = numS (nxR xs (lvB l xs (mtB l f t)) (etB l (mtB l f t) t)) l.length := by
  unfold mvS
  generalize mtB l f t = m
  have hE : ∀ i : Nat, l.length ≤ i → (etB l m t).contains (i : Int) = false := fun i hi => by
    unfold etB
    split
    · rfl
    · rw [numS_has]
      unfold enS
      rw [if_neg (by omega), Bool.and_false]
  generalize etB l m t = ET at *
  generalize lvB l xs m = LV at *
  refine numS_cut (fm_40 hf) (fun i hi => ?_) (fun i hi => ?_)
  · unfold updL stO nxR
    rw [decide_eq_true hi, Bool.true_and]
    cases ET.contains (i : Int) <;> cases LV.contains (i : Int) <;> cases xs.contains (i : Int) <;> rfl
  · unfold updL stO
    rw [hE i hi, decide_eq_false (by omega), Bool.false_and, if_neg (by simp)]
    split <;> rfl
set_option maxRecDepth 100000 in
set_option maxHeartbeats 8000000 in
theorem moveR_any {ok ok' : Nat → Prop} {w : World} {l : List Nd} {xs : List Int} {v u : Value} (h : RdNd ok w l v) (hx : RdZs ok' w xs u) (f t : Int) :
    Calls Try.prog 23 #[v, u, .int .i64 f, .int .i64 t] w fun e w' => ∃ a1 n1 c1 a2 n2 c2 a3 n3 c3, e = .returned (.tuple #[.slice a1 n1 c1, .slice a2 n2 c2, .slice a3 n3 c3]) ∧
      RdZs (fun b => w.heap.size ≤ b) w' (mvB l xs f t).1 (.slice a1 n1 c1) ∧ RdZs (fun b => w.heap.size ≤ b) w' (mvB l xs f t).2.1 (.slice a2 n2 c2) ∧ RdZs (fun b => w.heap.size ≤ b) w' (mvB l xs f t).2.2 (.slice a3 n3 c3) ∧ Below w.heap.size w w' := by
  obtain ⟨a, cap, rfl, hlc, hcm⟩ := h.form
  have hfm := formedR_any h
  obtain ⟨xa, xc, rfl, _, _⟩ := hx.form
  have hst := fun i w1 => stateR_any (w := w1) (a := a) (n := l.length) (cap := cap) i hlc hcm
  unfold maxLen at hcm
  unfold mvB
  cases hf : fmB l with
  | false =>
    rw [hf] at hfm
    rw [if_neg (by simp)]
    go_enter Try.func23, Try.ntmps23
    go_wp2_with (first | (go_at_call 45; refine hfm.mono ?_; rintro e w1 ⟨rfl, rfl⟩) | fail)
    refine bodyPost_ret (results_tmp3 rfl _ _ _) rfl ?_
    exact ⟨_, _, _, _, _, _, _, _, _, rfl, rdK_none _ _ _ _, rdK_none _ _ _ _, rdK_none _ _ _ _, Below.refl _ _⟩
  | true =>
    have h40 := fm_40 hf
    rw [hf] at hfm
    cases h1 : nmB l.length f with
    | false =>
      rw [if_neg (by simp)]
      have hi := hst f
      rw [h1] at hi
      go_enter Try.func23, Try.ntmps23
      go_wp2_with (first | (go_at_call 45; refine hfm.mono ?_; rintro e w1 ⟨rfl, rfl⟩) | (go_at_call 46; refine (hi _).mono ?_; rintro e w2 ⟨rfl, rfl⟩) | fail)
      refine bodyPost_ret (results_tmp3 rfl _ _ _) rfl ?_
      exact ⟨_, _, _, _, _, _, _, _, _, rfl, rdK_none _ _ _ _, rdK_none _ _ _ _, rdK_none _ _ _ _, Below.refl _ _⟩
    | true =>
      cases h2 : nmB l.length t with
      | false =>
        rw [if_neg (by simp)]
        go_enter Try.func23, Try.ntmps23
        go_wp2_with (first | (go_at_call 45; refine hfm.mono ?_; rintro e w1 ⟨rfl, rfl⟩) | (go_at_call 46; refine (hst _ _).mono ?_; rintro e w2 ⟨rfl, rfl⟩) | fail)
        refine bodyPost_ret (results_tmp3 rfl _ _ _) rfl ?_
        exact ⟨_, _, _, _, _, _, _, _, _, rfl, rdK_none _ _ _ _, rdK_none _ _ _ _, rdK_none _ _ _ _, Below.refl _ _⟩
      | true =>
        rw [if_pos (by simp)]
        have hme := fun w1 (b1 : Below w.heap.size w w1) => meetR_any (h.on kp_nd b1) f t
        have hle := fun o w1 (b1 : Below w.heap.size w w1) => leaveR_any (h.on kp_nd b1) (RdK.on kp_int hx b1) o
        have hen := fun o w1 (b1 : Below w.heap.size w w1) => enterR_any (h.on kp_nd b1) o t
        have hha := fun (i : Nat) w1 (b1 : Below w.heap.size w w1) => has_any (RdK.on kp_int hx b1) (i : Int)
        have HMV := hidOf (mv_ref hf xs f t)
        obtain ⟨m, hm⟩ : ∃ m, mtB l f t = m := ⟨_, rfl⟩
        simp only [hm] at hme HMV ⊢
        clear hm
        have HL2 := lvB_len l xs m
        have HE2 := etB_len l m t
        obtain ⟨LV, hLV⟩ : ∃ LV, lvB l xs m = LV := ⟨_, rfl⟩
        obtain ⟨ET, hET⟩ : ∃ ET, etB l m t = ET := ⟨_, rfl⟩
        have hle := hle m
        have hen := hen m
        simp only [hLV] at hle HMV HL2 ⊢
        simp only [hET] at hen HMV HE2 ⊢
        clear hLV hET
        obtain ⟨n, hn⟩ : ∃ n, l.length = n := ⟨_, rfl⟩
        simp only [hn] at hlc h40 hst hfm h1 h2 hme hle hen hha HMV
        rw [hn]
        clear hn h hx hf
        obtain ⟨i0, hi, hz0, hz1, hz2⟩ := info_int
        go_enter Try.func23, Try.ntmps23
        go_upto_region 5 with (first
          | (go_at_call 45; refine hfm.mono ?_; rintro e w1 ⟨rfl, rfl⟩)
          | (go_at_call 46; refine (hst _ _).mono ?_; rintro e w2 ⟨rfl, rfl⟩)
          | (go_at_call 47; refine (hme _ (Below.refl _ _)).mono ?_; rintro e w3 ⟨rfl, rfl⟩)
          | (go_at_call 48; refine (hle _ (Below.refl _ _)).mono ?_; rintro e w4 ⟨la, ln, lc, rfl, hO4, b4⟩)
          | (go_at_call 49; refine (hen _ b4).mono ?_; rintro e w5 ⟨ea, en, ec, rfl, hO5, b5⟩)
          | fail)
        have hb5 := b4.trans (b5.mono b4.size)
        obtain ⟨la', lc', he1, hlc1, hlm1⟩ := hO4.form
        obtain ⟨ea', ec', he2, hec1, hem1⟩ := hO5.form
        simp only [Value.slice.injEq] at he1 he2
        obtain ⟨rfl, rfl, rfl⟩ := he1
        obtain ⟨rfl, rfl, rfl⟩ := he2
        have hR4 : RdZs (fun b => w.heap.size ≤ b) w5 LV (.slice la LV.length lc) := hO4.rdz.on kp_int b5
        have hR5 : RdZs (fun b => w.heap.size ≤ b) w5 ET (.slice ea ET.length ec) := hO5.rdz.stay kp_int (fun b hb hl => ⟨Nat.le_trans b4.size hb, rfl⟩)
        have hs5 : w.heap.size ≤ w5.heap.size := hb5.size
        clear hfm hst hme hle hen hO4 hO5 b4 b5
        have hhl := fun (i : Nat) w1 (b1 : Below w5.heap.size w5 w1) => has_any (RdK.on kp_int hR4 b1) (i : Int)
        have hhe := fun (i : Nat) w1 (b1 : Below w5.heap.size w5 w1) => has_any (RdK.on kp_int hR5 b1) (i : Int)
        have HR4 := hidOf hR4
        have HR5 := hidOf hR5
        clear hR4 hR5
        generalize LV.length = p at *
        generalize ET.length = q at *
        go_wp2
        go_loopw [14, 45] (fun t ix wr => ∃ (j : Nat), j ≤ n ∧ ix = .int .i64 (j : Int) ∧ OwnK wr w5.heap.size 3 1 rInt t (numS (nxR xs LV ET) j) ∧ Below w5.heap.size w5 wr) (fun _ ix _ => n - (RowKit.intOf ix).toNat)
        case atStart => exact ⟨0, Nat.zero_le _, rfl, ownK_nil _ _ _ _ _, Below.refl _ _⟩
        case round =>
          obtain ⟨j, hj, rfl, hO, hb⟩ := hrel
          obtain ⟨va, vc, rfl, hvl, hvm⟩ := hO.form
          by_cases hlt : j < n
          · have i1 : (j : Int) < (n : Int) := by omega
            have i2 : (0 : Int) ≤ (j : Int) := by omega
            have hc0 := hha j _ (hb5.trans (hb.mono hs5))
            have hc1 := hhl j _ hb
            have hc2 := hhe j _ hb
            have HS := hidOf (numS_succ (nxR xs LV ET) j)
            have hil := numS_len (nxR xs LV ET) j
            have hnx : nxR xs LV ET j = (ET.contains (j : Int) || (xs.contains (j : Int) && !LV.contains (j : Int))) := rfl
            clear hha hhl hhe
            -- NEXT
            cases h0 : ET.contains (j : Int) with
            | true =>
              rw [h0] at hc2 hnx
              have HS2 : Hid (numS (nxR xs LV ET) (j + 1) = numS (nxR xs LV ET) j ++ [(j : Int)]) := hidOf (by have h := HS.out; rw [hnx] at h; simpa using h)
              clear h0 hnx HS hc0 hc1
              go_wp2_with (first
                | (go_at_call 50; refine hc2.mono ?_; clear hc2; rintro e w7 ⟨rfl, rfl⟩)
                | (at_builtin; refine wpList_pushK wr rfl _ _ 59 rfl w5.heap.size 3 i0 (.int .i64 0) 1 8 Try.underlying59 hi hz0 hz1 hz2 rfl kp_int (.slice va (numS (nxR xs LV ET) j).length vc) (numS (nxR xs LV ET) j) (j : Int) [.int .i64 (j : Int)] wr.heap.size rfl rfl rfl (by simp [Value.oneCell']) hO rfl hb.size (fun x hx => (hO.blk x hx).2) (by omega) (by unfold maxLen; omega) hb.size ?_; intro vb wb hOb hgb hbb)
                | fail)
              go_wp2
              go_roundw
              case rel => exact ⟨j + 1, hlt, by go_num, by rw [HS2.out]; exact hOb, hb.trans hbb⟩
              case measure => simp [RowKit.intOf]; omega
            | false =>
              rw [h0] at hc2 hnx
              cases h1 : xs.contains (j : Int) with
              | false =>
                rw [h1] at hc0 hnx
                have HS2 : Hid (numS (nxR xs LV ET) (j + 1) = numS (nxR xs LV ET) j) := hidOf (by have h := HS.out; rw [hnx] at h; simpa using h)
                clear h0 h1 hnx HS hc1
                go_wp2_with (first
                  | (go_at_call 50; refine hc2.mono ?_; clear hc2; rintro e w7 ⟨rfl, rfl⟩)
                  | (go_at_call 50; refine hc0.mono ?_; clear hc0; rintro e w8 ⟨rfl, rfl⟩)
                  | fail)
                go_roundw
                case rel => exact ⟨j + 1, hlt, by go_num, by rw [HS2.out]; exact hO, hb⟩
                case measure => simp [RowKit.intOf]; omega
              | true =>
                rw [h1] at hc0 hnx
                cases h2 : LV.contains (j : Int) with
                | true =>
                  rw [h2] at hc1 hnx
                  have HS2 : Hid (numS (nxR xs LV ET) (j + 1) = numS (nxR xs LV ET) j) := hidOf (by have h := HS.out; rw [hnx] at h; simpa using h)
                  clear h0 h1 h2 hnx HS
                  go_wp2_with (first
                    | (go_at_call 50; refine hc2.mono ?_; clear hc2; rintro e w7 ⟨rfl, rfl⟩)
                    | (go_at_call 50; refine hc0.mono ?_; clear hc0; rintro e w8 ⟨rfl, rfl⟩)
                    | (go_at_call 50; refine hc1.mono ?_; clear hc1; rintro e w9 ⟨rfl, rfl⟩)
                    | fail)
                  go_roundw
                  case rel => exact ⟨j + 1, hlt, by go_num, by rw [HS2.out]; exact hO, hb⟩
                  case measure => simp [RowKit.intOf]; omega
                | false =>
                  rw [h2] at hc1 hnx
                  have HS2 : Hid (numS (nxR xs LV ET) (j + 1) = numS (nxR xs LV ET) j ++ [(j : Int)]) := hidOf (by have h := HS.out; rw [hnx] at h; simpa using h)
                  clear h0 h1 h2 hnx HS
                  go_wp2_with (first
                    | (go_at_call 50; refine hc2.mono ?_; clear hc2; rintro e w7 ⟨rfl, rfl⟩)
                    | (go_at_call 50; refine hc0.mono ?_; clear hc0; rintro e w8 ⟨rfl, rfl⟩)
                    | (go_at_call 50; refine hc1.mono ?_; clear hc1; rintro e w9 ⟨rfl, rfl⟩)
                    | (at_builtin; refine wpList_pushK wr rfl _ _ 59 rfl w5.heap.size 3 i0 (.int .i64 0) 1 8 Try.underlying59 hi hz0 hz1 hz2 rfl kp_int (.slice va (numS (nxR xs LV ET) j).length vc) (numS (nxR xs LV ET) j) (j : Int) [.int .i64 (j : Int)] wr.heap.size rfl rfl rfl (by simp [Value.oneCell']) hO rfl hb.size (fun x hx => (hO.blk x hx).2) (by omega) (by unfold maxLen; omega) hb.size ?_; intro vb wb hOb hgb hbb)
                    | fail)
                  go_wp2
                  go_roundw
                  case rel => exact ⟨j + 1, hlt, by go_num, by rw [HS2.out]; exact hOb, hb.trans hbb⟩
                  case measure => simp [RowKit.intOf]; omega
            -- END NEXT
          · have i1 : ¬ (j : Int) < (n : Int) := by omega
            obtain rfl : j = n := by omega
            go_wp2
            refine bodyPost_ret (results_tmp3 rfl _ _ _) rfl ?_
            exact ⟨_, _, _, _, _, _, _, _, _, rfl, HR4.out.on kp_int hb, HR5.out.on kp_int hb, by rw [HMV.out]; exact (OwnK.down hO hs5).rdz, hb5.trans (hb.mono hs5)⟩

/-- Do as many as must be lie right in each state, and in none? -/
def aF (l : List Nd) (s : Nat → Bool) : Bool := (List.range (l.length + 1)).all (fun k => fitB l s ((k : Int) - 1))
theorem aF_iff {l : List Nd} {s : Nat → Bool} : aF l s = true ↔ ∀ y : Int, -1 ≤ y → y < l.length → fitB l s y = true := by
  unfold aF
  rw [List.all_eq_true]
  constructor
  · intro h y h0 h1
    have := h (y + 1).toNat (by rw [List.mem_range]; omega)
    rwa [show (((y + 1).toNat : Nat) : Int) - 1 = y by omega] at this
  · intro h k hk
    rw [List.mem_range] at hk
    exact h _ (by omega) (by omega)
theorem aF_not {l : List Nd} {s : Nat → Bool} {y : Int} (h0 : -1 ≤ y) (h1 : y < l.length) (h : fitB l s y = false) : aF l s = false := by
  cases e : aF l s with
  | false => rfl
  | true => rw [aF_iff.1 e y h0 h1] at h; cases h
def lgB (l : List Nd) (xs : List Int) : Bool := fmB l && rsB l.length (-1) xs && aF l (stO l.length xs)
set_option maxRecDepth 100000 in
set_option maxHeartbeats 8000000 in
theorem legal_any {ok ok' : Nat → Prop} {w : World} {l : List Nd} {xs : List Int} {v u : Value} (h : RdNd ok w l v) (hx : RdZs ok' w xs u) :
    Calls Try.prog 27 #[v, u] w fun e w' => e = .returned (.bool (lgB l xs)) ∧ Below w.heap.size w w' := by
  obtain ⟨a, cap, rfl, hlc, hcm⟩ := h.form
  have hfm := tformed_any h
  have hri := fun w1 (b1 : Below w.heap.size w w1) => rising_any (a := a) hlc hcm (RdK.on kp_int hx b1)
  obtain ⟨xa, xc, rfl, _, _⟩ := hx.form
  unfold maxLen at hcm
  cases hf : fmB l with
  | false =>
    rw [hf] at hfm
    have HE : Hid (lgB l xs = false) := by show _ = _; unfold lgB; rw [hf]; rfl
    go_enter Try.func27, Try.ntmps27
    go_wp2_with (first | (go_at_call 14; refine hfm.mono ?_; rintro e w1 ⟨rfl, b1⟩) | fail)
    go_ret
    exact ⟨by rw [HE.out] <;> rfl, b1⟩
  | true =>
    have h40 := fm_40 hf
    rw [hf] at hfm
    cases hr : rsB l.length (-1) xs with
    | false =>
      simp only [hr] at hri
      have HE : Hid (lgB l xs = false) := by show _ = _; unfold lgB; rw [hf, hr]; rfl
      go_enter Try.func27, Try.ntmps27
      go_wp2_with (first | (go_at_call 14; refine hfm.mono ?_; rintro e w1 ⟨rfl, b1⟩) | (go_at_call 51; refine (hri _ b1).mono ?_; rintro e w2 ⟨rfl, rfl⟩) | fail)
      go_ret
      exact ⟨by rw [HE.out] <;> rfl, b1⟩
    | true =>
      simp only [hr] at hri
      have HE : Hid (lgB l xs = aF l (stO l.length xs)) := by show _ = _; unfold lgB; rw [hf, hr]; rfl
      have hso := fun w1 (b1 : Below w.heap.size w w1) => setOf_any (h.on kp_nd b1) (RdK.on kp_int hx b1) h40
      have hfi := fun w1 (b1 : Below w.heap.size w w1) i hi => fits_any (h.on kp_nd b1) h40 (stO l.length xs) i hi
      have HT := hidOf (fun (h : ∀ y : Int, -1 ≤ y → y < l.length → fitB l (stO l.length xs) y = true) => aF_iff.2 h)
      have HF := hidOf (fun (y : Int) (h0 : -1 ≤ y) (h1 : y < l.length) (h : fitB l (stO l.length xs) y = false) => aF_not h0 h1 h)
      obtain ⟨n, hn⟩ : ∃ n, l.length = n := ⟨_, rfl⟩
      rw [hn] at hlc h40 HE
      simp only [hn] at hfm hri hso hfi HT HF ⊢
      generalize stO n xs = s at *
      clear hx h hf hr hn
      go_enter Try.func27, Try.ntmps27
      go_upto_region 3 with (first | (go_at_call 14; refine hfm.mono ?_; rintro e w1 ⟨rfl, b1⟩) | (go_at_call 51; refine (hri _ b1).mono ?_; rintro e w2 ⟨rfl, rfl⟩) | fail)
      refine wp_region_lit ?_
      go_wp2_with (first
        | (go_at_call 43; refine (hso _ b1).mono ?_; rintro e w3 ⟨rfl, b3⟩)
        | (refine wpList_store_row rfl 93 _ _ rfl w3.heap.size (bV s).toArray rfl rfl 93 _ (heap_alloc_last w3 _) (by rw [bV_size]; exact Try.infoSet) (by rw [bV_size]; rfl) (bV_one _) ?_; rw [World.setRow_alloc_new])
        | fail)
      have hb3 := b1.trans (b3.mono b1.size)
      have hal : Below w3.heap.size w3 (w3.alloc (.cells (bV s).toArray 93)) := (Below.refl _ _).alloc (Nat.le_refl _) _
      have hA4 : Arr (w3.alloc (.cells (bV s).toArray 93)) w3.heap.size s := Arr.new w3 _ _ rfl
      have hb4 := hb3.trans (hal.mono hb3.size)
      have hw3 : w.heap.size ≤ w3.heap.size := hb3.size
      generalize w3.alloc (.cells (bV s).toArray 93) = w4 at *
      obtain ⟨Y, hY⟩ : ∃ Y, w3.heap.size = Y := ⟨_, rfl⟩
      rw [hY] at hA4 hw3 ⊢
      clear hY hso hfm hri b1 b3 hal hb3
      go_wp2
      go_loopw [6] (fun ix wr => ∃ (z : Int), -1 ≤ z ∧ z ≤ n ∧ ix = .int .i64 z ∧ Hid (∀ y : Int, -1 ≤ y → y < z → fitB l s y = true) ∧ Arr wr Y s ∧ Below w.heap.size w wr) (fun ix _ => ((n : Int) - RowKit.intOf ix).toNat)
      case atStart => exact ⟨-1, by omega, by omega, rfl, fun y h0 h1 => by omega, hA4, hb4⟩
      case round =>
        obtain ⟨z, hz0, hz1, rfl, HY, hA, hb⟩ := hrel
        by_cases hlt : z < n
        · have hc := hfi _ hb z (by omega)
          cases hq : fitB l s z with
          | false =>
            rw [hq] at hc
            have HQ : Hid (lgB l xs = false) := HE.out.trans (HF.out z hz0 hlt hq)
            clear hq hfi
            go_upto_region 7 with fail
            refine wp_region_lit ?_
            go_wp2_with (first | (refine wpList_load_row rfl 93 _ rfl Y rfl 93 (bV s).toArray (0, 0) _ hA Try.underlying93 rfl (by rw [bV_size]; exact Try.infoSet) ?_) | (go_at_call 52; refine hc.mono ?_; rintro e w5 ⟨rfl, b5⟩) | fail)
            go_ret
            exact ⟨by rw [HQ.out] <;> rfl, hb.trans (b5.mono hb.size)⟩
          | true =>
            rw [hq] at hc
            have HQ : Hid (∀ y : Int, -1 ≤ y → y < z + 1 → fitB l s y = true) := fun y h0 h1 => by
              by_cases e : y = z
              · rw [e]; exact hq
              · exact HY.out y h0 (by omega)
            have w2 : IntKind.i64.wrap (z + 1) = z + 1 := wrap_less _ (by omega) (by omega)
            clear hq hfi
            go_upto_region 7 with fail
            refine wp_region_lit ?_
            go_wp2_with (first | (refine wpList_load_row rfl 93 _ rfl Y rfl 93 (bV s).toArray (0, 0) _ hA Try.underlying93 rfl (by rw [bV_size]; exact Try.infoSet) ?_) | (go_at_call 52; refine hc.mono ?_; rintro e w5 ⟨rfl, b5⟩) | fail)
            go_roundw
            case rel => exact ⟨z + 1, by omega, by omega, by go_num, HQ, hA.on b5, hb.trans (b5.mono hb.size)⟩
            case measure => simp [RowKit.intOf]; omega
        · have hz : z = n := by omega
          have HQ : Hid (lgB l xs = true) := HE.out.trans (HT.out (fun y h0 h1 => HY.out y h0 (by omega)))
          go_wp2
          go_ret
          exact ⟨by rw [HQ.out] <;> rfl, hb⟩
theorem lgA0 : lgB [ndA] [0] = true := by kernel_rfl
theorem rdZ0 (w : World) (x : Obj) : RdZs (fun _ => True) ((w.alloc x).alloc (.cells #[.int .i64 0] 3)) [0] (.slice (some ⟨w.heap.size + 1, 0, none⟩) 1 1) := by
  have e : (w.alloc x).heap.size = w.heap.size + 1 := by simp
  rw [← e]
  generalize w.alloc x = w1
  refine ⟨_, 1, rfl, Nat.le_refl _, by simp [maxLen], fun i hi => ?_⟩
  have : i = 0 := by simp at hi; omega
  subst this
  refine ⟨w1.heap.size, 0, [.int .i64 0], rfl, trivial, by simp, rfl, rfl, fun j u hu => ?_⟩
  have := (Bn.new w1 [.int .i64 0] 3 _ rfl j u hu).1
  rw [show 0 + 0 * 1 + j = j by omega]
  exact this
set_option maxRecDepth 100000 in
set_option maxHeartbeats 4000000 in
theorem awake10_any (w : World) : Calls Try.prog 20 #[] w fun e w' => e = .returned (.bool true) ∧ Below w.heap.size w w' := by
  have hb0 := (Below.refl w.heap.size w).alloc (Nat.le_refl _) (.cells #[.string ⟨#[97]⟩, .int .i64 (-1), .int .i64 0, .int .i64 1, .bool false, .bool false, .bool true] 72)
  have hb1 := hb0.alloc hb0.size (.cells #[.int .i64 0] 3)
  have hr := ((rdA w).stay kp_nd (fun k hk hl => ⟨hk, ((Below.refl _ _).alloc (Nat.le_refl _) (.cells #[.int .i64 0] 3)).block k hl⟩))
  have hlg := legal_any hr (rdZ0 w _)
  rw [lgA0] at hlg
  go_enter Try.func20, Try.ntmps20
  go_wp2_with (first | (go_at_call 27; refine hlg.mono ?_; rintro e w1 ⟨rfl, b1⟩) | fail)
  go_ret
  exact ⟨rfl, hb1.trans (b1.mono hb1.size)⟩
set_option maxRecDepth 100000 in
set_option maxHeartbeats 4000000 in
theorem fewC_any {ok ok' : Nat → Prop} {w : World} {l : List Nd} {xs : List Int} {v u : Value} (h : RdNd ok w l v) (hx : RdZs ok' w xs u) :
    Calls Try.prog 21 #[v, u] w fun e w' => FewOut l e ∧ w = w' := by
  have hfw := fewN_any h
  obtain ⟨a, cap, rfl, hlc, hcm⟩ := h.form
  obtain ⟨xa, xc, rfl, hxl, hxm⟩ := hx.form
  unfold maxLen at hcm hxm
  generalize xs.length = m at *
  clear h hx
  go_enter Try.func21, Try.ntmps21
  go_wp2_with (first | (go_at_call 39; refine hfw.mono ?_; rintro e w1 ⟨⟨q, rfl, hq⟩, rfl⟩; cases q) | fail)
  · go_wp2
    go_ret
    exact ⟨⟨false, rfl, fun h => by simp at h⟩, rfl⟩
  · go_wp2
    go_ret
    exact ⟨⟨decide ((m : Int) ≤ 100), rfl, fun _ => hq (by first | trivial | rfl)⟩, rfl⟩
set_option maxRecDepth 100000 in
set_option maxHeartbeats 8000000 in
theorem configMoves_walk {w : World} {l : List Nd} {v : Value} (h : RdNd (fun _ => True) w l v) {xs : List Int} {u : Value} (hx : RdZs (fun _ => True) w xs u) (f : Int) (wff : (Lit.int .i64 f).wf = true) (t : Int) (wft : (Lit.int .i64 t).wf = true) :
    Calls Try.prog 5 #[v, u, .int .i64 f, .int .i64 t] w fun e w' => e = .returned (.bool true) ∧ Below w.heap.size w w' := by
  clear wff wft
  have haw := fun w1 => awake10_any w1
  have HST : Hid (∀ w1, Below w.heap.size w w1 → RdNd (fun _ => True) w1 l v) := fun w1 b1 => h.stay kp_nd (fun k hk hl => ⟨hk, b1.block k hl⟩)
  have HSX : Hid (∀ w1, Below w.heap.size w w1 → RdZs (fun _ => True) w1 xs u) := fun w1 b1 => hx.stay kp_int (fun k hk hl => ⟨hk, b1.block k hl⟩)
  have hfw := fun w1 (b1 : Below w.heap.size w w1) => fewC_any (HST.out w1 b1) (HSX.out w1 b1)
  have hth := fun w1 (b1 : Below w.heap.size w w1) => theirsN_any (HST.out w1 b1)
  have hR := fun w1 (b1 : Below w.heap.size w w1) => moveR_any (HST.out w1 b1) (HSX.out w1 b1) f t
  obtain ⟨a, cap, rfl, hlc, hcm⟩ := h.form
  obtain ⟨xa, xc, rfl, hxl, hxm⟩ := hx.form
  unfold maxLen at hcm hxm
  clear h hx
  go_enter Try.func5, Try.ntmps5
  go_upto_region 1 with fail
  go_cut [22] (fun u wc => ∃ q : Bool, u = .bool q ∧ (q = false → l.length ≤ 60) ∧ Below w.heap.size w wc)
  case first =>
    clear hth hR
    go_wp2_with (first | (go_at_call 20; refine (haw _).mono ?_; rintro e w1 ⟨rfl, b1⟩) | (go_at_call 21; refine (hfw _ b1).mono ?_; rintro e w2 ⟨⟨q, rfl, hq⟩, rfl⟩; cases q) | fail)
    all_goals (
      go_wp2
      go_meet
      case rel => first | exact ⟨true, rfl, fun h => by simp at h, b1⟩ | exact ⟨false, rfl, fun _ => hq (by first | trivial | rfl), b1⟩)
  case rest =>
  obtain ⟨q, rfl, hq, hb⟩ := hcut
  clear hfw
  cases q with
  | true =>
    go_wp2_with (first | (go_at_call 20; refine (haw _).mono ?_; rintro e w1 ⟨rfl, b1⟩) | fail)
    go_ret
    exact ⟨rfl, hb.trans (b1.mono hb.size)⟩
  | false =>
  have h60 := hq rfl
  clear haw hq
  go_wp2_with (first
    | (go_at_call 15; refine (hth _ hb h60).mono ?_; rintro e w1 ⟨u, rfl, hu, b1⟩; have hb1 := hb.trans (b1.mono hb.size); have hP := move_any hu (HSX.out w1 hb1) f t; obtain ⟨ua, uc, rfl, hul, hum⟩ := hu.form)
    | (go_at_call 22; refine hP.mono ?_; rintro e w2 ⟨a1, n1, c1, a2, n2, c2, a3, n3, c3, rfl, z1, z2, z3, b2⟩; have hb2 := hb1.trans (b2.mono hb1.size))
    | (go_at_call 23; refine (hR _ hb2).mono ?_; rintro e w3 ⟨d1, m1, e1, d2, m2, e2, d3, m3, e3, rfl, y1, y2, y3, b3⟩; have hb3 := hb2.trans (b3.mono hb2.size); have hI1 := ints_any (RdK.on kp_int z1 b3) y1)
    | (go_at_call 24; refine hI1.mono ?_; rintro e w4 ⟨rfl, b4⟩; have hb4 := hb3.trans (b4.mono hb3.size); have hI2 := ints_any (RdK.on kp_int (RdK.on kp_int z2 b3) b4) (RdK.on kp_int y2 b4); clear hI1)
    | (go_at_call 24; refine hI2.mono ?_; rintro e w5 ⟨rfl, b5⟩; have hb5 := hb4.trans (b5.mono hb4.size); have hI3 := ints_any (RdK.on kp_int (RdK.on kp_int (RdK.on kp_int z3 b3) b4) b5) (RdK.on kp_int (RdK.on kp_int y3 b4) b5); clear hI2)
    | (go_at_call 24; refine hI3.mono ?_; rintro e w6 ⟨rfl, b6⟩; have hb6 := hb5.trans (b6.mono hb5.size); clear hI3)
    | fail)
  go_ret
  exact ⟨rfl, hb6⟩
end Go.Proofs.Ytbccdkhbplmknaa

/- An argument that is a slice of bytes, opened: the bytes that it reads as, each from 0 to 255, and their number within the form's reach. -/
namespace Go.Proofs.Ytbccdkhbplmknaa
open Go.ChangeShapes Go.WideShapes Go.ChangeAt Go.RowKit

end Go.Proofs.Ytbccdkhbplmknaa

/- Arguments that are rows of nodes, opened. -/
namespace Go.Proofs.Ytbccdkhbplmknaa
open Go.ChangeShapes Go.WideShapes Go.ChangeAt Go.RowKit
set_option linter.unusedSimpArgs false
set_option linter.unusedVariables false
theorem spotN {w : World} {a : Addr} {v : Value} (h : w.cell? (a.add 0) = some v) : a = ⟨a.block, a.off, none⟩ := by
  rw [show a.add 0 = a from by simp [Addr.add]] at h
  unfold World.cell? at h
  split at h
  · obtain ⟨b, o, s⟩ := a
    cases s with
    | none => rfl
    | some x => simp at h
  · cases h
set_option maxRecDepth 100000 in
theorem open_nd {H : Type} {enc : TypeId × Value → H} {W : World} {fuel : Nat} {cs : List Value} {x : DataW H × List MemPlace}
    (h : DataW.trod enc Try.prog W 0 (fun _ => true) true fuel 76 cs = some x) : ∃ y : Nd, cs = ndV y := by
  obtain ⟨xs, n, _, rfl, hl, hlen, hf⟩ := DataW.trod_struct Try.underlying76 h
  have hc : Try.prog.cellsOf 76 = 7 := by kernel_rfl
  have cI : Try.prog.cellsOf 3 = 1 := by kernel_rfl
  have c9 : Try.prog.cellsOf 9 = 1 := by kernel_rfl
  have cB : Try.prog.cellsOf 4 = 1 := by kernel_rfl
  rw [hc] at hl
  have f0 : DataW.trod enc Try.prog W 0 (fun _ => true) true n 9 ((cs.drop 0).take (Try.prog.cellsOf 9)) = xs[0]? := hf 0 _ rfl
  have f1 : DataW.trod enc Try.prog W 0 (fun _ => true) true n 3 ((cs.drop 1).take (Try.prog.cellsOf 3)) = xs[1]? := hf 1 _ rfl
  have f2 : DataW.trod enc Try.prog W 0 (fun _ => true) true n 3 ((cs.drop 2).take (Try.prog.cellsOf 3)) = xs[2]? := hf 2 _ rfl
  have f3 : DataW.trod enc Try.prog W 0 (fun _ => true) true n 3 ((cs.drop 3).take (Try.prog.cellsOf 3)) = xs[3]? := hf 3 _ rfl
  have f4 : DataW.trod enc Try.prog W 0 (fun _ => true) true n 4 ((cs.drop 4).take (Try.prog.cellsOf 4)) = xs[4]? := hf 4 _ rfl
  have f5 : DataW.trod enc Try.prog W 0 (fun _ => true) true n 4 ((cs.drop 5).take (Try.prog.cellsOf 4)) = xs[5]? := hf 5 _ rfl
  have f6 : DataW.trod enc Try.prog W 0 (fun _ => true) true n 4 ((cs.drop 6).take (Try.prog.cellsOf 4)) = xs[6]? := hf 6 _ rfl
  rw [c9] at f0
  rw [cI] at f1 f2 f3
  rw [cB] at f4 f5 f6
  match cs, hl, xs, hlen with
  | [a, b, c, d, e, f, g], _, [y0, y1, y2, y3, y4, y5, y6], _ =>
    simp only [List.drop_zero, List.take_succ_cons, List.take_zero, List.drop_succ_cons, List.getElem?_cons_zero, List.getElem?_cons_succ] at f0 f1 f2 f3 f4 f5 f6
    obtain ⟨s, e0, rfl, _⟩ := DataW.trod_string Try.underlying9 f0
    obtain ⟨n1, e1, rfl, _⟩ := DataW.trod_int Try.underlying3 f1
    obtain ⟨n2, e2, rfl, _⟩ := DataW.trod_int Try.underlying3 f2
    obtain ⟨n3, e3, rfl, _⟩ := DataW.trod_int Try.underlying3 f3
    obtain ⟨n4, e4, rfl⟩ := DataW.trod_bool Try.underlying4 f4
    obtain ⟨n5, e5, rfl⟩ := DataW.trod_bool Try.underlying4 f5
    obtain ⟨n6, e6, rfl⟩ := DataW.trod_bool Try.underlying4 f6
    simp only [List.cons.injEq, and_true] at e0 e1 e2 e3 e4 e5 e6
    subst e0 e1 e2 e3 e4 e5 e6
    exact ⟨(s, (n1, n2, n3), (n4, n5, n6)), rfl⟩
theorem open_nodes {H : Type} {enc : TypeId × Value → H} {W : World} {a : Option Addr} {len cap : Nat} {d : DataW H} {p : List MemPlace}
    (h : DataW.Trod enc Try.prog W 0 (fun _ => true) true 30 (.slice a len cap) d p) : ∃ l, RdNd (fun _ => True) W l (.slice a len cap) := by
  obtain ⟨fuel, hf⟩ := h
  have hc : Try.prog.cellsOf 76 = 7 := by kernel_rfl
  rcases Go.Deep.open_slice Try.underlying30 hf with ⟨hcs, hx⟩ | ⟨x, l, c, m, n, D, Pl, hcs, _, hl, hm, hmc, hx, hel⟩
  · simp [Value.cells] at hcs
    obtain ⟨rfl, rfl, rfl⟩ := hcs
    exact ⟨[], rdK_none _ _ _ _⟩
  · simp [Value.cells] at hcs
    obtain ⟨rfl, rfl, rfl⟩ := hcs
    have hmc' : m = cap := by simpa using hmc
    rw [hc] at hel
    have hall : ∀ i, i < len → ∃ y : Nd, W.cells? 0 (x.add (i * 7)) 7 = some (ndV y) := by
      intro i hi
      obtain ⟨cs', h1, h2⟩ := hel i (by omega)
      obtain ⟨y, rfl⟩ := open_nd h2
      exact ⟨y, h1⟩
    obtain ⟨f, hfy⟩ := Go.Deep.choose_lt (α := Nd) hall
    refine ⟨(List.range len).map f, some x, cap, by simp, by simp; omega, hm, fun i hi => ?_⟩
    have hi' : i < len := by simpa using hi
    obtain ⟨_, _, h0⟩ := World.cells?_some (hfy 0 (by omega))
    obtain ⟨_, _, hcell⟩ := World.cells?_some (hfy i hi')
    have hs : x = ⟨x.block, x.off, none⟩ := by
      have := h0 0 (by omega)
      rw [Nat.zero_mul, show (x.add 0).add 0 = x.add 0 from by simp [Addr.add]] at this
      exact spotN this
    generalize x.block = b at hs
    generalize x.off = off at hs
    subst hs
    have hg : ∀ j u, (ndV (f i))[j]? = some u → W.cell? ⟨b, off + i * 7 + j, none⟩ = some u := fun j u hj => by
      have hj7 : j < 7 := by
        have := (List.getElem?_eq_some_iff.1 hj).1
        simpa [ndV] using this
      have := hcell j hj7
      rw [hj] at this
      rw [add_plain, add_plain] at this
      exact this
    simp only [List.getElem_map, List.getElem_range]
    exact ⟨b, off, ndV (f i), rfl, trivial, World.block_lt_of_cell? W _ (hg 0 _ rfl), rfl, rfl, hg⟩
theorem open_ints {H : Type} {enc : TypeId × Value → H} {W : World} {a : Option Addr} {len cap : Nat} {d : DataW H} {p : List MemPlace}
    (h : DataW.Trod enc Try.prog W 0 (fun _ => true) true 59 (.slice a len cap) d p) : ∃ l, RdZs (fun _ => True) W l (.slice a len cap) := by
  obtain ⟨fuel, hf⟩ := h
  have hc : Try.prog.cellsOf 3 = 1 := by kernel_rfl
  rcases Go.Deep.open_slice Try.underlying59 hf with ⟨hcs, hx⟩ | ⟨x, l, c, m, n, D, Pl, hcs, _, hl, hm, hmc, hx, hel⟩
  · simp [Value.cells] at hcs
    obtain ⟨rfl, rfl, rfl⟩ := hcs
    exact ⟨[], rdK_none _ _ _ _⟩
  · simp [Value.cells] at hcs
    obtain ⟨rfl, rfl, rfl⟩ := hcs
    have hmc' : m = cap := by simpa using hmc
    rw [hc] at hel
    have hall : ∀ i, i < len → ∃ y : Int, W.cells? 0 (x.add (i * 1)) 1 = some [.int .i64 y] := by
      intro i hi
      obtain ⟨cs', h1, h2⟩ := hel i (by omega)
      obtain ⟨y, rfl, _⟩ := DataW.trod_int Try.underlying3 h2
      exact ⟨y, h1⟩
    obtain ⟨f, hfy⟩ := Go.Deep.choose_lt (α := Int) hall
    refine ⟨(List.range len).map f, some x, cap, by simp, by simp; omega, hm, fun i hi => ?_⟩
    have hi' : i < len := by simpa using hi
    obtain ⟨_, _, h0⟩ := World.cells?_some (hfy 0 (by omega))
    obtain ⟨_, _, hcell⟩ := World.cells?_some (hfy i hi')
    have hs : x = ⟨x.block, x.off, none⟩ := by
      have := h0 0 (by omega)
      rw [Nat.zero_mul, show (x.add 0).add 0 = x.add 0 from by simp [Addr.add]] at this
      exact spotN this
    generalize x.block = b at hs
    generalize x.off = off at hs
    subst hs
    have hg : ∀ j u, [Value.int .i64 (f i)][j]? = some u → W.cell? ⟨b, off + i * 1 + j, none⟩ = some u := fun j u hj => by
      have hj1 : j < 1 := by
        have := (List.getElem?_eq_some_iff.1 hj).1
        simpa using this
      have := hcell j hj1
      rw [hj] at this
      rw [add_plain, add_plain] at this
      exact this
    simp only [List.getElem_map, List.getElem_range]
    exact ⟨b, off, [.int .i64 (f i)], rfl, trivial, World.block_lt_of_cell? W _ (hg 0 _ rfl), rfl, rfl, hg⟩
end Go.Proofs.Ytbccdkhbplmknaa
