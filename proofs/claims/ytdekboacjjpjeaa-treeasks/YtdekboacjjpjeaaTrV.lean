
/- What the document's lies answers. -/
import Derived.Test.YtdekboacjjpjeaaTrU
import Derived.Test.YtdekboacjjpjeaaTrN
import Derived.Deep.CutBlock
namespace Go.Proofs.Ytdekboacjjpjeaa
open Go.RowKit Go.Lib
set_option linter.unusedSimpArgs false
set_option linter.unusedVariables false
attribute [local go_sem ↓] Go.wp_at_zero Go.wp_at_succ

set_option maxRecDepth 100000 in
set_option maxHeartbeats 4000000 in
theorem lies_any {ok : Nat → Prop} {w : World} {l : List Nd} {v : Value} (h : RdNd ok w l v) {i : Nat} (hi : i < l.length) (j : Int) :
    Calls Try.prog 36 #[v, .int .i64 (i : Int), .int .i64 j] w fun e w' => e = .returned (.bool (lsR (nP l) j (i + 1) i)) ∧ w = w' := by
  obtain ⟨a, cap, rfl, hlc, hcm⟩ := h.form
  unfold maxLen at hcm
  have HC := hidOf h
  obtain ⟨V, hV⟩ : ∃ V, lsR (nP l) j (i + 1) i = V := ⟨_, rfl⟩
  have HV := hidOf hV
  rw [hV]
  obtain ⟨b, off, rfl, hbl, c0, c1, c2, c3, c4, c5, c6⟩ := nd_at h i hi
  obtain ⟨n, hn⟩ : ∃ n, l.length = n := ⟨_, rfl⟩
  rw [hn] at hlc hi ⊢
  have HN := hidOf hn
  obtain ⟨p, hp⟩ : ∃ p, nP l i = p := ⟨_, rfl⟩
  rw [hp] at c1
  have HP := hidOf hp
  clear hV hn h hp c0 c2 c3 c4 c5 c6
  have i1 : (i : Int) < (n : Int) := by omega
  have i2 : (0 : Int) ≤ (i : Int) := by omega
  go_enter Try.func36, Try.ntmps36
  go_wp2
  clear c1
  go_loop [1, 7] (fun s t => ∃ (c : Nat) (q : Int), c < n ∧ s = .int .i64 (c : Int) ∧ t = .int .i64 q ∧ Hid (nP l c = q) ∧ Hid (lsR (nP l) j (c + 1) c = V)) (fun s _ => (RowKit.intOf s).toNat)
  case atStart => exact ⟨i, p, hi, rfl, rfl, HP, HV⟩
  case round =>
    clear HP HV i1 i2
    obtain ⟨c, q, hcn, rfl, rfl, HQ, HI⟩ := hrel
    have HI2 : Hid ((if 0 ≤ q ∧ q < c then (if q = j then true else lsR (nP l) j c q.toNat) else false) = V) := by
      have := HI.out
      rw [lsR, HQ.out] at this
      exact this
    by_cases h0 : 0 ≤ q
    · by_cases h1 : q < c
      · obtain ⟨k, rfl⟩ : ∃ k : Nat, q = k := ⟨q.toNat, by omega⟩
        have hkc : k < c := by omega
        have HI3 : Hid ((if (k : Int) = j then true else lsR (nP l) j (k + 1) k) = V) := by
          have := HI2.out
          rw [if_pos ⟨h0, h1⟩, Int.toNat_natCast, lsR_more (nP l) j c k hkc] at this
          exact this
        have i3 : (k : Int) < (n : Int) := by omega
        by_cases hj : (k : Int) = j
        · have hT : V = true := by rw [← HI3.out, if_pos hj]
          subst hT hj
          go_wp2
          go_ret
          exact ⟨rfl, rfl⟩
        · have HI4 : Hid (lsR (nP l) j (k + 1) k = V) := by have := HI3.out; rw [if_neg hj] at this; exact this
          have hj2 : ((k : Int) == j) = false := beq_eq_false_iff_ne.2 hj
          obtain ⟨b', off', he, _, _, c1, _⟩ := nd_at HC.out k (by rw [HN.out]; omega)
          simp only [Option.some.injEq, Addr.mk.injEq, and_true] at he
          obtain ⟨rfl, rfl⟩ := he
          obtain ⟨pk, hk⟩ : ∃ x, nP l k = x := ⟨_, rfl⟩
          rw [hk] at c1
          have HK := hidOf hk
          clear hk hj
          go_wp2
          go_round
          case rel => exact ⟨k, pk, by omega, rfl, rfl, HK, HI4⟩
          case measure => simp [RowKit.intOf]; omega
      · have hF : V = false := by rw [← HI2.out, if_neg (fun h => h1 h.2)]
        subst hF
        go_wp2
        go_ret
        exact ⟨rfl, rfl⟩
    · have hF : V = false := by rw [← HI2.out, if_neg (fun h => h0 h.1)]
      subst hF
      go_wp2
      go_ret
      exact ⟨rfl, rfl⟩
set_option maxHeartbeats 1000000 in
theorem stateR_any {w : World} {a : Option Addr} {n cap : Nat} (i : Int) (hlc : n ≤ cap) (hcm : cap ≤ maxLen) :
    Calls Try.prog 41 #[.slice a n cap, .int .i64 i] w fun e w' => e = .returned (.bool (nmB n i)) ∧ w = w' := by
  unfold maxLen at hcm
  by_cases h0 : 0 ≤ i
  · by_cases h1 : i < n
    · have e : nmB n i = true := by unfold nmB; simp [h0, h1]
      rw [e]
      clear e
      go_enter Try.func41, Try.ntmps41
      go_wp2
      go_ret
      exact ⟨rfl, rfl⟩
    · have e : nmB n i = false := nmB_no (fun h => h1 h.2)
      rw [e]
      clear e
      go_enter Try.func41, Try.ntmps41
      go_wp2
      go_ret
      exact ⟨rfl, rfl⟩
  · have e : nmB n i = false := nmB_no (fun h => h0 h.1)
    rw [e]
    clear e
    go_enter Try.func41, Try.ntmps41
    go_wp2
    go_ret
    exact ⟨rfl, rfl⟩
end Go.Proofs.Ytdekboacjjpjeaa
