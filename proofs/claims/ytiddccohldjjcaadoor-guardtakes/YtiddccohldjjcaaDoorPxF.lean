
/- What the program's rightWithin and Formed do. -/
import Derived.Test.YtiddccohldjjcaaDoorPxK
import Derived.Test.YtiddccohldjjcaaDoorPxO
import Derived.Test.YtiddccohldjjcaaDoorPxN
import Derived.Test.YtiddccohldjjcaaDoorExPf
namespace Go.Proofs.YtiddccohldjjcaaDoor
open Go.RowKit Go.Lib
set_option linter.unusedSimpArgs false
set_option linter.unusedVariables false
attribute [local go_sem ↓] Go.wp_at_zero Go.wp_at_succ

theorem ndC_cnt : ∀ (d : Nat) (t : T d), ndC d t = min (cnt d t) 41
  | 0, t => Empty.elim t
  | d + 1, t => by
    obtain ⟨k, n, s, ps, rfl⟩ := T.open t
    rw [ndC_mk, cnt_mk]
    have : ∀ l : List (T d), min ((l.map (ndC d)).sum + 1) 41 = min ((l.map (cnt d)).sum + 1) 41 := fun l => by
      induction l with
      | nil => rfl
      | cons p r ih =>
        have := ndC_cnt d p
        simp only [List.map_cons, List.sum_cons]
        omega
    exact this ps

theorem foldl_max_iff {m : Nat} : ∀ (l : List Nat) (a : Nat), l.foldl max a ≤ m ↔ a ≤ m ∧ ∀ x ∈ l, x ≤ m
  | [], a => by simp
  | x :: r, a => by
    rw [List.foldl_cons, foldl_max_iff r, Nat.max_le]
    simp only [List.mem_cons, forall_eq_or_imp, and_assoc]
theorem sd_rt {d : Nat} {k n : Int} {s : ByteArray} {ps : List (T d)} (h : Cl (d + 1) (mkT k n s ps)) : sdC (d + 1) (mkT k n s ps) = (rtC k n s && ps.all (sdC d)) := by
  rw [sdC_mk]
  unfold rtC
  rcases h with ⟨h1, h2, h3⟩ | ⟨h1, h2, h3⟩ | ⟨h1, h2, h3, p, h4, h5⟩ | ⟨h1, h2, p, q, h3, h4, h5⟩ | ⟨h1, h2, h3, h4⟩
  · simp only at h1 h3; subst h1 h3; simp
  · simp only at h1 h3; subst h1 h3; simp
  · simp only at h1 h4; rcases h1 with rfl | rfl <;> simp
  · simp only at h1 h3; subst h1 h3; simp
  · simp only at h1 h4; subst h1 h4; simp
theorem within_all {d : Nat} {k n : Int} {s : ByteArray} {ps : List (T d)} (h : Cl (d + 1) (mkT k n s ps)) (r : Nat) :
    (decide (dpC (d + 1) (mkT k n s ps) ≤ r + 1) && sdC (d + 1) (mkT k n s ps)) = (rtC k n s && ps.all (fun p => decide (dpC d p ≤ r) && sdC d p)) := by
  rw [sd_rt h, dpC_mk]
  have e1 : decide ((ps.map (dpC d)).foldl max 0 + 1 ≤ r + 1) = ps.all (fun p => decide (dpC d p ≤ r)) := by
    rw [Bool.eq_iff_iff]
    simp only [decide_eq_true_eq, List.all_eq_true]
    rw [Nat.add_le_add_iff_right, foldl_max_iff]
    simp
  have e2 : ps.all (fun p => decide (dpC d p ≤ r) && sdC d p) = (ps.all (fun p => decide (dpC d p ≤ r)) && ps.all (sdC d)) := by
    induction ps with
    | nil => rfl
    | cons p q ih =>
      simp only [List.all_cons]
      have : q.all (fun p => decide (dpC d p ≤ r) && sdC d p) = (q.all (fun p => decide (dpC d p ≤ r)) && q.all (sdC d)) := by
        clear ih e1 h
        induction q with
        | nil => rfl
        | cons a b ih => simp only [List.all_cons]; rw [ih]; cases decide (dpC d a ≤ r) <;> cases sdC d a <;> simp
      rw [this]
      cases decide (dpC d p ≤ r) <;> cases sdC d p <;> simp
  rw [e1, e2]
  cases rtC k n s <;> simp
theorem dpC_pos (d : Nat) (t : T d) : 1 ≤ dpC d t := by
  match d, t with
  | 0, t => exact Empty.elim t
  | d + 1, t =>
    obtain ⟨k, n, s, ps, rfl⟩ := T.open t
    rw [dpC_mk]; omega

def RightC (d : Nat) : Prop := ∀ (t : T d) (r : Nat) (w : World), Cl d t → shrt 1000 d t = true → r ≤ 12 →
  Calls Tryd.prog 41 #[exV d t, .int .i64 (r : Int)] w fun e w' => e = .returned (.bool (decide (dpC d t ≤ r) && sdC d t)) ∧ Below w.heap.size w w'
set_option maxRecDepth 100000 in
set_option maxHeartbeats 4000000 in
theorem right_step (d : Nat) (IH : RightC d) : RightC (d + 1) := by
  intro t r w hc hs hr
  obtain ⟨k, n, s, ps, rfl, htop⟩ := top_any hc
  rw [shrt_mk] at hs
  simp only [Bool.and_eq_true, decide_eq_true_eq, List.all_eq_true] at hs
  obtain ⟨hs1, hs2⟩ := hs
  obtain ⟨x, hx⟩ : ∃ x, exV (d + 1) (mkT k n s ps) = x := ⟨_, rfl⟩
  rw [hx] at htop ⊢
  have htop' : ∀ w1, Calls Tryd.prog 24 #[x] w1 fun e w' => ∃ sl, e = .returned (.agg #[.int .i64 k, .int .i64 n, .string s, sl]) ∧ Kids w' sl (ps.map (exV d)) ∧ Below w1.heap.size w1 w' := htop
  cases r with
  | zero =>
    have e1 : (((0 : Nat) : Int) < 1) := by omega
    have hd := dpC_pos (d + 1) (mkT k n s ps)
    rw [decide_eq_false (by omega), Bool.false_and]
    go_enter Tryd.func41, Tryd.ntmps41
    go_wp2_with (first
      | (go_at_call 24; refine (htop' _).mono ?_; rintro e w1 ⟨sl, rfl, hk1, b1⟩; obtain ⟨a1, rfl⟩ := hk1.form))
    go_ret
    exact ⟨rfl, b1.alloc b1.size _⟩
  | succ r =>
  rw [within_all hc]
  obtain ⟨L, hL⟩ : ∃ L, ps.map (exV d) = L := ⟨_, rfl⟩
  have hkid : Hid (∀ (j : Nat) (h : j < L.length) (h' : j < ps.length) (w1 : World), Calls Tryd.prog 41 #[L[j], .int .i64 (r : Int)] w1 fun e w' => e = .returned (.bool (decide (dpC d ps[j] ≤ r) && sdC d ps[j])) ∧ Below w1.heap.size w1 w') :=
    fun j h h' w1 => by
      have := IH ps[j] r w1 ((Cl.parts hc).2 _ (List.getElem_mem h')) (hs2 _ (List.getElem_mem h')) (by omega)
      subst hL
      simpa using this
  have hrt := fun a m w1 => rightTop_any k n s a m hs1 w1
  have hpl : L.length ≤ 2 := by rw [← hL]; simpa using (Cl.parts hc).1
  have hLl : Hid (L.length = ps.length) := by rw [← hL]; show _ = _; simp
  have i0 : ¬ ((r : Int) + 1 < 1) := by omega
  have i1 : (((r + 1 : Nat) : Int)) = (r : Int) + 1 := by omega
  rw [i1]
  obtain ⟨g, hg⟩ : ∃ g, rtC k n s = g := ⟨_, rfl⟩
  simp only [hg] at hrt
  simp only [hL] at htop'
  rw [hg]
  clear hg i1 htop hs1 hs2 hc hx hL
  cases g with
  | false =>
    rw [Bool.false_and]
    go_enter Tryd.func41, Tryd.ntmps41
    go_wp2_with (first
      | (go_at_call 24; refine (htop' _).mono ?_; rintro e w1 ⟨sl, rfl, hk1, b1⟩; obtain ⟨a1, rfl⟩ := hk1.form; have b2 := b1.alloc b1.size (.cells #[.int .i64 k, .int .i64 n, .string s, .slice a1 L.length L.length] 78))
      | (go_at_call 63; refine (hrt _ _ _).mono ?_; rintro e w2 ⟨rfl, b3⟩))
    go_ret
    exact ⟨rfl, b2.trans (b3.mono b2.size)⟩
  | true =>
    rw [Bool.true_and]
    obtain ⟨V, hV⟩ : ∃ V, ps.all (fun p => decide (dpC d p ≤ r) && sdC d p) = V := ⟨_, rfl⟩
    rw [hV]
    have HV : Hid (ps.all (fun p => decide (dpC d p ≤ r) && sdC d p) = V) := hV
    clear hV
    go_enter Tryd.func41, Tryd.ntmps41
    go_wp2_with (first
      | (go_at_call 24; refine (htop' _).mono ?_; rintro e w1 ⟨sl, rfl, hk1, b1⟩; obtain ⟨a1, rfl⟩ := hk1.form; have b2 := b1.alloc b1.size (.cells #[.int .i64 k, .int .i64 n, .string s, .slice a1 L.length L.length] 78))
      | (go_at_call 63; refine (hrt _ _ _).mono ?_; rintro e w2 ⟨rfl, b3⟩; obtain ⟨y0, y1, y2, y3⟩ := (At4.new w1 (.int .i64 k) (.int .i64 n) (.string s) (.slice a1 L.length L.length) 78).keepB b3 (by simp)))
    have b4 := b2.trans (b3.mono b2.size)
    have hk2 := (hk1.below ((Below.refl _ _).alloc (Nat.le_refl _) _) (Nat.le_refl _)).below b3 (Nat.le_refl _)
    clear hrt htop' hk1 b1 b2 b3
    go_loopw [20] (fun i wr => ∃ j : Nat, j ≤ L.length ∧ i = .int .i64 (j : Int) ∧ Hid ((ps.take j).all (fun p => decide (dpC d p ≤ r) && sdC d p) = true) ∧ Hid (Kids wr (.slice a1 L.length L.length) L) ∧ Below w.heap.size w wr) (fun i _ => L.length - (RowKit.intOf i).toNat)
    case atStart => exact ⟨0, Nat.zero_le _, rfl, rfl, hk2, b4⟩
    case round =>
      obtain ⟨j, hj, rfl, hA, hK, hb⟩ := hrel
      have i2 : (0 : Int) ≤ (j : Int) := by omega
      have hll := hLl.out
      by_cases hlt : j < L.length
      · have i3 : (j : Int) < (L.length : Int) := by omega
        obtain ⟨gg, hgg, hcell⟩ := hK.out.at hlt
        have hc2 := hkid.out j hlt (by omega)
        have h1 := all_take_succ (fun p => decide (dpC d p ≤ r) && sdC d p) ps j (by omega) hA.out
        have h2 := all_not (fun p => decide (dpC d p ≤ r) && sdC d p) ps j (by omega)
        obtain ⟨z, hz⟩ : ∃ z, L[j] = z := ⟨_, rfl⟩
        obtain ⟨q, hq⟩ : ∃ q, (decide (dpC d (ps[j]'(by omega)) ≤ r) && sdC d (ps[j]'(by omega))) = q := ⟨_, rfl⟩
        rw [hz] at hcell
        simp only [hz, hq] at hc2
        simp only [hq] at h1 h2
        subst hgg
        have hK2 := fun w3 (b : Below wr.heap.size wr w3) => hK.out.below b (Nat.le_refl _)
        have hS : Hid (_ → _) := h1
        have hN : Hid (_ → _) := h2
        clear hz hq h1 h2 hll hK hA
        cases q with
        | false =>
          have hF : V = false := by rw [← HV.out]; exact hN.out rfl
          subst hF
          go_wp2_with (first
            | (go_at_call 41; refine (hc2 _).mono ?_; rintro e w3 ⟨rfl, b5⟩))
          go_ret
          exact ⟨rfl, hb.trans (b5.mono hb.size)⟩
        | true =>
          have hT := hS.out rfl
          have HT : Hid ((ps.take (j + 1)).all (fun p => decide (dpC d p ≤ r) && sdC d p) = true) := hT
          clear hT hS hN
          go_wp2_with (first
            | (go_at_call 41; refine (hc2 _).mono ?_; rintro e w3 ⟨rfl, b5⟩))
          have hK3 : Hid _ := hK2 _ b5
          have b6 := hb.trans (b5.mono hb.size)
          go_roundw
          case rel => exact ⟨j + 1, hlt, by go_num, HT, hK3, b6⟩
          case measure => simp [RowKit.intOf]; omega
      · have i3 : ¬ (j : Int) < (L.length : Int) := by omega
        have hF : V = true := by
          rw [← HV.out, ← hA.out, List.take_of_length_le (by omega)]
        subst hF
        clear hll
        go_wp2
        go_ret
        exact ⟨rfl, hb⟩
theorem right_any : ∀ (d : Nat), RightC d
  | 0 => fun t => Empty.elim t
  | d + 1 => right_step d (right_any d)

theorem pNodes_any (d : Nat) (t : T d) (w : World) (hc : Cl d t) (hn : cnt d t ≤ 100000) : Calls Tryd.prog 40 #[exV d t] w fun r w' => r = .returned (.int .i64 (ndC d t : Int)) ∧ Below w.heap.size w w' := by
  rw [ndC_cnt]
  exact pNodes_cnt d t w hc hn

theorem formedP : FormedP := by
  intro d t w hc hn hs
  have h1 := pNodes_any d t w hc hn
  have h2 := fun w1 => right_any d t 12 w1 hc hs (Nat.le_refl _)
  unfold fmC
  obtain ⟨N, hN⟩ : ∃ N, ndC d t = N := ⟨_, rfl⟩
  obtain ⟨q, hq⟩ : ∃ q, (decide (dpC d t ≤ 12) && sdC d t) = q := ⟨_, rfl⟩
  obtain ⟨x, hx⟩ : ∃ x, exV d t = x := ⟨_, rfl⟩
  rw [Bool.and_assoc, hN, hq]
  rw [hN] at h1
  simp only [hq] at h2
  rw [hx] at h1 ⊢
  simp only [hx] at h2
  clear hN hq hx hc hn hs
  by_cases h40 : N ≤ 40
  · have e1 : (N : Int) ≤ 40 := by omega
    rw [decide_eq_true h40, Bool.true_and]
    go_enter Tryd.func21, Tryd.ntmps21
    go_wp2_with (first
      | (go_at_call 40; refine h1.mono ?_; rintro e w1 ⟨rfl, b1⟩)
      | (go_at_call 41; refine (h2 _).mono ?_; rintro e w2 ⟨rfl, b2⟩))
    go_ret
    exact ⟨rfl, bthen b1 b2⟩
  · have e1 : ¬ (N : Int) ≤ 40 := by omega
    rw [decide_eq_false h40, Bool.false_and]
    go_enter Tryd.func21, Tryd.ntmps21
    go_wp2_with (first
      | (go_at_call 40; refine h1.mono ?_; rintro e w1 ⟨rfl, b1⟩))
    go_ret
    exact ⟨rfl, b1⟩
end Go.Proofs.YtiddccohldjjcaaDoor
