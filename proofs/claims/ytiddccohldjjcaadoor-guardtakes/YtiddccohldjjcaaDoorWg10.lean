import Derived.Test.YtiddccohldjjcaaDoorWg05
import Derived.Test.YtiddccohldjjcaaDoorWg09
import Derived.Test.YtiddccohldjjcaaDoorWg02
import Derived.Test.YtiddccohldjjcaaDoorWg06
import Derived.Deep.RegionLaw
import Derived.Deep.LoopGhost
import Derived.Deep.DeepCutAuto

/- What the program's rightWithin and Formed do. -/
namespace Go.Proofs.YtiddccohldjjcaaDoor
open Go.RowKit Go.Lib
set_option linter.unusedSimpArgs false
set_option linter.unusedVariables false
attribute [local go_sem ↓] Go.wp_at_zero Go.wp_at_succ

theorem ndC_cnt : ∀ (d : Nat) (t : T d), ndC d t = min (cnt d t) 41
  | 0, t => Empty.elim t
  | d + 1, t => by
    obtain ⟨k, n, s, ps, rfl⟩ := T.open t
    rw [ndC_mk, cnt_mk]
    have : ∀ l : List (T d), min ((l.map (ndC d)).sum + 1) 41 = min ((l.map (cnt d)).sum + 1) 41 := fun l => by
      induction l with
      | nil => rfl
      | cons p r ih =>
        have := ndC_cnt d p
        simp only [List.map_cons, List.sum_cons]
        omega
    exact this ps

theorem foldl_max_iff {m : Nat} : ∀ (l : List Nat) (a : Nat), l.foldl max a ≤ m ↔ a ≤ m ∧ ∀ x ∈ l, x ≤ m
  | [], a => by simp
  | x :: r, a => by
    rw [List.foldl_cons, foldl_max_iff r, Nat.max_le]
    simp only [List.mem_cons, forall_eq_or_imp, and_assoc]
theorem sd_rt {d : Nat} {k n : Int} {s : ByteArray} {ps : List (T d)} (h : Cl (d + 1) (mkT k n s ps)) : sdC (d + 1) (mkT k n s ps) = (rtC k n s && ps.all (sdC d)) := by
  rw [sdC_mk]
  unfold rtC
  rcases h with ⟨h1, h2, h3⟩ | ⟨h1, h2, h3⟩ | ⟨h1, h2, h3, p, h4, h5⟩ | ⟨h1, h2, p, q, h3, h4, h5⟩ | ⟨h1, h2, h3, h4⟩
  · simp only at h1 h3; subst h1 h3; simp
  · simp only at h1 h3; subst h1 h3; simp
  · simp only at h1 h4; rcases h1 with rfl | rfl <;> simp
  · simp only at h1 h3; subst h1 h3; simp
  · simp only at h1 h4; subst h1 h4; simp
theorem within_all {d : Nat} {k n : Int} {s : ByteArray} {ps : List (T d)} (h : Cl (d + 1) (mkT k n s ps)) (r : Nat) :
    (decide (dpC (d + 1) (mkT k n s ps) ≤ r + 1) && sdC (d + 1) (mkT k n s ps)) = (rtC k n s && ps.all (fun p => decide (dpC d p ≤ r) && sdC d p)) := by
  rw [sd_rt h, dpC_mk]
  have e1 : decide ((ps.map (dpC d)).foldl max 0 + 1 ≤ r + 1) = ps.all (fun p => decide (dpC d p ≤ r)) := by
    rw [Bool.eq_iff_iff]
    simp only [decide_eq_true_eq, List.all_eq_true]
    rw [Nat.add_le_add_iff_right, foldl_max_iff]
    simp
  have e2 : ps.all (fun p => decide (dpC d p ≤ r) && sdC d p) = (ps.all (fun p => decide (dpC d p ≤ r)) && ps.all (sdC d)) := by
    induction ps with
    | nil => rfl
    | cons p q ih =>
      simp only [List.all_cons]
      have : q.all (fun p => decide (dpC d p ≤ r) && sdC d p) = (q.all (fun p => decide (dpC d p ≤ r)) && q.all (sdC d)) := by
        clear ih e1 h
        induction q with
        | nil => rfl
        | cons a b ih => simp only [List.all_cons]; rw [ih]; cases decide (dpC d a ≤ r) <;> cases sdC d a <;> simp
      rw [this]
      cases decide (dpC d p ≤ r) <;> cases sdC d p <;> simp
  rw [e1, e2]
  cases rtC k n s <;> simp
theorem dpC_pos (d : Nat) (t : T d) : 1 ≤ dpC d t := by
  match d, t with
  | 0, t => exact Empty.elim t
  | d + 1, t =>
    obtain ⟨k, n, s, ps, rfl⟩ := T.open t
    rw [dpC_mk]; omega

def RightC (d : Nat) : Prop := ∀ (t : T d) (r : Nat) (w : World), Cl d t → shrt 1000 d t = true → r ≤ 12 →
  Calls Tryd.prog 41 #[exV d t, .int .i64 (r : Int)] w fun e w' => e = .returned (.bool (decide (dpC d t ≤ r) && sdC d t)) ∧ Below w.heap.size w w'
set_option maxRecDepth 100000 in
set_option maxHeartbeats 4000000 in
theorem right_step (d : Nat) (IH : RightC d) : RightC (d + 1) := by
  intro t r w hc hs hr
  obtain ⟨k, n, s, ps, rfl, htop⟩ := top_any hc
  rw [shrt_mk] at hs
  simp only [Bool.and_eq_true, decide_eq_true_eq, List.all_eq_true] at hs
  obtain ⟨hs1, hs2⟩ := hs
  obtain ⟨x, hx⟩ : ∃ x, exV (d + 1) (mkT k n s ps) = x := ⟨_, rfl⟩
  rw [hx] at htop ⊢
  have htop' : ∀ w1, Calls Tryd.prog 24 #[x] w1 fun e w' => ∃ sl, e = .returned (.agg #[.int .i64 k, .int .i64 n, .string s, sl]) ∧ Kids w' sl (ps.map (exV d)) ∧ Below w1.heap.size w1 w' := htop
  cases r with
  | zero =>
    have e1 : (((0 : Nat) : Int) < 1) := by omega
    have hd := dpC_pos (d + 1) (mkT k n s ps)
    rw [decide_eq_false (by omega), Bool.false_and]
    go_enter Tryd.func41, Tryd.ntmps41
    go_wp2_with (first
      | (go_at_call 24; refine (htop' _).mono ?_; rintro e w1 ⟨sl, rfl, hk1, b1⟩; obtain ⟨a1, rfl⟩ := hk1.form))
    go_ret
    exact ⟨rfl, b1.alloc b1.size _⟩
  | succ r =>
  rw [within_all hc]
  obtain ⟨L, hL⟩ : ∃ L, ps.map (exV d) = L := ⟨_, rfl⟩
  have hkid : Hid (∀ (j : Nat) (h : j < L.length) (h' : j < ps.length) (w1 : World), Calls Tryd.prog 41 #[L[j], .int .i64 (r : Int)] w1 fun e w' => e = .returned (.bool (decide (dpC d ps[j] ≤ r) && sdC d ps[j])) ∧ Below w1.heap.size w1 w') :=
    fun j h h' w1 => by
      have := IH ps[j] r w1 ((Cl.parts hc).2 _ (List.getElem_mem h')) (hs2 _ (List.getElem_mem h')) (by omega)
      subst hL
      simpa using this
  have hrt := fun a m w1 => rightTop_any k n s a m hs1 w1
  have hpl : L.length ≤ 2 := by rw [← hL]; simpa using (Cl.parts hc).1
  have hLl : Hid (L.length = ps.length) := by rw [← hL]; show _ = _; simp
  have i0 : ¬ ((r : Int) + 1 < 1) := by omega
  have i1 : (((r + 1 : Nat) : Int)) = (r : Int) + 1 := by omega
  rw [i1]
  obtain ⟨g, hg⟩ : ∃ g, rtC k n s = g := ⟨_, rfl⟩
  simp only [hg] at hrt
  simp only [hL] at htop'
  rw [hg]
  clear hg i1 htop hs1 hs2 hc hx hL
  cases g with
  | false =>
    rw [Bool.false_and]
    go_enter Tryd.func41, Tryd.ntmps41
    go_wp2_with (first
      | (go_at_call 24; refine (htop' _).mono ?_; rintro e w1 ⟨sl, rfl, hk1, b1⟩; obtain ⟨a1, rfl⟩ := hk1.form; have b2 := b1.alloc b1.size (.cells #[.int .i64 k, .int .i64 n, .string s, .slice a1 L.length L.length] 78))
      | (go_at_call 63; refine (hrt _ _ _).mono ?_; rintro e w2 ⟨rfl, b3⟩))
    go_ret
    exact ⟨rfl, b2.trans (b3.mono b2.size)⟩
  | true =>
    rw [Bool.true_and]
    obtain ⟨V, hV⟩ : ∃ V, ps.all (fun p => decide (dpC d p ≤ r) && sdC d p) = V := ⟨_, rfl⟩
    rw [hV]
    have HV : Hid (ps.all (fun p => decide (dpC d p ≤ r) && sdC d p) = V) := hV
    clear hV
    go_enter Tryd.func41, Tryd.ntmps41
    go_wp2_with (first
      | (go_at_call 24; refine (htop' _).mono ?_; rintro e w1 ⟨sl, rfl, hk1, b1⟩; obtain ⟨a1, rfl⟩ := hk1.form; have b2 := b1.alloc b1.size (.cells #[.int .i64 k, .int .i64 n, .string s, .slice a1 L.length L.length] 78))
      | (go_at_call 63; refine (hrt _ _ _).mono ?_; rintro e w2 ⟨rfl, b3⟩; obtain ⟨y0, y1, y2, y3⟩ := (At4.new w1 (.int .i64 k) (.int .i64 n) (.string s) (.slice a1 L.length L.length) 78).keepB b3 (by simp)))
    have b4 := b2.trans (b3.mono b2.size)
    have hk2 := (hk1.below ((Below.refl _ _).alloc (Nat.le_refl _) _) (Nat.le_refl _)).below b3 (Nat.le_refl _)
    clear hrt htop' hk1 b1 b2 b3
    go_loopw [20] (fun i wr => ∃ j : Nat, j ≤ L.length ∧ i = .int .i64 (j : Int) ∧ Hid ((ps.take j).all (fun p => decide (dpC d p ≤ r) && sdC d p) = true) ∧ Hid (Kids wr (.slice a1 L.length L.length) L) ∧ Below w.heap.size w wr) (fun i _ => L.length - (RowKit.intOf i).toNat)
    case atStart => exact ⟨0, Nat.zero_le _, rfl, rfl, hk2, b4⟩
    case round =>
      obtain ⟨j, hj, rfl, hA, hK, hb⟩ := hrel
      have i2 : (0 : Int) ≤ (j : Int) := by omega
      have hll := hLl.out
      by_cases hlt : j < L.length
      · have i3 : (j : Int) < (L.length : Int) := by omega
        obtain ⟨gg, hgg, hcell⟩ := hK.out.at hlt
        have hc2 := hkid.out j hlt (by omega)
        have h1 := all_take_succ (fun p => decide (dpC d p ≤ r) && sdC d p) ps j (by omega) hA.out
        have h2 := all_not (fun p => decide (dpC d p ≤ r) && sdC d p) ps j (by omega)
        obtain ⟨z, hz⟩ : ∃ z, L[j] = z := ⟨_, rfl⟩
        obtain ⟨q, hq⟩ : ∃ q, (decide (dpC d (ps[j]'(by omega)) ≤ r) && sdC d (ps[j]'(by omega))) = q := ⟨_, rfl⟩
        rw [hz] at hcell
        simp only [hz, hq] at hc2
        simp only [hq] at h1 h2
        subst hgg
        have hK2 := fun w3 (b : Below wr.heap.size wr w3) => hK.out.below b (Nat.le_refl _)
        have hS : Hid (_ → _) := h1
        have hN : Hid (_ → _) := h2
        clear hz hq h1 h2 hll hK hA
        cases q with
        | false =>
          have hF : V = false := by rw [← HV.out]; exact hN.out rfl
          subst hF
          go_wp2_with (first
            | (go_at_call 41; refine (hc2 _).mono ?_; rintro e w3 ⟨rfl, b5⟩))
          go_ret
          exact ⟨rfl, hb.trans (b5.mono hb.size)⟩
        | true =>
          have hT := hS.out rfl
          have HT : Hid ((ps.take (j + 1)).all (fun p => decide (dpC d p ≤ r) && sdC d p) = true) := hT
          clear hT hS hN
          go_wp2_with (first
            | (go_at_call 41; refine (hc2 _).mono ?_; rintro e w3 ⟨rfl, b5⟩))
          have hK3 : Hid _ := hK2 _ b5
          have b6 := hb.trans (b5.mono hb.size)
          go_roundw
          case rel => exact ⟨j + 1, hlt, by go_num, HT, hK3, b6⟩
          case measure => simp [RowKit.intOf]; omega
      · have i3 : ¬ (j : Int) < (L.length : Int) := by omega
        have hF : V = true := by
          rw [← HV.out, ← hA.out, List.take_of_length_le (by omega)]
        subst hF
        clear hll
        go_wp2
        go_ret
        exact ⟨rfl, hb⟩
theorem right_any : ∀ (d : Nat), RightC d
  | 0 => fun t => Empty.elim t
  | d + 1 => right_step d (right_any d)

theorem pNodes_any (d : Nat) (t : T d) (w : World) (hc : Cl d t) (hn : cnt d t ≤ 100000) : Calls Tryd.prog 40 #[exV d t] w fun r w' => r = .returned (.int .i64 (ndC d t : Int)) ∧ Below w.heap.size w w' := by
  rw [ndC_cnt]
  exact pNodes_cnt d t w hc hn

theorem formedP : FormedP := by
  intro d t w hc hn hs
  have h1 := pNodes_any d t w hc hn
  have h2 := fun w1 => right_any d t 12 w1 hc hs (Nat.le_refl _)
  unfold fmC
  obtain ⟨N, hN⟩ : ∃ N, ndC d t = N := ⟨_, rfl⟩
  obtain ⟨q, hq⟩ : ∃ q, (decide (dpC d t ≤ 12) && sdC d t) = q := ⟨_, rfl⟩
  obtain ⟨x, hx⟩ : ∃ x, exV d t = x := ⟨_, rfl⟩
  rw [Bool.and_assoc, hN, hq]
  rw [hN] at h1
  simp only [hq] at h2
  rw [hx] at h1 ⊢
  simp only [hx] at h2
  clear hN hq hx hc hn hs
  by_cases h40 : N ≤ 40
  · have e1 : (N : Int) ≤ 40 := by omega
    rw [decide_eq_true h40, Bool.true_and]
    go_enter Tryd.func21, Tryd.ntmps21
    go_wp2_with (first
      | (go_at_call 40; refine h1.mono ?_; rintro e w1 ⟨rfl, b1⟩)
      | (go_at_call 41; refine (h2 _).mono ?_; rintro e w2 ⟨rfl, b2⟩))
    go_ret
    exact ⟨rfl, bthen b1 b2⟩
  · have e1 : ¬ (N : Int) ≤ 40 := by omega
    rw [decide_eq_false h40, Bool.false_and]
    go_enter Tryd.func21, Tryd.ntmps21
    go_wp2_with (first
      | (go_at_call 40; refine h1.mono ?_; rintro e w1 ⟨rfl, b1⟩))
    go_ret
    exact ⟨rfl, b1⟩
end Go.Proofs.YtiddccohldjjcaaDoor

/- What the program's Take does. -/
namespace Go.Proofs.YtiddccohldjjcaaDoor
open Go.RowKit Go.Lib
set_option linter.unusedSimpArgs false
set_option linter.unusedVariables false
attribute [local go_sem ↓] Go.wp_at_zero Go.wp_at_succ

theorem rdr_start (w : World) : Rdr (w.alloc (.cells #[.slice none 0 0, .slice none 0 0, .int .i64 0, .bool false] 68)) w.heap.size ⟨[], [], 0, false⟩ (.slice none 0 0) (.slice none 0 0) :=
  ⟨B4.new w _ _ _ _ _ _ rfl, World.ownsRow_nil _ _ _ _, World.ownsRow_nil _ _ _ _, fun g hg => by simp [Value.ownBlock] at hg⟩
/-- What is told, out of what the two stacks tell. -/
def ofOut (r : Option Sx × Nat) : Sx × Nat × Int := match r.1 with | some x => if fmX x = true then (x, r.2, 0) else (noX, 0, 13) | none => (noX, r.2, 12)
theorem take_out {ws : List Wd} (h : ∀ w ∈ ws, OneW w.1 w.2.1) : takeC (ws.map tkW) = ofOut (rnY (leafY (valB 0) rsvB) (ws.map tkW) ⟨[], [], 0, false⟩ 0) ∧
    ∀ x n, rnY (leafY (valB 0) rsvB) (ws.map tkW) ⟨[], [], 0, false⟩ 0 = (some x, n) → Fine x ∧ cntX x ≤ n := by
  have hy := yard_psr (nb := valB 0) (rsv := rsvB) (l := ws.map tkW) (good_all h) (f := 7 * (ws.map tkW).length + 6) (by omega)
  have hf : BadOr _ 0 (rdC (ws.map tkW)) := fine_read h _ 1 0 (by omega) (by omega)
  have e : psr (valB 0) rsvB (ws.map tkW) (7 * (ws.map tkW).length + 6) 1 0 (-1) = rdC (ws.map tkW) := rfl
  rw [e] at hy
  obtain ⟨O, hO⟩ : ∃ O, rnY (leafY (valB 0) rsvB) (ws.map tkW) ⟨[], [], 0, false⟩ 0 = O := ⟨_, rfl⟩
  rw [hO] at hy ⊢
  unfold takeC
  rcases hf with ⟨h1, h2⟩ | h1
  · have hlt : (rdC (ws.map tkW)).2.2 < 0 := by rw [h1]; decide
    rw [if_pos hlt] at hy
    subst hy
    rw [if_neg (by omega)]
    refine ⟨rfl, fun x n hx => ?_⟩
    simp only [Prod.mk.injEq, Option.some.injEq] at hx
    obtain ⟨rfl, rfl⟩ := hx
    exact ⟨h2.1, by have := h2.2; omega⟩
  · rw [if_neg (by omega)] at hy
    subst hy
    rw [if_pos h1]
    exact ⟨rfl, fun x n hx => by simp at hx⟩
theorem celsW_at (ws : List Wd) (i : Nat) (h : i < ws.length) : (celsW ws)[i * 4]? = some (.int .i64 ((ws[i]).1 : Int)) ∧ (celsW ws)[i * 4 + 1]? = some (.string (txt (ws[i]).2.1)) ∧ (celsW ws)[i * 4 + 2]? = some (.int .i64 (ws[i]).2.2.1) ∧ (celsW ws)[i * 4 + 3]? = some (.int .i64 (ws[i]).2.2.2) := by
  induction ws generalizing i with
  | nil => simp at h
  | cons x t ih =>
    cases i with
    | zero => exact ⟨rfl, rfl, rfl, rfl⟩
    | succ k =>
      have hk := ih k (by simpa using h)
      have e : ∀ j, (celsW (x :: t))[(k + 1) * 4 + j]? = (celsW t)[k * 4 + j]? := fun j => by
        show (celW x ++ celsW t)[(k + 1) * 4 + j]? = _
        rw [List.getElem?_append_right (by simp [celW]; omega)]
        congr 1
        simp [celW]; omega
      exact ⟨(e 0).trans hk.1, (e 1).trans hk.2.1, (e 2).trans hk.2.2.1, (e 3).trans hk.2.2.2⟩
/-- Words in memory, read. -/
theorem ownW_rd {w : World} {base e : Nat} {v : Value} {ws : List Wd} (h : OwnW w base e v ws) : ∃ a cap, v = .slice a ws.length cap ∧ ws.length ≤ cap ∧ cap ≤ maxLen ∧ ∀ (i : Nat) (hi : i < ws.length), ∃ g, a = some ⟨g, 0, none⟩ ∧ g < w.heap.size ∧ w.cell? ⟨g, i * 4, none⟩ = some (.int .i64 ((ws[i]).1 : Int)) ∧ w.cell? ⟨g, i * 4 + 1, none⟩ = some (.string (txt (ws[i]).2.1)) ∧ w.cell? ⟨g, i * 4 + 2, none⟩ = some (.int .i64 (ws[i]).2.2.1) ∧ w.cell? ⟨g, i * 4 + 3, none⟩ = some (.int .i64 (ws[i]).2.2.2) := by
  have hc := fun g => World.ownsRow.cells h (g := g)
  rcases h.2 with ⟨h1, h2⟩ | ⟨g, cap, cur, rfl, hb, hg, h3, h4, _⟩
  · exact ⟨none, 0, by rw [h1, h2], by omega, by simp [maxLen], fun i hi => by omega⟩
  · refine ⟨_, _, rfl, h3, h4, fun i hi => ⟨g, rfl, (Array.getElem?_eq_some_iff.1 hg).1, ?_⟩⟩
    obtain ⟨e0, e1, e2, e3⟩ := celsW_at ws i hi
    have c0 := hc g rfl _ _ e0
    have c1 := hc g rfl _ _ e1
    have c2 := hc g rfl _ _ e2
    have c3 := hc g rfl _ _ e3
    rw [addr_plain] at c0 c1 c2 c3
    exact ⟨c0, c1, c2, c3⟩
set_option maxRecDepth 100000 in
set_option maxHeartbeats 4000000 in
theorem pTake_any {w : World} {v : Value} {ws : List Wd} (hw : OwnW w 0 43 v ws) (h1 : ∀ x ∈ ws, OneW x.1 x.2.1) (hl : ws.length ≤ 3000) :
    Calls Tryd.prog 12 #[v] w fun e w' => e = .returned (.tuple #[exX (takeC (ws.map tkW)).1, .int .i64 ((takeC (ws.map tkW)).2.1 : Int), .int .i64 (takeC (ws.map tkW)).2.2]) ∧ Below w.heap.size w w' := by
  obtain ⟨ht1, ht2⟩ := take_out h1
  rw [ht1]
  obtain ⟨OUT, hO⟩ : ∃ OUT, rnY (leafY (valB 0) rsvB) (ws.map tkW) ⟨[], [], 0, false⟩ 0 = OUT := ⟨_, rfl⟩
  rw [hO] at ht2 ⊢
  have hO0 : Hid (rnY (leafY (valB 0) rsvB) (ws.map tkW) ⟨[], [], 0, false⟩ 0 = OUT) := hO
  have HT : Hid (∀ x n, OUT = (some x, n) → Fine x ∧ cntX x ≤ n) := ht2
  obtain ⟨a, cap, rfl, q1, q2, hrd⟩ := ownW_rd hw
  have HR : Hid (∀ (i : Nat) (hi : i < ws.length), ∃ g, a = some ⟨g, 0, none⟩ ∧ g < w.heap.size ∧ w.cell? ⟨g, i * 4, none⟩ = some (.int .i64 ((ws[i]).1 : Int)) ∧ w.cell? ⟨g, i * 4 + 1, none⟩ = some (.string (txt (ws[i]).2.1)) ∧ w.cell? ⟨g, i * 4 + 2, none⟩ = some (.int .i64 (ws[i]).2.2.1) ∧ w.cell? ⟨g, i * 4 + 3, none⟩ = some (.int .i64 (ws[i]).2.2.2)) := hrd
  have H1 : Hid (∀ x ∈ ws, OneW x.1 x.2.1) := h1
  clear hrd h1 ht1 ht2 hO hw
  have hs := rdr_start w
  have hb0 : Below w.heap.size w (w.alloc (.cells #[.slice none 0 0, .slice none 0 0, .int .i64 0, .bool false] 68)) := (Below.refl _ _).alloc (Nat.le_refl _) _
  go_enter Tryd.func12, Tryd.ntmps12
  go_wp2
  go_loopw [6] (fun v wr => ∃ (n : Nat) (y : Yd) (vv ww : Value), v = .int .i64 (n : Int) ∧ n ≤ ws.length ∧ Rdr wr w.heap.size y vv ww ∧ InvY y n ∧ Hid (rnY (leafY (valB 0) rsvB) (ws.map tkW) y n = OUT) ∧ Below w.heap.size w wr) (fun v _ => ws.length - (RowKit.intOf v).toNat)
  case atStart => exact ⟨0, _, _, _, rfl, Nat.zero_le _, hs, inv_start, hO0, hb0⟩
  case round =>
    obtain ⟨n, y, vv, ww, rfl, hn, hr, hi, ho, hb⟩ := hrel
    have i2 : (0 : Int) ≤ (n : Int) := by omega
    clear hs hb0 hO0
    by_cases hlt : n < ws.length
    · have i1 : (n : Int) < (ws.length : Int) := by omega
      obtain ⟨g, rfl, hg, c0, c1, c2, c3⟩ := HR.out n hlt
      have h1n := H1.out ws[n] (List.getElem_mem hlt)
      have hget : (ws.map tkW)[n]? = some (tkW ws[n]) := by rw [List.getElem?_map, List.getElem?_eq_getElem hlt]; rfl
      have d0 := (hb.cell (p := ⟨g, n * 4, none⟩) hg).trans c0
      have d1 := (hb.cell (p := ⟨g, n * 4 + 1, none⟩) hg).trans c1
      have d2 := (hb.cell (p := ⟨g, n * 4 + 2, none⟩) hg).trans c2
      have d3 := (hb.cell (p := ⟨g, n * 4 + 3, none⟩) hg).trans c3
      obtain ⟨⟨K, seg, ln, co⟩, hx⟩ : ∃ x, ws[n] = x := ⟨_, rfl⟩
      rw [hx] at h1n hget d0 d1 d2 d3
      simp only [tkW] at h1n hget d0 d1 d2 d3
      have hT := takes_any hr hi (by omega) h1n ln co
      have hstep := ho.out
      rw [rnY_some hget] at hstep
      have hinv := inv_step (leaf := leafY (valB 0) rsvB) hi (K, byt seg)
      obtain ⟨r, hrr⟩ : ∃ r, stp (leafY (valB 0) rsvB) y (K, byt seg) = r := ⟨_, rfl⟩
      simp only [hrr] at hT hstep hinv
      obtain ⟨y1, b1⟩ := r
      obtain ⟨tx, htx⟩ : ∃ tx, txt seg = tx := ⟨_, rfl⟩
      unfold wdV at hT
      rw [htx] at hT d1
      clear c0 c1 c2 c3 hx hrr htx hr hi ho h1n hget
      simp only at hT hstep hinv
      cases b1 with
      | true =>
        rw [if_pos rfl] at hstep
        have hN : Hid (rnY (leafY (valB 0) rsvB) (ws.map tkW) y1 (n + 1) = OUT) := hstep
        go_wp2_with (first
          | (go_at_call 18; refine hT.mono ?_; rintro e w1 ⟨rfl, ⟨vv1, ww1, hr1⟩, b1⟩))
        go_roundw
        case rel => exact ⟨n + 1, y1, vv1, ww1, by go_num, hlt, hr1, hinv, hN, hb.trans b1⟩
        case measure => simp [RowKit.intOf]; omega
      | false =>
        rw [if_neg Bool.false_ne_true] at hstep
        have hS : Hid (stopY y1 n = OUT) := hstep
        obtain ⟨V, W, o, b⟩ := y1
        have hQ := hS.out
        have hbk := brk_le W
        have hio := hinv.o
        have hiw := hinv.w
        simp only at hio hiw
        unfold stopY at hQ
        simp only at hQ
        have hFm := fun (x : Sx) (hx : Fine x ∧ cntX x ≤ n) w1 => formedP x.1 x.2 w1 hx.1.cl (by have := hx.2; show cnt x.1 x.2 ≤ 100000; unfold cntX at this; omega) hx.1.sh
        by_cases hq : b = true ∧ o = 0
        · rw [if_pos hq] at hQ
          obtain ⟨rfl, rfl⟩ := hq
          have hiv : V.length = bins W + 1 := hinv.v
          obtain ⟨x, hx⟩ := jn_all hiv hio.symm
          rw [hx] at hQ
          have hfine := HT.out x n hQ.symm
          have hFx := hFm x hfine
          have hE := fun w2 vv2 ww2 (h2 : Rdr w2 w.heap.size ⟨V, W, 0, true⟩ vv2 ww2) => end_any h2 hiv (by omega) hx
          have hMx := fun w2 vv2 ww2 (h2 : Rdr w2 w.heap.size ⟨V, W, 0, true⟩ vv2 ww2) => mayEnd_any h2 (by show (0 : Nat) ≤ 4000; omega)
          simp only [decide_true, Bool.and_true] at hMx
          have hres : ofOut OUT = if fmX x = true then (x, n, 0) else (noX, 0, 13) := by rw [← hQ]; rfl
          obtain ⟨fb, hfb⟩ : ∃ fb, fmC x.1 x.2 = fb := ⟨_, rfl⟩
          have hfb' : fmX x = fb := hfb
          rw [hfb'] at hres
          simp only [hfb] at hFx
          have hFx : ∀ w1, Calls Tryd.prog 21 #[exX x] w1 fun r w' => r = .returned (.bool fb) ∧ Below w1.heap.size w1 w' := hFx
          have hxf := exX_form x
          obtain ⟨xv, hxv⟩ : ∃ xv, exX x = xv := ⟨_, rfl⟩
          rw [hxv] at hxf
          simp only [hxv] at hFx hE
          clear hfb hfb' hfine hFm hQ hx hiv hio hiw hbk
          cases fb with
          | true =>
            rw [if_pos rfl] at hres
            have HX : Hid (exX x = xv) := hxv
            have HRS : Hid (ofOut OUT = (x, n, 0)) := hres
            clear hres hxv
            go_wp2_with (first
              | (go_at_call 18; refine hT.mono ?_; rintro e w1 ⟨rfl, ⟨vv1, ww1, hr1⟩, b1⟩)
              | (go_at_call 19; refine (hMx _ _ _ hr1).mono ?_; rintro e w2 ⟨rfl, b2⟩; have hr2 := hr1.on b2; have hb2 := (hb.trans b1).trans (b2.mono (hb.trans b1).size))
              | (go_at_call 20; refine (hE _ _ _ hr2).mono ?_; rintro e w3 ⟨rfl, b3⟩; have hb3 := hb2.trans b3)
              | (go_at_call 21; refine (hFx _).mono ?_; rintro e w4 ⟨rfl, b4⟩; have hb4 := hb3.trans (b4.mono hb3.size)))
            go_ret3
            refine ⟨?_, hb4⟩
            rw [HRS.out]
            show _ = Ending.returned (.tuple #[exX x, .int .i64 (n : Int), .int .i64 0])
            rw [HX.out]; rfl
          | false =>
            rw [if_neg Bool.false_ne_true] at hres
            have HRS : Hid (ofOut OUT = (noX, 0, 13)) := hres
            clear hres hxv
            go_wp2_with (first
              | (go_at_call 18; refine hT.mono ?_; rintro e w1 ⟨rfl, ⟨vv1, ww1, hr1⟩, b1⟩)
              | (go_at_call 19; refine (hMx _ _ _ hr1).mono ?_; rintro e w2 ⟨rfl, b2⟩; have hr2 := hr1.on b2; have hb2 := (hb.trans b1).trans (b2.mono (hb.trans b1).size))
              | (go_at_call 20; refine (hE _ _ _ hr2).mono ?_; rintro e w3 ⟨rfl, b3⟩; have hb3 := hb2.trans b3)
              | (go_at_call 21; refine (hFx _).mono ?_; rintro e w4 ⟨rfl, b4⟩; have hb4 := hb3.trans (b4.mono hb3.size)))
            go_ret3
            exact ⟨by rw [HRS.out]; rfl, hb4⟩
        · rw [if_neg hq] at hQ
          have hbo : (b && decide (o = 0)) = false := by
            cases b with
            | false => rfl
            | true => exact decide_eq_false (fun e => hq ⟨rfl, e⟩)
          have hMx := fun w2 vv2 ww2 (h2 : Rdr w2 w.heap.size ⟨V, W, o, b⟩ vv2 ww2) => mayEnd_any h2 (by show o ≤ 4000; omega)
          simp only [hbo] at hMx
          have HRS : Hid (ofOut OUT = (noX, n, 12)) := by show _ = _; rw [← hQ]; rfl
          clear hbo hq hFm hQ hio hiw hbk
          go_wp2_with (first
            | (go_at_call 18; refine hT.mono ?_; rintro e w1 ⟨rfl, ⟨vv1, ww1, hr1⟩, b1⟩)
            | (go_at_call 19; refine (hMx _ _ _ hr1).mono ?_; rintro e w2 ⟨rfl, b2⟩; have hb2 := (hb.trans b1).trans (b2.mono (hb.trans b1).size)))
          go_ret3
          exact ⟨by rw [HRS.out]; rfl, hb2⟩
    · have i1 : ¬ (n : Int) < (ws.length : Int) := by omega
      have hstep := ho.out
      rw [rnY_none (by rw [List.getElem?_eq_none_iff, List.length_map]; omega)] at hstep
      have hS : Hid (stopY y n = OUT) := hstep
      clear ho hstep
      obtain ⟨V, W, o, b⟩ := y
      have hQ := hS.out
      have hbk := brk_le W
      have hio := hi.o
      have hiw := hi.w
      simp only at hio hiw
      unfold stopY at hQ
      simp only at hQ
      have hFm := fun (x : Sx) (hx : Fine x ∧ cntX x ≤ n) w1 => formedP x.1 x.2 w1 hx.1.cl (by have := hx.2; show cnt x.1 x.2 ≤ 100000; unfold cntX at this; omega) hx.1.sh
      by_cases hq : b = true ∧ o = 0
      · rw [if_pos hq] at hQ
        obtain ⟨rfl, rfl⟩ := hq
        have hiv : V.length = bins W + 1 := hi.v
        obtain ⟨x, hx⟩ := jn_all hiv hio.symm
        rw [hx] at hQ
        have hfine := HT.out x n hQ.symm
        have hFx := hFm x hfine
        have hE := fun w2 vv2 ww2 (h2 : Rdr w2 w.heap.size ⟨V, W, 0, true⟩ vv2 ww2) => end_any h2 hiv (by omega) hx
        have hMx := fun w2 vv2 ww2 (h2 : Rdr w2 w.heap.size ⟨V, W, 0, true⟩ vv2 ww2) => mayEnd_any h2 (by show (0 : Nat) ≤ 4000; omega)
        simp only [decide_true, Bool.and_true] at hMx
        have hres : ofOut OUT = if fmX x = true then (x, n, 0) else (noX, 0, 13) := by rw [← hQ]; rfl
        obtain ⟨fb, hfb⟩ : ∃ fb, fmC x.1 x.2 = fb := ⟨_, rfl⟩
        have hfb' : fmX x = fb := hfb
        rw [hfb'] at hres
        simp only [hfb] at hFx
        have hFx : ∀ w1, Calls Tryd.prog 21 #[exX x] w1 fun r w' => r = .returned (.bool fb) ∧ Below w1.heap.size w1 w' := hFx
        have hxf := exX_form x
        obtain ⟨xv, hxv⟩ : ∃ xv, exX x = xv := ⟨_, rfl⟩
        rw [hxv] at hxf
        simp only [hxv] at hFx hE
        clear hfb hfb' hfine hFm hQ hx hiv hio hiw hbk
        cases fb with
        | true =>
          rw [if_pos rfl] at hres
          have HX : Hid (exX x = xv) := hxv
          have HRS : Hid (ofOut OUT = (x, n, 0)) := hres
          clear hres hxv
          go_wp2_with (first
            | (go_at_call 19; refine (hMx _ _ _ hr).mono ?_; rintro e w2 ⟨rfl, b2⟩; have hr2 := hr.on b2; have hb2 := hb.trans (b2.mono hb.size))
            | (go_at_call 20; refine (hE _ _ _ hr2).mono ?_; rintro e w3 ⟨rfl, b3⟩; have hb3 := hb2.trans b3)
            | (go_at_call 21; refine (hFx _).mono ?_; rintro e w4 ⟨rfl, b4⟩; have hb4 := hb3.trans (b4.mono hb3.size)))
          go_ret3
          refine ⟨?_, hb4⟩
          rw [HRS.out]
          show _ = Ending.returned (.tuple #[exX x, .int .i64 (n : Int), .int .i64 0])
          rw [HX.out]; rfl
        | false =>
          rw [if_neg Bool.false_ne_true] at hres
          have HRS : Hid (ofOut OUT = (noX, 0, 13)) := hres
          clear hres hxv
          go_wp2_with (first
            | (go_at_call 19; refine (hMx _ _ _ hr).mono ?_; rintro e w2 ⟨rfl, b2⟩; have hr2 := hr.on b2; have hb2 := hb.trans (b2.mono hb.size))
            | (go_at_call 20; refine (hE _ _ _ hr2).mono ?_; rintro e w3 ⟨rfl, b3⟩; have hb3 := hb2.trans b3)
            | (go_at_call 21; refine (hFx _).mono ?_; rintro e w4 ⟨rfl, b4⟩; have hb4 := hb3.trans (b4.mono hb3.size)))
          go_ret3
          exact ⟨by rw [HRS.out]; rfl, hb4⟩
      · rw [if_neg hq] at hQ
        have hbo : (b && decide (o = 0)) = false := by
          cases b with
          | false => rfl
          | true => exact decide_eq_false (fun e => hq ⟨rfl, e⟩)
        have hMx := fun w2 vv2 ww2 (h2 : Rdr w2 w.heap.size ⟨V, W, o, b⟩ vv2 ww2) => mayEnd_any h2 (by show o ≤ 4000; omega)
        simp only [hbo] at hMx
        have HRS : Hid (ofOut OUT = (noX, n, 12)) := by show _ = _; rw [← hQ]; rfl
        clear hbo hq hFm hQ hio hiw hbk
        go_wp2_with (first
          | (go_at_call 19; refine (hMx _ _ _ hr).mono ?_; rintro e w2 ⟨rfl, b2⟩; have hb2 := hb.trans (b2.mono hb.size)))
        go_ret3
        exact ⟨by rw [HRS.out]; rfl, hb2⟩
end Go.Proofs.YtiddccohldjjcaaDoor

/- What the program's Parse does. -/
namespace Go.Proofs.YtiddccohldjjcaaDoor
open Go.RowKit Go.Lib
set_option linter.unusedSimpArgs false
set_option linter.unusedVariables false
attribute [local go_sem ↓] Go.wp_at_zero Go.wp_at_succ

theorem ret_two {a b c d : Value} (h1 : a = c) (h2 : b = d) : Ending.returned (.tuple #[a, b]) = .returned (.tuple #[c, d]) := by rw [h1, h2]
set_option maxRecDepth 100000 in
set_option maxHeartbeats 4000000 in
theorem pParse_any (s : ByteArray) (w : World) (hs : s.size ≤ 140737488351232) :
    Calls Tryd.prog 6 #[.string s] w fun e w' => e = .returned (.tuple #[exX (parseC (bl s)).1, .int .i64 (parseC (bl s)).2]) ∧ Below w.heap.size w w' := by
  have hW := pWords_any s w hs
  obtain ⟨P, hP⟩ : ∃ P, parseC (bl s) = P := ⟨_, rfl⟩
  rw [hP]
  unfold parseC at hP
  obtain ⟨⟨ws, ⟨pl, pc⟩, er⟩, hR⟩ : ∃ r, wordsS (bl s) = r := ⟨_, rfl⟩
  have h1 := fun h => words_one (l := bl s) h
  rw [hR] at hW hP h1
  simp only at hW hP h1
  by_cases he : er ≠ 0
  · rw [if_pos he] at hP
    subst hP
    have i1 : (er != 0) = true := by simpa using he
    clear h1 hR he
    go_enter Tryd.func6, Tryd.ntmps6
    go_wp2_with (first
      | (go_at_call 15; refine hW.mono ?_; rintro e w1 ⟨u, rfl, hown, b1⟩; obtain ⟨a, cap, rfl, _⟩ := own_form hown))
    go_ret2
    exact ⟨rfl, b1.alloc b1.size _⟩
  · rw [if_neg he] at hP
    have he0 : er = 0 := by simpa using he
    subst he0
    obtain ⟨h2, h3⟩ := h1 rfl
    have hT := fun w1 v (ho : OwnW w1 0 43 v ws) => pTake_any ho h2 h3
    obtain ⟨⟨x, n, f⟩, hX⟩ : ∃ r, takeC (ws.map tkW) = r := ⟨_, rfl⟩
    rw [hX] at hP
    simp only [hX] at hT hP
    clear h1 he hR h2 hX
    have hxf := exX_form x
    by_cases hf : f ≠ 0
    · rw [if_pos hf] at hP
      subst hP
      have i1 : (f != 0) = true := by simpa using hf
      obtain ⟨xv, hxv⟩ : ∃ xv, exX x = xv := ⟨_, rfl⟩
      simp only [hxv] at hT hxf
      clear hf hxv
      rcases hxf with rfl | ⟨xu, xy, rfl⟩
      all_goals (
        go_enter Tryd.func6, Tryd.ntmps6
        go_wp2_with (first
          | (go_at_call 15; refine hW.mono ?_; rintro e w1 ⟨u, rfl, hown, b1⟩; obtain ⟨a, cap, rfl, _⟩ := own_form hown; have hb1 := b1.alloc b1.size (.cells #[.int .i64 pl, .int .i64 pc] 38); have hT1 := hT _ _ ((hown.base (Nat.zero_le _)).below ((Below.refl w1.heap.size w1).alloc (Nat.le_refl _) (.cells #[.int .i64 pl, .int .i64 pc] 38)) (Nat.le_refl _)))
          | (go_at_call 12; refine hT1.mono ?_; rintro e w2 ⟨rfl, b2⟩; have hb2 := hb1.trans (b2.mono hb1.size)))
        go_ret2
        exact ⟨rfl, hb2⟩)
    · rw [if_neg hf] at hP
      have hf0 : f = 0 := by simpa using hf
      subst hf0
      by_cases hn : n < ws.length
      · rw [if_pos hn] at hP
        subst hP
        have i1 : (n : Int) < (ws.length : Int) := by omega
        obtain ⟨xv, hxv⟩ : ∃ xv, exX x = xv := ⟨_, rfl⟩
        simp only [hxv] at hT hxf
        clear hf hxv
        rcases hxf with rfl | ⟨xu, xy, rfl⟩
        all_goals (
          go_enter Tryd.func6, Tryd.ntmps6
          go_wp2_with (first
            | (go_at_call 15; refine hW.mono ?_; rintro e w1 ⟨u, rfl, hown, b1⟩; obtain ⟨a, cap, rfl, _⟩ := own_form hown; have hb1 := b1.alloc b1.size (.cells #[.int .i64 pl, .int .i64 pc] 38); have hT1 := hT _ _ ((hown.base (Nat.zero_le _)).below ((Below.refl w1.heap.size w1).alloc (Nat.le_refl _) (.cells #[.int .i64 pl, .int .i64 pc] 38)) (Nat.le_refl _)))
            | (go_at_call 12; refine hT1.mono ?_; rintro e w2 ⟨rfl, b2⟩; have hb2 := hb1.trans (b2.mono hb1.size)))
          go_ret2
          exact ⟨rfl, hb2⟩)
      · rw [if_neg hn] at hP
        subst hP
        have i1 : ¬ (n : Int) < (ws.length : Int) := by omega
        simp only
        obtain ⟨xv, hxv⟩ : ∃ xv, exX x = xv := ⟨_, rfl⟩
        simp only [hxv] at hT hxf ⊢
        clear hf hxv hn
        rcases hxf with rfl | ⟨xu, xy, rfl⟩
        all_goals (
          go_enter Tryd.func6, Tryd.ntmps6
          go_wp2_with (first
            | (go_at_call 15; refine hW.mono ?_; rintro e w1 ⟨u, rfl, hown, b1⟩; obtain ⟨a, cap, rfl, _⟩ := own_form hown; have hb1 := b1.alloc b1.size (.cells #[.int .i64 pl, .int .i64 pc] 38); have hT1 := hT _ _ ((hown.base (Nat.zero_le _)).below ((Below.refl w1.heap.size w1).alloc (Nat.le_refl _) (.cells #[.int .i64 pl, .int .i64 pc] 38)) (Nat.le_refl _)))
            | (go_at_call 12; refine hT1.mono ?_; rintro e w2 ⟨rfl, b2⟩; have hb2 := hb1.trans (b2.mono hb1.size)))
          go_ret2
          exact ⟨rfl, hb2⟩)
end Go.Proofs.YtiddccohldjjcaaDoor

/- What an expression is by itself, its parts in new memory. -/
namespace Go.Proofs.YtiddccohldjjcaaDoor
open Go.RowKit Go.Lib
set_option linter.unusedSimpArgs false
set_option linter.unusedVariables false
attribute [local go_sem ↓] Go.wp_at_zero Go.wp_at_succ
attribute [local go_sem] as_lit_lit as_ref_lit as_ref_ref as_not_lit as_not_ref as_not_not as_neg_lit as_neg_ref as_neg_not as_neg_neg as_bin_lit as_bin_ref as_bin_not as_bin_neg as_bin_bin

/-- The slice v holds the values l, in a block from lo on. -/
def KidsN (lo : Nat) (w : World) (v : Value) (l : List Value) : Prop := Kids w v l ∧ ∀ g, v.ownBlock = some g → lo ≤ g
theorem kidsN0 (lo : Nat) (w : World) : KidsN lo w (.slice none 0 0) [] := ⟨kids0 w, fun g hg => by cases hg⟩
theorem kidsN1 {lo : Nat} {w : World} {g : Nat} {x : Value} (hl : lo ≤ g) (h : w.cell? ⟨g, 0, none⟩ = some x) : KidsN lo w (.slice (some ⟨g, 0, none⟩) 1 1) [x] := ⟨kids1 h, fun g' hg => by simp [Value.ownBlock] at hg; omega⟩
theorem kidsN2 {lo : Nat} {w : World} {g : Nat} {x y : Value} (hl : lo ≤ g) (h : w.cell? ⟨g, 0, none⟩ = some x) (h' : w.cell? ⟨g, 1, none⟩ = some y) : KidsN lo w (.slice (some ⟨g, 0, none⟩) 2 2) [x, y] := ⟨kids2 h h', fun g' hg => by simp [Value.ownBlock] at hg; omega⟩
theorem topN_nil (w : World) : Calls Tryd.prog 24 #[.nilIface] w fun e w' => ∃ sl, e = .returned (topV 0 0 ⟨#[]⟩ sl) ∧ KidsN w.heap.size w' sl [] ∧ Below w.heap.size w w' := by
  go_enter Tryd.func24, Tryd.ntmps24
  go_wp2
  refine bodyPost_ret (v := topV 0 0 ⟨#[]⟩ (.slice none 0 0)) (by simp [results, Tryd.results24, go_sem]) rfl ⟨_, rfl, kidsN0 _ _, ?_⟩
  · (repeat (refine Below.alloc ?_ (by simp <;> omega) _)); exact Below.refl _ _

theorem topN_lit (n : Int) (w : World) : Calls Tryd.prog 24 #[.iface 51 (.agg #[.int .i64 n])] w fun e w' => ∃ sl, e = .returned (topV 1 n ⟨#[]⟩ sl) ∧ KidsN w.heap.size w' sl [] ∧ Below w.heap.size w w' := by
  go_enter Tryd.func24, Tryd.ntmps24
  go_wp2
  refine bodyPost_ret (v := topV 1 n ⟨#[]⟩ (.slice none 0 0)) (by simp [results, Tryd.results24, go_sem]) rfl ⟨_, rfl, kidsN0 _ _, ?_⟩
  · (repeat (refine Below.alloc ?_ (by simp <;> omega) _)); exact Below.refl _ _

theorem topN_ref (s : ByteArray) (w : World) : Calls Tryd.prog 24 #[.iface 57 (.agg #[.string s])] w fun e w' => ∃ sl, e = .returned (topV 2 0 s sl) ∧ KidsN w.heap.size w' sl [] ∧ Below w.heap.size w w' := by
  go_enter Tryd.func24, Tryd.ntmps24
  go_wp2
  refine bodyPost_ret (v := topV 2 0 s (.slice none 0 0)) (by simp [results, Tryd.results24, go_sem]) rfl ⟨_, rfl, kidsN0 _ _, ?_⟩
  · (repeat (refine Below.alloc ?_ (by simp <;> omega) _)); exact Below.refl _ _

theorem topN_not (x : Value) (hx : Ifc x) (w : World) : Calls Tryd.prog 24 #[.iface 59 (.agg #[x])] w fun e w' => ∃ sl, e = .returned (topV 3 0 ⟨#[]⟩ sl) ∧ KidsN w.heap.size w' sl [x] ∧ Below w.heap.size w w' := by
  rcases hx with rfl | ⟨u, y, rfl⟩
  · go_enter Tryd.func24, Tryd.ntmps24
    go_wp2
    refine bodyPost_ret (v := topV 3 0 ⟨#[]⟩ (.slice (some ⟨w.heap.size + 4, 0, none⟩) 1 1)) (by simp [results, Tryd.results24, go_sem]) rfl ⟨_, rfl, kidsN1 ?_ ?_, ?_⟩
    · simp
    · exact cell1_new _ _ _ _ (by simp)
    · (repeat (refine Below.alloc ?_ (by simp <;> omega) _)); exact Below.refl _ _
  · go_enter Tryd.func24, Tryd.ntmps24
    go_wp2
    refine bodyPost_ret (v := topV 3 0 ⟨#[]⟩ (.slice (some ⟨w.heap.size + 4, 0, none⟩) 1 1)) (by simp [results, Tryd.results24, go_sem]) rfl ⟨_, rfl, kidsN1 ?_ ?_, ?_⟩
    · simp
    · exact cell1_new _ _ _ _ (by simp)
    · (repeat (refine Below.alloc ?_ (by simp <;> omega) _)); exact Below.refl _ _

theorem topN_neg (x : Value) (hx : Ifc x) (w : World) : Calls Tryd.prog 24 #[.iface 60 (.agg #[x])] w fun e w' => ∃ sl, e = .returned (topV 4 0 ⟨#[]⟩ sl) ∧ KidsN w.heap.size w' sl [x] ∧ Below w.heap.size w w' := by
  rcases hx with rfl | ⟨u, y, rfl⟩
  · go_enter Tryd.func24, Tryd.ntmps24
    go_wp2
    refine bodyPost_ret (v := topV 4 0 ⟨#[]⟩ (.slice (some ⟨w.heap.size + 5, 0, none⟩) 1 1)) (by simp [results, Tryd.results24, go_sem]) rfl ⟨_, rfl, kidsN1 ?_ ?_, ?_⟩
    · simp
    · exact cell1_new _ _ _ _ (by simp)
    · (repeat (refine Below.alloc ?_ (by simp <;> omega) _)); exact Below.refl _ _
  · go_enter Tryd.func24, Tryd.ntmps24
    go_wp2
    refine bodyPost_ret (v := topV 4 0 ⟨#[]⟩ (.slice (some ⟨w.heap.size + 5, 0, none⟩) 1 1)) (by simp [results, Tryd.results24, go_sem]) rfl ⟨_, rfl, kidsN1 ?_ ?_, ?_⟩
    · simp
    · exact cell1_new _ _ _ _ (by simp)
    · (repeat (refine Below.alloc ?_ (by simp <;> omega) _)); exact Below.refl _ _

theorem topN_bin (s : ByteArray) (x x' : Value) (hx : Ifc x) (hx' : Ifc x') (w : World) : Calls Tryd.prog 24 #[.iface 53 (.agg #[.string s, x, x'])] w fun e w' => ∃ sl, e = .returned (topV 5 0 s sl) ∧ KidsN w.heap.size w' sl [x, x'] ∧ Below w.heap.size w w' := by
  rcases hx with rfl | ⟨u, y, rfl⟩ <;> rcases hx' with rfl | ⟨u', y', rfl⟩
  · go_enter Tryd.func24, Tryd.ntmps24
    go_wp2
    refine bodyPost_ret (v := topV 5 0 s (.slice (some ⟨w.heap.size + 6, 0, none⟩) 2 2)) (by simp [results, Tryd.results24, go_sem]) rfl ⟨_, rfl, kidsN2 ?_ ?_ ?_, ?_⟩
    · simp
    · exact (cell2_new _ _ _ _ _ (by simp)).1
    · exact (cell2_new _ _ _ _ _ (by simp)).2
    · (repeat (refine Below.alloc ?_ (by simp <;> omega) _)); exact Below.refl _ _
  · go_enter Tryd.func24, Tryd.ntmps24
    go_wp2
    refine bodyPost_ret (v := topV 5 0 s (.slice (some ⟨w.heap.size + 6, 0, none⟩) 2 2)) (by simp [results, Tryd.results24, go_sem]) rfl ⟨_, rfl, kidsN2 ?_ ?_ ?_, ?_⟩
    · simp
    · exact (cell2_new _ _ _ _ _ (by simp)).1
    · exact (cell2_new _ _ _ _ _ (by simp)).2
    · (repeat (refine Below.alloc ?_ (by simp <;> omega) _)); exact Below.refl _ _
  · go_enter Tryd.func24, Tryd.ntmps24
    go_wp2
    refine bodyPost_ret (v := topV 5 0 s (.slice (some ⟨w.heap.size + 6, 0, none⟩) 2 2)) (by simp [results, Tryd.results24, go_sem]) rfl ⟨_, rfl, kidsN2 ?_ ?_ ?_, ?_⟩
    · simp
    · exact (cell2_new _ _ _ _ _ (by simp)).1
    · exact (cell2_new _ _ _ _ _ (by simp)).2
    · (repeat (refine Below.alloc ?_ (by simp <;> omega) _)); exact Below.refl _ _
  · go_enter Tryd.func24, Tryd.ntmps24
    go_wp2
    refine bodyPost_ret (v := topV 5 0 s (.slice (some ⟨w.heap.size + 6, 0, none⟩) 2 2)) (by simp [results, Tryd.results24, go_sem]) rfl ⟨_, rfl, kidsN2 ?_ ?_ ?_, ?_⟩
    · simp
    · exact (cell2_new _ _ _ _ _ (by simp)).1
    · exact (cell2_new _ _ _ _ _ (by simp)).2
    · (repeat (refine Below.alloc ?_ (by simp <;> omega) _)); exact Below.refl _ _


theorem topN_any {d : Nat} {t : T (d + 1)} (hc : Cl (d + 1) t) : ∃ k n s ps, t = mkT k n s ps ∧ ∀ w, Calls Tryd.prog 24 #[exV (d + 1) t] w fun e w' => ∃ sl, e = .returned (.agg #[.int .i64 k, .int .i64 n, .string s, sl]) ∧ KidsN w.heap.size w' sl (ps.map (exV d)) ∧ Below w.heap.size w w' := by
  rcases hc.cases with ⟨n, rfl⟩ | ⟨s, rfl⟩ | ⟨k, p, hk, rfl, hp⟩ | ⟨s, p, q, rfl, hp, hq⟩ | rfl
  · exact ⟨1, n, _, [], rfl, fun w => topN_lit n w⟩
  · exact ⟨2, 0, s, [], rfl, fun w => topN_ref s w⟩
  · rcases hk with rfl | rfl
    · exact ⟨3, 0, _, [p], rfl, fun w => topN_not (exV d p) (ifc_ex p) w⟩
    · exact ⟨4, 0, _, [p], rfl, fun w => topN_neg (exV d p) (ifc_ex p) w⟩
  · exact ⟨5, 0, s, [p, q], rfl, fun w => topN_bin s (exV d p) (exV d q) (ifc_ex p) (ifc_ex q) w⟩
  · exact ⟨0, 0, _, [], rfl, fun w => topN_nil w⟩
end Go.Proofs.YtiddccohldjjcaaDoor

/- What the program's Same does: what its rounds lean on. -/
namespace Go.Proofs.YtiddccohldjjcaaDoor
open Go.RowKit Go.Lib
set_option linter.unusedSimpArgs false
set_option linter.unusedVariables false
attribute [local go_sem ↓] Go.wp_at_zero Go.wp_at_succ

def alk (k n : Int) (s : ByteArray) (k' n' : Int) (s' : ByteArray) : Bool := decide (k = k') && decide (n = n') && decide (s = s')
set_option maxRecDepth 100000 in
set_option maxHeartbeats 4000000 in
theorem alike_any (k n : Int) (s : ByteArray) (a : Option Addr) (m : Nat) (k' n' : Int) (s' : ByteArray) (a' : Option Addr) (m' : Nat) (hk : k ≠ 6) (w : World) :
    Calls Tryd.prog 25 #[.agg #[.int .i64 k, .int .i64 n, .string s, .slice a m m], .agg #[.int .i64 k', .int .i64 n', .string s', .slice a' m' m']] w fun e w' => e = .returned (.bool (alk k n s k' n' s')) ∧ Below w.heap.size w w' := by
  have e6 : (k == 6) = false := beq_eq_false_iff_ne.2 hk
  have n6 : (k != 6) = true := by simp [hk]
  have hb : Below w.heap.size w ((w.alloc (.cells #[.int .i64 k, .int .i64 n, .string s, .slice a m m] 78)).alloc (.cells #[.int .i64 k', .int .i64 n', .string s', .slice a' m' m'] 78)) := ((Below.refl _ _).alloc (Nat.le_refl _) _).alloc (by simp) _
  unfold alk
  by_cases h1 : k = k'
  · subst h1
    rw [decide_eq_true rfl, Bool.true_and]
    by_cases h2 : n = n'
    · subst h2
      rw [decide_eq_true rfl, Bool.true_and]
      by_cases h3 : s = s'
      · subst h3
        rw [decide_eq_true rfl]
        go_enter Tryd.func25, Tryd.ntmps25
        go_wp2
        go_ret
        exact ⟨rfl, hb⟩
      · have e3 := bytes_ne h3
        rw [decide_eq_false h3]
        clear h3
        go_enter Tryd.func25, Tryd.ntmps25
        go_wp2
        go_ret
        exact ⟨rfl, hb⟩
    · have e2 : (n == n') = false := beq_eq_false_iff_ne.2 h2
      rw [decide_eq_false h2, Bool.false_and]
      go_enter Tryd.func25, Tryd.ntmps25
      go_wp2
      go_ret
      exact ⟨rfl, hb⟩
  · have e1 : (k == k') = false := beq_eq_false_iff_ne.2 h1
    rw [decide_eq_false h1, Bool.false_and, Bool.false_and]
    go_enter Tryd.func25, Tryd.ntmps25
    go_wp2
    go_ret
    exact ⟨rfl, hb⟩

theorem B4.keep' {w w' : World} {X : Nat} {a b c e : Value} (hb : Below w.heap.size w w') (h : B4 w X a b c e) : B4 w' X a b c e := h.keep hb
theorem cell_al {w : World} {p : Addr} {v : Value} {O : Obj} (h : w.cell? p = some v) : (w.alloc O).cell? p = some v := (((Below.refl w.heap.size w).alloc (Nat.le_refl _) O).cell (World.block_lt_of_cell? w _ h)).trans h
theorem cell_pt {w : World} {X Y j : Nat} {v a b c e : Value} (h : w.cell? ⟨Y, j, none⟩ = some v) (hne : Y ≠ X) : (put4 w X a b c e).cell? ⟨Y, j, none⟩ = some v := cell_far4 (by omega) (cell_far4 (by omega) (cell_far4 (by omega) (cell_far4 (by omega) h)))
theorem sz1 (w : World) (o : Obj) : w.heap.size + 1 = (w.alloc o).heap.size := by simp
theorem z4_al {w : World} {X : Nat} (h : B4 w X (.int .i64 0) (.int .i64 0) (.string ⟨#[]⟩) (.slice none 0 0)) (O : Obj) : (w.alloc O).cell? ⟨X, 0, none⟩ = some (.int .i64 0) ∧ (w.alloc O).cell? ⟨X, 1, none⟩ = some (.int .i64 0) ∧ (w.alloc O).cell? ⟨X, 2, none⟩ = some (.string ⟨#[]⟩) ∧ (w.alloc O).cell? ⟨X, 3, none⟩ = some (.slice none 0 0) ∧
    (w.alloc O).frozen? ⟨X, 0, none⟩ = false ∧ (w.alloc O).frozen? ⟨X, 1, none⟩ = false ∧ (w.alloc O).frozen? ⟨X, 2, none⟩ = false ∧ (w.alloc O).frozen? ⟨X, 3, none⟩ = false := by
  have k := h.keep ((Below.refl _ _).alloc (Nat.le_refl _) O)
  exact ⟨k.c0, k.c1, k.c2, k.c3, k.f0, k.f1, k.f2, k.f3⟩
def samS (x y : Sg) : Bool := samC x.1 y.1 x.2 y.2
def oneB (u v : Value) : Prop := ∀ g, u.ownBlock = some g → v.ownBlock = some g → False
abbrev z4 (w : World) (X : Nat) : Prop := B4 w X (.int .i64 0) (.int .i64 0) (.string ⟨#[]⟩) (.slice none 0 0)

theorem cell_dr {w : World} {p : Addr} {v : Value} (h : w.cell? p = some v) : w.drew.cell? p = some v := h
theorem ne_pt {X Y i j : Nat} (h : Y ≠ X) : ¬ (X = Y ∧ i = j) := fun e => h e.1.symm
abbrev O0 : Obj := .cells #[.int .i64 0, .int .i64 0, .string ⟨#[]⟩, .slice none 0 0] 78
theorem bw0 {w w1 : World} (b : Below w.drew.heap.size w.drew w1) : Below w.heap.size w w1 := ((Below.refl _ w).drew).trans b
theorem bw1 {w w1 : World} (b : Below (w.alloc (.cells #[.int .i64 0, .int .i64 0, .string ⟨#[]⟩, .slice none 0 0] 78)).drew.heap.size (w.alloc (.cells #[.int .i64 0, .int .i64 0, .string ⟨#[]⟩, .slice none 0 0] 78)).drew w1) : Below w.heap.size w w1 := (((Below.refl _ w).alloc (Nat.le_refl _) _).drew).trans (b.mono (by simp))
theorem bw2 {w w1 : World} (b : Below ((w.alloc (.cells #[.int .i64 0, .int .i64 0, .string ⟨#[]⟩, .slice none 0 0] 78)).alloc (.cells #[.int .i64 0, .int .i64 0, .string ⟨#[]⟩, .slice none 0 0] 78)).drew.heap.size ((w.alloc (.cells #[.int .i64 0, .int .i64 0, .string ⟨#[]⟩, .slice none 0 0] 78)).alloc (.cells #[.int .i64 0, .int .i64 0, .string ⟨#[]⟩, .slice none 0 0] 78)).drew w1) : Below w.heap.size w w1 := ((((Below.refl _ w).alloc (Nat.le_refl _) _).alloc (by simp) _).drew).trans (b.mono (by simp; omega))
theorem bx1 {w w1 : World} (b : Below (w.alloc (.cells #[.int .i64 0, .int .i64 0, .string ⟨#[]⟩, .slice none 0 0] 78)).heap.size (w.alloc (.cells #[.int .i64 0, .int .i64 0, .string ⟨#[]⟩, .slice none 0 0] 78)) w1) : Below w.heap.size w w1 := ((Below.refl _ w).alloc (Nat.le_refl _) _).trans (b.mono (by simp))
theorem bx2 {w w1 : World} (b : Below ((w.alloc (.cells #[.int .i64 0, .int .i64 0, .string ⟨#[]⟩, .slice none 0 0] 78)).alloc (.cells #[.int .i64 0, .int .i64 0, .string ⟨#[]⟩, .slice none 0 0] 78)).heap.size ((w.alloc (.cells #[.int .i64 0, .int .i64 0, .string ⟨#[]⟩, .slice none 0 0] 78)).alloc (.cells #[.int .i64 0, .int .i64 0, .string ⟨#[]⟩, .slice none 0 0] 78)) w1) : Below w.heap.size w w1 := (((Below.refl _ w).alloc (Nat.le_refl _) _).alloc (by simp) _).trans (b.mono (by simp; omega))
theorem zC1 {w w1 : World} (b : Below (w.alloc (.cells #[.int .i64 0, .int .i64 0, .string ⟨#[]⟩, .slice none 0 0] 78)).heap.size (w.alloc (.cells #[.int .i64 0, .int .i64 0, .string ⟨#[]⟩, .slice none 0 0] 78)) w1) : z4 w1 w.heap.size := (B4.new w _ _ _ _ _ _ rfl).keep b
theorem zC2 {w w1 : World} (b : Below ((w.alloc (.cells #[.int .i64 0, .int .i64 0, .string ⟨#[]⟩, .slice none 0 0] 78)).alloc (.cells #[.int .i64 0, .int .i64 0, .string ⟨#[]⟩, .slice none 0 0] 78)).heap.size ((w.alloc (.cells #[.int .i64 0, .int .i64 0, .string ⟨#[]⟩, .slice none 0 0] 78)).alloc (.cells #[.int .i64 0, .int .i64 0, .string ⟨#[]⟩, .slice none 0 0] 78)) w1) : z4 w1 w.heap.size := ((B4.new w _ _ _ _ 78 _ rfl).keep ((Below.refl _ _).alloc (Nat.le_refl _) _)).keep b
theorem zD2 {w w1 : World} (b : Below ((w.alloc (.cells #[.int .i64 0, .int .i64 0, .string ⟨#[]⟩, .slice none 0 0] 78)).alloc (.cells #[.int .i64 0, .int .i64 0, .string ⟨#[]⟩, .slice none 0 0] 78)).heap.size ((w.alloc (.cells #[.int .i64 0, .int .i64 0, .string ⟨#[]⟩, .slice none 0 0] 78)).alloc (.cells #[.int .i64 0, .int .i64 0, .string ⟨#[]⟩, .slice none 0 0] 78)) w1) : z4 w1 (w.heap.size + 1) := (B4.new (w.alloc (.cells #[.int .i64 0, .int .i64 0, .string ⟨#[]⟩, .slice none 0 0] 78)) _ _ _ _ _ _ (sz1 w _)).keep b
theorem zA1 {w w1 : World} (b : Below (w.alloc (.cells #[.int .i64 0, .int .i64 0, .string ⟨#[]⟩, .slice none 0 0] 78)).drew.heap.size (w.alloc (.cells #[.int .i64 0, .int .i64 0, .string ⟨#[]⟩, .slice none 0 0] 78)).drew w1) : z4 w1 w.heap.size := ((B4.new w _ _ _ _ _ _ rfl).keep ((Below.refl _ _).drew)).keep b
theorem zA2 {w w1 : World} (b : Below ((w.alloc (.cells #[.int .i64 0, .int .i64 0, .string ⟨#[]⟩, .slice none 0 0] 78)).alloc (.cells #[.int .i64 0, .int .i64 0, .string ⟨#[]⟩, .slice none 0 0] 78)).drew.heap.size ((w.alloc (.cells #[.int .i64 0, .int .i64 0, .string ⟨#[]⟩, .slice none 0 0] 78)).alloc (.cells #[.int .i64 0, .int .i64 0, .string ⟨#[]⟩, .slice none 0 0] 78)).drew w1) : z4 w1 w.heap.size := (((B4.new w _ _ _ _ 78 _ rfl).keep ((Below.refl _ _).alloc (Nat.le_refl _) _)).keep ((Below.refl _ _).drew)).keep b
theorem zB2 {w w1 : World} (b : Below ((w.alloc (.cells #[.int .i64 0, .int .i64 0, .string ⟨#[]⟩, .slice none 0 0] 78)).alloc (.cells #[.int .i64 0, .int .i64 0, .string ⟨#[]⟩, .slice none 0 0] 78)).drew.heap.size ((w.alloc (.cells #[.int .i64 0, .int .i64 0, .string ⟨#[]⟩, .slice none 0 0] 78)).alloc (.cells #[.int .i64 0, .int .i64 0, .string ⟨#[]⟩, .slice none 0 0] 78)).drew w1) : z4 w1 (w.heap.size + 1) := ((B4.new (w.alloc (.cells #[.int .i64 0, .int .i64 0, .string ⟨#[]⟩, .slice none 0 0] 78)) _ _ _ _ _ _ (sz1 w _)).keep ((Below.refl _ _).drew)).keep b

theorem Kids.put {w : World} {sl : Value} {L : List Value} {X : Nat} {a b c e : Value} (h : Kids w sl L) (hi : ∀ v ∈ L, Ifc v) (hz : z4 w X) : Kids (put4 w X a b c e) sl L := by
  rcases h with h | ⟨g, hv, hc⟩
  · exact .inl h
  · refine .inr ⟨g, hv, fun i hl => ?_⟩
    have hne : g ≠ X := fun e => by
      subst e
      have h0 := hc 0 (by omega)
      rw [hz.c0] at h0
      have h1 := Option.some.inj h0
      rcases hi _ (List.getElem_mem (by omega : 0 < L.length)) with q | ⟨u, y, q⟩
      · rw [q] at h1; cases h1
      · rw [q] at h1; cases h1
    exact cell_pt (hc i hl) hne
theorem KidsN.put {lo : Nat} {w : World} {sl : Value} {L : List Value} {X : Nat} {a b c e : Value} (h : KidsN lo w sl L) (hi : ∀ v ∈ L, Ifc v) (hz : z4 w X) : KidsN lo (put4 w X a b c e) sl L := ⟨h.1.put hi hz, h.2⟩
theorem KidsN.al {lo : Nat} {w : World} {sl : Value} {L : List Value} {O : Obj} (h : KidsN lo w sl L) : KidsN lo (w.alloc O) sl L := ⟨h.1.below ((Below.refl _ _).alloc (Nat.le_refl _) O) (Nat.le_refl _), h.2⟩
theorem B4.at {w : World} {X : Nat} {a b c e : Value} (h : B4 w X a b c e) : At4 w X a b c e := ⟨h.c0, h.c1, h.c2, h.c3⟩
/-- Both are there, in blocks of their own. -/
def Both (wr wc : World) (X Y : Nat) (a b c sl a' b' c' sl' : Value) (L M : List Value) : Prop :=
  At4 wc X a b c sl ∧ At4 wc Y a' b' c' sl' ∧ KidsN wr.heap.size wc sl L ∧ KidsN wr.heap.size wc sl' M ∧ wr.heap.size ≤ X ∧ wr.heap.size ≤ Y ∧ Below wr.heap.size wr wc
section
variable {wr w2 : World} {X Y : Nat} {a b c sl a' b' c' sl' : Value} {L M : List Value}
theorem fin_C (bv : Below wr.heap.size wr w2) (hT : (∀ v ∈ L, Ifc v) ∧ (∀ v ∈ M, Ifc v)) (K1 : KidsN wr.heap.size w2 sl L) (K2 : KidsN wr.heap.size w2 sl' M) (qX : z4 w2 X) (qY : z4 w2 Y) (hne : X ≠ Y) (hX : wr.heap.size ≤ X) (hY : wr.heap.size ≤ Y) :
    Both wr (put4 (put4 w2 X a b c sl) Y a' b' c' sl') X Y a b c sl a' b' c' sl' L M := by
  have qY' := qY.farPut hne a b c sl
  exact ⟨((qX.put a b c sl).farPut hne.symm a' b' c' sl').at, (qY'.put a' b' c' sl').at, (K1.put hT.1 qX).put hT.1 qY', (K2.put hT.2 qX).put hT.2 qY', hX, hY, below_put (below_put bv hX _ _ _ _) hY _ _ _ _⟩
theorem fin_B (bv : Below wr.heap.size wr w2) (hT : (∀ v ∈ L, Ifc v) ∧ (∀ v ∈ M, Ifc v)) (K1 : KidsN wr.heap.size w2 sl L) (K2 : KidsN wr.heap.size w2 sl' M) (qX : z4 w2 X) (hX : wr.heap.size ≤ X) :
    Both wr (put4 (put4 (w2.alloc (.cells #[.int .i64 0, .int .i64 0, .string ⟨#[]⟩, .slice none 0 0] 78)) X a b c sl) w2.heap.size a' b' c' sl') X w2.heap.size a b c sl a' b' c' sl' L M :=
  fin_C (bv.alloc bv.size _) hT K1.al K2.al (qX.keep ((Below.refl _ _).alloc (Nat.le_refl _) _)) (B4.new w2 _ _ _ _ _ _ rfl) (Nat.ne_of_lt qX.lt) hX bv.size
theorem fin_D (bv : Below wr.heap.size wr w2) (hT : (∀ v ∈ L, Ifc v) ∧ (∀ v ∈ M, Ifc v)) (K1 : KidsN wr.heap.size w2 sl L) (K2 : KidsN wr.heap.size w2 sl' M) (qY : z4 w2 Y) (hY : wr.heap.size ≤ Y) :
    Both wr (put4 (w2.alloc (.cells #[a, b, c, sl] 78)) Y a' b' c' sl') w2.heap.size Y a b c sl a' b' c' sl' L M := by
  have q := qY.keep ((Below.refl w2.heap.size w2).alloc (Nat.le_refl _) (.cells #[a, b, c, sl] 78))
  have h := B4.new w2 a b c sl 78 w2.heap.size rfl
  exact ⟨(h.farPut (Nat.ne_of_lt qY.lt) a' b' c' sl').at, (q.put a' b' c' sl').at, K1.al.put hT.1 q, K2.al.put hT.2 q, bv.size, hY, below_put (bv.alloc bv.size _) hY _ _ _ _⟩
theorem fin_A (bv : Below wr.heap.size wr w2) (K1 : KidsN wr.heap.size w2 sl L) (K2 : KidsN wr.heap.size w2 sl' M) :
    Both wr ((w2.alloc (.cells #[a, b, c, sl] 78)).alloc (.cells #[a', b', c', sl'] 78)) w2.heap.size (w2.heap.size + 1) a b c sl a' b' c' sl' L M := by
  have h := (B4.new w2 a b c sl 78 w2.heap.size rfl).keep ((Below.refl _ _).alloc (Nat.le_refl _) (.cells #[a', b', c', sl'] 78))
  have h' := B4.new (w2.alloc (.cells #[a, b, c, sl] 78)) a' b' c' sl' 78 (w2.heap.size + 1) (sz1 w2 _)
  exact ⟨h.at, h'.at, K1.al.al, K2.al.al, bv.size, Nat.le_succ_of_le bv.size, (bv.alloc bv.size _).alloc (by simp; exact Nat.le_succ_of_le bv.size) _⟩
theorem fin_E (bv : Below wr.heap.size wr w2) (K1 : KidsN wr.heap.size w2 sl L) (K2 : KidsN wr.heap.size w2 sl' M) :
    Both wr ((w2.alloc (.cells #[a', b', c', sl'] 78)).alloc (.cells #[a, b, c, sl] 78)) (w2.heap.size + 1) w2.heap.size a b c sl a' b' c' sl' L M := by
  have h := (B4.new w2 a' b' c' sl' 78 w2.heap.size rfl).keep ((Below.refl _ _).alloc (Nat.le_refl _) (.cells #[a, b, c, sl] 78))
  have h' := B4.new (w2.alloc (.cells #[a', b', c', sl'] 78)) a b c sl 78 (w2.heap.size + 1) (sz1 w2 _)
  exact ⟨h'.at, h.at, K1.al.al, K2.al.al, Nat.le_succ_of_le bv.size, bv.size, (bv.alloc bv.size _).alloc (by simp; exact Nat.le_succ_of_le bv.size) _⟩
end

theorem allz_app {α β : Type} (f : α → β → Bool) : ∀ (x : List α) (y : List β) (a : List α) (b : List β), x.length = y.length → allz f (x ++ a) (y ++ b) = (allz f x y && allz f a b)
  | [], [], a, b, _ => by simp [allz]
  | [], _ :: _, _, _, h => by simp at h
  | _ :: _, [], _, _, h => by simp at h
  | p :: x, q :: y, a, b, h => by
    show (f p q && allz f (x ++ a) (y ++ b)) = (f p q && allz f x y && allz f a b)
    rw [allz_app f x y a b (by simpa using h), Bool.and_assoc]
theorem allz_kid {d e : Nat} : ∀ (ps : List (T d)) (qs : List (T e)), allz samS (kidS ps) (kidS qs) = allz (samC d e) ps qs
  | [], _ => by simp [kidS, allz]
  | _ :: _, [] => by simp [kidS, allz]
  | p :: r, q :: t => by
    show (samC d e p q && allz samS (kidS r) (kidS t)) = _
    rw [allz_kid r t]; rfl
theorem cl_n {d : Nat} {k n : Int} {s : ByteArray} {ps : List (T d)} (h : Cl (d + 1) (mkT k n s ps)) : k ≠ 6 ∧ ps.length = if k = 3 ∨ k = 4 then 1 else if k = 5 then 2 else 0 := by
  rcases h with ⟨h1, _, h3⟩ | ⟨h1, _, h3⟩ | ⟨h1, _, _, p, h4, _⟩ | ⟨h1, _, p, q, h3, _⟩ | ⟨h1, _, _, h4⟩
  · simp only at h1 h3; subst h1 h3; simp
  · simp only at h1 h3; subst h1 h3; simp
  · simp only at h1 h4; subst h4; rcases h1 with rfl | rfl <;> simp
  · simp only at h1 h3; subst h1 h3; simp
  · simp only at h1 h4; subst h1 h4; simp
theorem sam_no {d e : Nat} {k n k' n' : Int} {s s' : ByteArray} {ps : List (T d)} {qs : List (T e)} (h : alk k n s k' n' s' = false) : samS ⟨d + 1, mkT k n s ps⟩ ⟨e + 1, mkT k' n' s' qs⟩ = false := by
  show samC (d + 1) (e + 1) (mkT k n s ps) (mkT k' n' s' qs) = false
  rw [samC_mk]
  unfold alk at h
  rw [h]; simp
theorem sam_yes {d e : Nat} {k n k' n' : Int} {s s' : ByteArray} {ps : List (T d)} {qs : List (T e)} (h : alk k n s k' n' s' = true) (hc : Cl (d + 1) (mkT k n s ps)) (hc' : Cl (e + 1) (mkT k' n' s' qs)) :
    ps.length = qs.length ∧ samS ⟨d + 1, mkT k n s ps⟩ ⟨e + 1, mkT k' n' s' qs⟩ = allz (samC d e) ps qs := by
  have hk : k = k' := by unfold alk at h; simp only [Bool.and_eq_true, decide_eq_true_eq] at h; exact h.1.1
  have hl : ps.length = qs.length := by rw [(cl_n hc).2, (cl_n hc').2, hk]
  refine ⟨hl, ?_⟩
  show samC (d + 1) (e + 1) (mkT k n s ps) (mkT k' n' s' qs) = _
  rw [samC_mk]
  unfold alk at h
  rw [h, decide_eq_true hl]; simp
theorem KidsN.gr {lo g : Nat} {w w' : World} {sl : Value} {L : List Value} (h : KidsN lo w sl L) (hg : w.grownBy w' (some g)) (hl : g < lo) : KidsN lo w' sl L := by
  refine ⟨?_, h.2⟩
  rcases h.1 with q | ⟨b, hv, hc⟩
  · exact .inl q
  · refine .inr ⟨b, hv, fun i hi => hg.cell (hc i hi) (fun e => ?_)⟩
    have := h.2 b (by rw [hv]; rfl)
    have e2 : b = g := by simpa using e
    omega
theorem KidsN.dr {lo : Nat} {w : World} {sl : Value} {L : List Value} (h : KidsN lo w sl L) : KidsN lo w.drew sl L := ⟨h.1.below ((Below.refl _ _).drew) (Nat.le_refl _), h.2⟩
/-- What lies there at the start. -/
def Start (w : World) (x y : Value) (V : Bool) : Prop := ∃ S S', Stk ((w.alloc (.cells #[x] 24)).alloc (.cells #[y] 24)) w.heap.size (.slice (some ⟨w.heap.size, 0, none⟩) 1 1) S ∧ Stk ((w.alloc (.cells #[x] 24)).alloc (.cells #[y] 24)) w.heap.size (.slice (some ⟨w.heap.size + 1, 0, none⟩) 1 1) S' ∧
  S.length = S'.length ∧ (∀ y ∈ S, ClS y) ∧ (∀ y ∈ S', ClS y) ∧ allz samS S S' = V ∧ (S.map cntS).sum ≤ 2000 ∧ (S'.map cntS).sum ≤ 2000
end Go.Proofs.YtiddccohldjjcaaDoor
