import Derived.Test.YtiddccohldjjcaaDoorWg14
import Derived.Test.YtiddccohldjjcaaDoorWg12
import Derived.Test.YtiddccohldjjcaaDoorWg13
import Derived.Deep.RegionHeldLaw

/- What the document's Take does. -/
namespace Go.Proofs.YtiddccohldjjcaaDoor
open Go.RowKit Go.Lib
set_option linter.unusedSimpArgs false
set_option linter.unusedVariables false
attribute [local go_sem ↓] Go.wp_at_zero Go.wp_at_succ

theorem addr_plainR (g i : Nat) : (⟨g, 0, none⟩ : Addr).add i = ⟨g, i, none⟩ := by unfold Addr.add; split <;> simp_all
theorem celsW_atR (ws : List Wd) (i : Nat) (h : i < ws.length) : (celsW ws)[i * 4]? = some (.int .i64 ((ws[i]).1 : Int)) ∧ (celsW ws)[i * 4 + 1]? = some (.string (txt (ws[i]).2.1)) ∧ (celsW ws)[i * 4 + 2]? = some (.int .i64 (ws[i]).2.2.1) ∧ (celsW ws)[i * 4 + 3]? = some (.int .i64 (ws[i]).2.2.2) := by
  induction ws generalizing i with
  | nil => simp at h
  | cons x t ih =>
    cases i with
    | zero => exact ⟨rfl, rfl, rfl, rfl⟩
    | succ k =>
      have hk := ih k (by simpa using h)
      have e : ∀ j, (celsW (x :: t))[(k + 1) * 4 + j]? = (celsW t)[k * 4 + j]? := fun j => by
        show (celW x ++ celsW t)[(k + 1) * 4 + j]? = _
        rw [List.getElem?_append_right (by simp [celW]; omega)]
        congr 1
        simp [celW]; omega
      exact ⟨(e 0).trans hk.1, (e 1).trans hk.2.1, (e 2).trans hk.2.2.1, (e 3).trans hk.2.2.2⟩
theorem ownW_rdR {w : World} {base e : Nat} {v : Value} {ws : List Wd} (h : OwnW w base e v ws) : ∃ a cap, v = .slice a ws.length cap ∧ ws.length ≤ cap ∧ cap ≤ maxLen ∧ ∀ X, w.heap.size ≤ X → RdL w X a ws := by
  have hc := fun g => World.ownsRow.cells h (g := g)
  rcases h.2 with ⟨h1, h2⟩ | ⟨g, cap, cur, rfl, hb, hg, h3, h4, _⟩
  · exact ⟨none, 0, by rw [h1, h2], by omega, by simp [maxLen], fun X _ i hi => by omega⟩
  · refine ⟨_, _, rfl, h3, h4, fun X hX i hi => ⟨g, rfl, by have := (Array.getElem?_eq_some_iff.1 hg).1; omega, ?_⟩⟩
    obtain ⟨e0, e1, e2, e3⟩ := celsW_atR ws i hi
    have c0 := hc g rfl _ _ e0
    have c1 := hc g rfl _ _ e1
    have c2 := hc g rfl _ _ e2
    have c3 := hc g rfl _ _ e3
    rw [addr_plainR] at c0 c1 c2 c3
    exact ⟨c0, c1, c2, c3⟩
theorem stop_snd (y : Yd) (n : Nat) : (stopY y n).2 = n := by unfold stopY; split <;> rfl
theorem runY_le (leaf : Tk → Option Sx) : ∀ (r : List Tk) (y : Yd) (n : Nat), (runY leaf y r n).2 ≤ n + r.length
  | [], y, n => by show (stopY y n).2 ≤ _; rw [stop_snd]; omega
  | w :: r, y, n => by
    unfold runY
    split
    · have := runY_le leaf r (stp leaf y w).1 (n + 1)
      rw [List.length_cons]; omega
    · rw [stop_snd]; omega
theorem place_le {ws : List Wd} (h : ∀ w ∈ ws, OneW w.1 w.2.1) (hb : (rdC (ws.map tkW)).2.2 < 0) : (rdC (ws.map tkW)).2.1 ≤ ws.length := by
  have hy := yard_psr (nb := valB 0) (rsv := rsvB) (l := ws.map tkW) (good_all h) (f := 7 * (ws.map tkW).length + 6) (by omega)
  have e : psr (valB 0) rsvB (ws.map tkW) (7 * (ws.map tkW).length + 6) 1 0 (-1) = rdC (ws.map tkW) := rfl
  rw [e, if_pos hb] at hy
  have := runY_le (leafY (valB 0) rsvB) (ws.map tkW) ⟨[], [], 0, false⟩ 0
  have h2 : rnY (leafY (valB 0) rsvB) (ws.map tkW) ⟨[], [], 0, false⟩ 0 = runY (leafY (valB 0) rsvB) ⟨[], [], 0, false⟩ (ws.map tkW) 0 := rfl
  rw [← h2, hy, List.length_map] at this
  simpa using this
theorem take_res {w4 : World} {R : Nat} {a b c e x3 x4 : Value} {tmps : Array Value} (hB : B4 w4 R a b c e) (ht : tmps.getD 2 undef = .pointer (some ⟨R, 0, none⟩)) (h3 : tmps.getD 3 undef = x3) (h4 : tmps.getD 4 undef = x4) : (results Tryd.f13 tmps).run Tryd.prog w4 = .ok (.tuple #[.agg #[a, b, c, e], x3, x4]) w4 := by
  obtain ⟨c0, c1, c2, c3, _, _, _, _⟩ := hB
  have ht' : tmps[2]?.getD undef = .pointer (some ⟨R, 0, none⟩) := by simpa using ht
  have h3' : tmps[3]?.getD undef = x3 := by simpa using h3
  have h4' : tmps[4]?.getD undef = x4 := by simpa using h4
  simp [results, Tryd.results13, go_sem, ht', h3', h4', c0, c1, c2, c3]
set_option maxRecDepth 100000 in
set_option maxHeartbeats 4000000 in
theorem rTake_any {w : World} {v : Value} {ws : List Wd} (hT : Tabs w) (hw : OwnW w 0 44 v ws) (h1 : ∀ x ∈ ws, OneW x.1 x.2.1) (hl : ws.length ≤ 3000) :
    Calls Tryd.prog 13 #[v] w fun e w' => ∃ u, e = .returned (.tuple #[u, .int .i64 ((takeC (ws.map tkW)).2.1 : Int), .int .i64 (takeC (ws.map tkW)).2.2]) ∧ RdX (fun b => w.heap.size ≤ b) w' (takeC (ws.map tkW)).1 u ∧ Below w.heap.size w w' := by
  obtain ⟨a, cap, rfl, q1, q2, hL⟩ := ownW_rdR hw
  have hB := fun X w1 (hr : Rr w1 X a cap ws 0 (-1)) => (rd_any ws (7 * (ws.map tkW).length + 6)).2 X a cap 0 1 w1 ⟨hl, q1, q2, h1⟩ (by omega) (by omega) (by rw [List.length_map]; omega) hr
  have e : psW ws (7 * (ws.map tkW).length + 6) 1 0 = rdC (ws.map tkW) := rfl
  have hf : BadOr _ 0 (rdC (ws.map tkW)) := fine_read h1 _ 1 0 (by omega) (by omega)
  have hpl := place_le h1
  unfold takeC
  simp only [e] at hB
  obtain ⟨⟨x, n1, b1⟩, hR⟩ : ∃ r, rdC (ws.map tkW) = r := ⟨_, rfl⟩
  rw [hR] at hf hpl
  simp only [hR] at hB ⊢
  have hr0 : Rr ((w.alloc zN).alloc (.cells #[.slice a ws.length cap, .int .i64 0, .int .i64 (-1)] 74)) (w.heap.size + 1) a cap ws 0 (-1) := by
    have hb2 : Below w.heap.size w ((w.alloc zN).alloc (.cells #[.slice a ws.length cap, .int .i64 0, .int .i64 (-1)] 74)) := ((Below.refl _ _).alloc (Nat.le_refl _) _).alloc (by simp) _
    have hsz : (w.alloc zN).heap.size = w.heap.size + 1 := by simp
    have hc : ∀ i (u : Value), (#[.slice a ws.length cap, .int .i64 0, .int .i64 (-1)] : Array Value)[i]? = some u → ((w.alloc zN).alloc (.cells #[.slice a ws.length cap, .int .i64 0, .int .i64 (-1)] 74)).cell? ⟨w.heap.size + 1, i, none⟩ = some u := fun i u hu => by
      rw [← hsz]
      exact (cell_of_row _ _ i _ _ (0, 0) (heap_alloc_new _ _)).trans hu
    have hfz : ∀ i, ((w.alloc zN).alloc (.cells #[.slice a ws.length cap, .int .i64 0, .int .i64 (-1)] 74)).frozen? ⟨w.heap.size + 1, i, none⟩ = false := fun i => by
      rw [← hsz]
      exact frozen_of_row _ _ i _ _ (heap_alloc_new _ _)
    refine ⟨hc 0 _ rfl, hc 1 _ rfl, hc 2 _ rfl, hfz 1, hfz 2, fun i hi => ?_⟩
    obtain ⟨g, h1, h2, c0, c1, c2, c3⟩ := hL w.heap.size (Nat.le_refl _) i hi
    exact ⟨g, h1, by omega, (hb2.cell (p := ⟨g, i * 4, none⟩) h2).trans c0, (hb2.cell (p := ⟨g, i * 4 + 1, none⟩) h2).trans c1, (hb2.cell (p := ⟨g, i * 4 + 2, none⟩) h2).trans c2, (hb2.cell (p := ⟨g, i * 4 + 3, none⟩) h2).trans c3⟩
  have hB1 := hB _ _ hr0
  have hb2 : Below w.heap.size w ((w.alloc zN).alloc (.cells #[.slice a ws.length cap, .int .i64 0, .int .i64 (-1)] 74)) := ((Below.refl _ _).alloc (Nat.le_refl _) _).alloc (by simp) _
  have hs2 : ((w.alloc zN).alloc (.cells #[.slice a ws.length cap, .int .i64 0, .int .i64 (-1)] 74)).heap.size = w.heap.size + 2 := by simp
  have hR0 : B4 ((w.alloc zN).alloc (.cells #[.slice a ws.length cap, .int .i64 0, .int .i64 (-1)] 74)) w.heap.size (.int .i64 0) (.int .i64 0) (.string ⟨#[]⟩) (.slice none 0 0) := (B4.new w _ _ _ _ _ _ rfl).keep ((Below.refl _ _).alloc (Nat.le_refl _) _)
  clear e hR hw hL hB hr0 h1 q1 q2
  by_cases hb : 0 ≤ b1
  · rw [if_pos hb]
    have hbn : ((b1.toNat : Nat) : Int) = b1 := Int.toNat_of_nonneg hb
    simp only [hbn]
    go_enter Tryd.func13, Tryd.ntmps13
    go_upto_region 3 with (first
      | (go_at_call 22; refine hB1.mono ?_; rintro e w3 ⟨v, rfl, hx3, hr3, hf3⟩; obtain ⟨xk, xm, xs, xa, xl, xc, rfl⟩ := hx3.form))
    have hR3 := hR0.fx hf3 (by omega)
    have ha4 := (Below.refl w3.heap.size w3).alloc (Nat.le_refl _) (.cells #[.int .i64 xk, .int .i64 xm, .string xs, .slice xa xl xc] 30)
    have hR4 := hR3.keep ha4
    have hr4 := hr3.on ha4
    have hA4 := At4.new w3 (.int .i64 xk) (.int .i64 xm) (.string xs) (.slice xa xl xc) 30
    have hs3 := hf3.size
    rw [hs2] at hs3
    have hb4 : Below w.heap.size w (w3.alloc (.cells #[.int .i64 xk, .int .i64 xm, .string xs, .slice xa xl xc] 30)) := (hb2.trans (hf3.below (by omega) (by omega))).alloc (by omega) _
    have hX4 : RdX (fun b => w.heap.size < b) (w3.alloc (.cells #[.int .i64 xk, .int .i64 xm, .string xs, .slice xa xl xc] 30)) x (.agg #[.int .i64 xk, .int .i64 xm, .string xs, .slice xa xl xc]) := hx3.keep (fun b hb hl => ⟨by rw [hs2] at hb; omega, ha4.block b hl⟩)
    obtain ⟨XB, hXB⟩ : ∃ XB, w3.heap.size = XB := ⟨_, rfl⟩
    rw [hXB] at hA4 ⊢
    clear hR0 hb2 hs2 hx3 hr3 hf3 hR3 ha4 hB1 hs3 hXB
    generalize w3.alloc (.cells #[.int .i64 xk, .int .i64 xm, .string xs, .slice xa xl xc] 30) = w4 at *
    obtain ⟨c0, c1, c2, _, _, hL4⟩ := id hr4
    obtain ⟨r0, r1, r2, r3, r4, r5, r6, r7⟩ := id hR4
    obtain ⟨a0, a1, a2, a3⟩ := id hA4
    clear hL4
    go_wp2
    go_region
    all_goals go_wp2
    all_goals exact bodyPost_ret (take_res ((hR4.put (.int .i64 0) (.int .i64 0) (.string ⟨#[]⟩) (.slice none 0 0)).keep ((Below.refl _ _).drew)) rfl rfl rfl) rfl ⟨_, rfl, rdX_no _ _, ((below_put hb4 (Nat.le_refl _) _ _ _ _).drew)⟩
  · rw [if_neg hb]
    obtain ⟨hb1, hfine, hcnt⟩ : b1 = -1 ∧ Fine x ∧ 0 + cntX x ≤ n1 := by
      rcases hf with ⟨p1, p2⟩ | p1
      · exact ⟨p1, p2⟩
      · exact absurd p1 hb
    subst hb1
    have hn1 : n1 ≤ 100000 := by have := hpl (by show (-1 : Int) < 0; decide); simp only at this; omega
    have hFm := fun w1 (hT1 : Tabs w1) v1 (h : RdX (fun b => w.heap.size < b) w1 x v1) => formed_any hT1 h (by unfold cntX at hcnt; omega) hfine.sh
    obtain ⟨fb, hfb⟩ : ∃ fb, fmX x = fb := ⟨_, rfl⟩
    rw [hfb]
    have hFm : ∀ w1, Tabs w1 → ∀ v1, RdX (fun b => w.heap.size < b) w1 x v1 → Calls Tryd.prog 23 #[v1] w1 fun e w' => e = .returned (.bool fb) ∧ Below w1.heap.size w1 w' := fun w1 h1 v1 h2 => by rw [← hfb]; exact hFm w1 h1 v1 h2
    cases fb with
    | true =>
      rw [if_pos rfl]
      go_enter Tryd.func13, Tryd.ntmps13
      go_upto_region 3 with (first
        | (go_at_call 22; refine hB1.mono ?_; rintro e w3 ⟨v, rfl, hx3, hr3, hf3⟩; obtain ⟨xk, xm, xs, xa, xl, xc, rfl⟩ := hx3.form))
      have hR3 := hR0.fx hf3 (by omega)
      have ha4 := (Below.refl w3.heap.size w3).alloc (Nat.le_refl _) (.cells #[.int .i64 xk, .int .i64 xm, .string xs, .slice xa xl xc] 30)
      have hR4 := hR3.keep ha4
      have hr4 := hr3.on ha4
      have hA4 := At4.new w3 (.int .i64 xk) (.int .i64 xm) (.string xs) (.slice xa xl xc) 30
      have hs3 := hf3.size
      rw [hs2] at hs3
      have hb4 : Below w.heap.size w (w3.alloc (.cells #[.int .i64 xk, .int .i64 xm, .string xs, .slice xa xl xc] 30)) := (hb2.trans (hf3.below (by omega) (by omega))).alloc (by omega) _
      have hX4 : RdX (fun b => w.heap.size < b) (w3.alloc (.cells #[.int .i64 xk, .int .i64 xm, .string xs, .slice xa xl xc] 30)) x (.agg #[.int .i64 xk, .int .i64 xm, .string xs, .slice xa xl xc]) := hx3.keep (fun b hb hl => ⟨by rw [hs2] at hb; omega, ha4.block b hl⟩)
      obtain ⟨XB, hXB⟩ : ∃ XB, w3.heap.size = XB := ⟨_, rfl⟩
      rw [hXB] at hA4 ⊢
      clear hR0 hb2 hs2 hx3 hr3 hf3 hR3 ha4 hB1 hs3 hXB
      generalize w3.alloc (.cells #[.int .i64 xk, .int .i64 xm, .string xs, .slice xa xl xc] 30) = w4 at *
      obtain ⟨c0, c1, c2, _, _, hL4⟩ := id hr4
      obtain ⟨r0, r1, r2, r3, r4, r5, r6, r7⟩ := id hR4
      obtain ⟨a0, a1, a2, a3⟩ := id hA4
      clear hL4
      have hF4 := hFm w4 (hT.below hb4 (Nat.le_refl _)) _ hX4
      go_wp2_with (first
        | (go_at_call 23; refine hF4.mono ?_; rintro e w5 ⟨rfl, b5⟩))
      have hR5 := hR4.keep b5
      have hr5 := hr4.on b5
      have hA5 := hA4.keepB b5 (World.block_lt_of_cell? w4 _ hA4.1)
      have hb5 := hb4.trans (b5.mono hb4.size)
      have hX5 : RdX (fun b => w.heap.size < b) w5 x (.agg #[.int .i64 xk, .int .i64 xm, .string xs, .slice xa xl xc]) := hX4.keep (fun b hb hl => ⟨hb, b5.block b hl⟩)
      clear c0 c1 c2 r0 r1 r2 r3 r4 r5 r6 r7 a0 a1 a2 a3 hF4 hFm hR4 hr4 hA4 hb4 hX4 b5
      obtain ⟨c0, c1, c2, _, _, hL4⟩ := id hr5
      obtain ⟨r0, r1, r2, r3, r4, r5, r6, r7⟩ := id hR5
      obtain ⟨a0, a1, a2, a3⟩ := id hA5
      clear hL4
      go_region
      all_goals go_wp2
      all_goals exact bodyPost_ret (take_res ((hR5.put (.int .i64 xk) (.int .i64 xm) (.string xs) (.slice xa xl xc)).keep ((Below.refl _ _).drew)) rfl rfl rfl) rfl ⟨_, rfl, hX5.keep (fun b hb hl => ⟨Nat.le_of_lt hb, heap_put (by omega) _ _ _ _⟩), ((below_put hb5 (Nat.le_refl _) _ _ _ _).drew)⟩
    | false =>
      rw [if_neg (by decide)]
      go_enter Tryd.func13, Tryd.ntmps13
      go_upto_region 3 with (first
        | (go_at_call 22; refine hB1.mono ?_; rintro e w3 ⟨v, rfl, hx3, hr3, hf3⟩; obtain ⟨xk, xm, xs, xa, xl, xc, rfl⟩ := hx3.form))
      have hR3 := hR0.fx hf3 (by omega)
      have ha4 := (Below.refl w3.heap.size w3).alloc (Nat.le_refl _) (.cells #[.int .i64 xk, .int .i64 xm, .string xs, .slice xa xl xc] 30)
      have hR4 := hR3.keep ha4
      have hr4 := hr3.on ha4
      have hA4 := At4.new w3 (.int .i64 xk) (.int .i64 xm) (.string xs) (.slice xa xl xc) 30
      have hs3 := hf3.size
      rw [hs2] at hs3
      have hb4 : Below w.heap.size w (w3.alloc (.cells #[.int .i64 xk, .int .i64 xm, .string xs, .slice xa xl xc] 30)) := (hb2.trans (hf3.below (by omega) (by omega))).alloc (by omega) _
      have hX4 : RdX (fun b => w.heap.size < b) (w3.alloc (.cells #[.int .i64 xk, .int .i64 xm, .string xs, .slice xa xl xc] 30)) x (.agg #[.int .i64 xk, .int .i64 xm, .string xs, .slice xa xl xc]) := hx3.keep (fun b hb hl => ⟨by rw [hs2] at hb; omega, ha4.block b hl⟩)
      obtain ⟨XB, hXB⟩ : ∃ XB, w3.heap.size = XB := ⟨_, rfl⟩
      rw [hXB] at hA4 ⊢
      clear hR0 hb2 hs2 hx3 hr3 hf3 hR3 ha4 hB1 hs3 hXB
      generalize w3.alloc (.cells #[.int .i64 xk, .int .i64 xm, .string xs, .slice xa xl xc] 30) = w4 at *
      obtain ⟨c0, c1, c2, _, _, hL4⟩ := id hr4
      obtain ⟨r0, r1, r2, r3, r4, r5, r6, r7⟩ := id hR4
      obtain ⟨a0, a1, a2, a3⟩ := id hA4
      clear hL4
      have hF4 := hFm w4 (hT.below hb4 (Nat.le_refl _)) _ hX4
      go_wp2_with (first
        | (go_at_call 23; refine hF4.mono ?_; rintro e w5 ⟨rfl, b5⟩; have hR5 := hR4.keep b5; have hb5 := hb4.trans (b5.mono hb4.size); obtain ⟨r0, r1, r2, r3, r4, r5, r6, r7⟩ := id hR5))
      exact bodyPost_ret (take_res (hR5.put _ _ _ _) rfl rfl rfl) rfl ⟨_, rfl, rdX_no _ _, below_put hb5 (Nat.le_refl _) _ _ _ _⟩
end Go.Proofs.YtiddccohldjjcaaDoor

/- The walk of the document's first. -/
namespace Go.Proofs.YtiddccohldjjcaaDoor
open Go.RowKit Go.Lib
set_option linter.unusedSimpArgs false
set_option linter.unusedVariables false

set_option maxHeartbeats 2000000 in
theorem refFirst_any (s : ByteArray) (w : World) (hT : Tabs w) (hs : s.size ≤ 140737488351232) (h0 : 0 < s.size) :
    Calls Tryd.prog 17 #[.string s] w fun e w' => e = .returned (tup3 (fst1 (runes (bl s))).1 (firstB (bl s)) (fst1 (runes (bl s))).2) ∧ Below w.heap.size w w' := by
  have hlen : (bl s).length = s.size := rfl
  have hne : bl s ≠ [] := by intro e; rw [e] at hlen; simp at hlen; omega
  have hc := runes_cons hne
  have hsp := spb_le (bl s)
  rw [hlen] at hsp
  have h20 := refNext_any s w hT
  have h21 := fun w1 (b1 : Below w.heap.size w w1) => refRun_any s w1 (hT.below b1 (Nat.le_refl _)) hs
  obtain ⟨r, hr⟩ : ∃ r, (nx (bl s)).1 = r := ⟨_, rfl⟩
  obtain ⟨q, hq⟩ : ∃ q, (nx (bl s)).2 = q := ⟨_, rfl⟩
  obtain ⟨k, hk⟩ : ∃ k, spb (bl s) = k := ⟨_, rfl⟩
  obtain ⟨m, hm⟩ : ∃ m, spn (runes (bl s)) = m := ⟨_, rfl⟩
  have hf : fst1 (runes (bl s)) = if letter r = true then (if m ≤ 24 then (1, m) else (0, 0)) else if dgt r = true then (if numb ((runes (bl s)).take m) = true then (2, m) else (0, 0)) else if sgn (runes (bl s)) = 0 then (0, 0) else (3, sgn (runes (bl s))) := by
    rw [← hr, ← hm]
    have := fst1_cons ((nx (bl s)).1, (bl s).take (nx (bl s)).2) (runes ((bl s).drop (nx (bl s)).2))
    rw [← hc] at this
    exact this
  have h12 := fun w1 => refLetter_any r w1
  have h30 := fun w1 => refDigit_any r w1
  have hkb : (byt ((runes (bl s)).take m)).length = k := by rw [← hm]; exact hk
  have h10 := fun w1 (b1 : Below w.heap.size w w1) => refName_any (s.extract 0 k) w1 (hT.below b1 (Nat.le_refl _)) (by rw [ByteArray.size_extract]; omega)
  rw [bl_to] at h10
  have h31 := fun w1 => refNumber_any (s.extract 0 k) w1 (by rw [ByteArray.size_extract]; omega)
  rw [bl_to] at h31
  have hkt : (bl s).take k = byt ((runes (bl s)).take m) := by rw [← hk, ← hm]; exact take_spb _
  have h32 := fun w1 => refSign_any s w1 h0
  rw [hr, hq] at h20
  simp only [hk, hm] at h21
  rw [hk] at hsp
  have hk0 : (0 : Int) ≤ (k : Int) := by omega
  have hk1 : (k : Int) ≤ (s.size : Int) := by omega
  unfold firstB
  by_cases hL : letter r = true
  · have hn := name_spb hne (by rw [hr]; exact hL)
    rw [hk, hm] at hn
    rw [hn] at h10
    rw [hL] at h12
    rw [if_pos hL] at hf
    by_cases h24 : m ≤ 24
    · rw [if_pos h24] at hf
      rw [decide_eq_true h24] at h10
      rw [hf]
      simp only [hkb]
      clear hr hq hk hm hf hkb hkt h31 h30 h32 hn hc hL
      go_enter Tryd.func17, Tryd.ntmps17
      go_wp2_with (first
        | (go_at_call 16; refine h20.mono ?_; rintro e w1 ⟨rfl, b1⟩; have h21' := h21 w1 b1; clear h20 h21)
        | (go_at_call 31; refine h21'.mono ?_; rintro e w2 ⟨rfl, b2⟩; have b3 := b1.trans (b2.mono b1.size); have h10' := h10 w2 b3; clear h21' b1 b2 h10)
        | (go_at_call 32; refine (h12 _).mono ?_; rintro e w' ⟨rfl, rfl⟩; clear h12)
        | (go_at_call 33; refine h10'.mono ?_; rintro e w4 ⟨rfl, b4⟩; have b5 := b3.trans (b4.mono b3.size); clear h10' b3 b4))
      go_ret3
      exact ⟨rfl, b5⟩
    · rw [if_neg h24] at hf
      rw [decide_eq_false h24] at h10
      rw [hf]
      clear hr hq hk hm hf hkb hkt h31 h30 h32 hn hc hL
      go_enter Tryd.func17, Tryd.ntmps17
      go_wp2_with (first
        | (go_at_call 16; refine h20.mono ?_; rintro e w1 ⟨rfl, b1⟩; have h21' := h21 w1 b1; clear h20 h21)
        | (go_at_call 31; refine h21'.mono ?_; rintro e w2 ⟨rfl, b2⟩; have b3 := b1.trans (b2.mono b1.size); have h10' := h10 w2 b3; clear h21' b1 b2 h10)
        | (go_at_call 32; refine (h12 _).mono ?_; rintro e w' ⟨rfl, rfl⟩; clear h12)
        | (go_at_call 33; refine h10'.mono ?_; rintro e w4 ⟨rfl, b4⟩; have b5 := b3.trans (b4.mono b3.size); clear h10' b3 b4))
      go_ret3
      exact ⟨rfl, b5⟩
  rw [if_neg hL] at hf
  rw [Bool.not_eq_true] at hL
  rw [hL] at h12
  by_cases hD : dgt r = true
  · have hn : numB ((bl s).take k) = numb ((runes (bl s)).take m) := by rw [hkt]; exact numB_numb _ (fun v hv => List.mem_of_mem_take hv)
    rw [hn] at h31
    rw [hD] at h30
    rw [if_pos hD] at hf
    cases hb : numb ((runes (bl s)).take m) with
    | true =>
      rw [hb] at h31
      rw [if_pos hb] at hf
      rw [hf]
      simp only [hkb]
      clear hr hq hk hm hf hkb hkt h10 h32 hn hc hL hD hb
      go_enter Tryd.func17, Tryd.ntmps17
      go_wp2_with (first
        | (go_at_call 16; refine h20.mono ?_; rintro e w1 ⟨rfl, b1⟩; have h21' := h21 w1 b1; clear h20 h21)
        | (go_at_call 31; refine h21'.mono ?_; rintro e w2 ⟨rfl, b2⟩; have b3 := b1.trans (b2.mono b1.size); clear h21' b1 b2)
        | (go_at_call 32; refine (h12 _).mono ?_; rintro e w' ⟨rfl, rfl⟩; clear h12)
        | (go_at_call 34; refine (h30 _).mono ?_; rintro e w' ⟨rfl, rfl⟩; clear h30)
        | (go_at_call 35; refine (h31 _).mono ?_; rintro e w' ⟨⟨x, rfl⟩, rfl⟩; clear h31))
      go_ret3
      exact ⟨rfl, b3⟩
    | false =>
      rw [hb] at h31
      rw [if_neg (by rw [hb]; decide)] at hf
      rw [hf]
      clear hr hq hk hm hf hkb hkt h10 h32 hn hc hL hD hb
      go_enter Tryd.func17, Tryd.ntmps17
      go_wp2_with (first
        | (go_at_call 16; refine h20.mono ?_; rintro e w1 ⟨rfl, b1⟩; have h21' := h21 w1 b1; clear h20 h21)
        | (go_at_call 31; refine h21'.mono ?_; rintro e w2 ⟨rfl, b2⟩; have b3 := b1.trans (b2.mono b1.size); clear h21' b1 b2)
        | (go_at_call 32; refine (h12 _).mono ?_; rintro e w' ⟨rfl, rfl⟩; clear h12)
        | (go_at_call 34; refine (h30 _).mono ?_; rintro e w' ⟨rfl, rfl⟩; clear h30)
        | (go_at_call 35; refine (h31 _).mono ?_; rintro e w' ⟨⟨x, rfl⟩, rfl⟩; clear h31))
      go_ret3
      exact ⟨rfl, b3⟩
  rw [if_neg hD] at hf
  rw [Bool.not_eq_true] at hD
  rw [hD] at h30
  have hsb := sgn_bytes (bl s)
  obtain ⟨g, hg⟩ : ∃ g, sgn (runes (bl s)) = g := ⟨_, rfl⟩
  rw [hg] at hf hsb
  simp only [hg] at h32
  by_cases h00 : g = 0
  · rw [if_pos h00] at hf
    rw [hf]
    subst h00
    clear hr hq hk hm hf hkb hkt h10 h31 hc hL hD hsb hg
    go_enter Tryd.func17, Tryd.ntmps17
    go_wp2_with (first
      | (go_at_call 16; refine h20.mono ?_; rintro e w1 ⟨rfl, b1⟩; have h21' := h21 w1 b1; clear h20 h21)
      | (go_at_call 31; refine h21'.mono ?_; rintro e w2 ⟨rfl, b2⟩; have b3 := b1.trans (b2.mono b1.size); clear h21' b1 b2)
      | (go_at_call 32; refine (h12 _).mono ?_; rintro e w' ⟨rfl, rfl⟩; clear h12)
      | (go_at_call 34; refine (h30 _).mono ?_; rintro e w' ⟨rfl, rfl⟩; clear h30)
      | (go_at_call 36; refine (h32 _).mono ?_; rintro e w' ⟨rfl, rfl⟩; clear h32))
    go_ret3
    exact ⟨rfl, b3⟩
  · rw [if_neg h00] at hf
    have hg0 : ((g : Int) == 0) = false := beq_eq_false_iff_ne.2 (by omega)
    rw [hf]
    simp only [hsb]
    clear hr hq hk hm hf hkb hkt h10 h31 hc hL hD hsb hg h00
    go_enter Tryd.func17, Tryd.ntmps17
    go_wp2_with (first
      | (go_at_call 16; refine h20.mono ?_; rintro e w1 ⟨rfl, b1⟩; have h21' := h21 w1 b1; clear h20 h21)
      | (go_at_call 31; refine h21'.mono ?_; rintro e w2 ⟨rfl, b2⟩; have b3 := b1.trans (b2.mono b1.size); clear h21' b1 b2)
      | (go_at_call 32; refine (h12 _).mono ?_; rintro e w' ⟨rfl, rfl⟩; clear h12)
      | (go_at_call 34; refine (h30 _).mono ?_; rintro e w' ⟨rfl, rfl⟩; clear h30)
      | (go_at_call 36; refine (h32 _).mono ?_; rintro e w' ⟨rfl, rfl⟩; clear h32))
    go_ret3
    exact ⟨rfl, b3⟩
end Go.Proofs.YtiddccohldjjcaaDoor

/- What the document's End does. -/
namespace Go.Proofs.YtiddccohldjjcaaDoor
open Go.RowKit Go.Lib
set_option linter.unusedSimpArgs false
set_option linter.unusedVariables false

end Go.Proofs.YtiddccohldjjcaaDoor

/- What the document's Words does. -/
namespace Go.Proofs.YtiddccohldjjcaaDoor
open Go.RowKit Go.Lib
set_option linter.unusedSimpArgs false
set_option linter.unusedVariables false
attribute [local go_sem ↓] Go.wp_at_zero Go.wp_at_succ

theorem Tryd.infoWord : (Tryd.prog.info? 44).map (fun i => (i.zero, i.size, i.bytes)) = some (some (.agg #[.int .i64 0, .string ⟨#[]⟩, .int .i64 0, .int .i64 0]), 4, 40) := by kernel_rfl

set_option maxRecDepth 100000 in
set_option maxHeartbeats 4000000 in
theorem refWords_any (s : ByteArray) (w : World) (hT : Tabs w) (hs : s.size ≤ 140737488351232) :
    Calls Tryd.prog 11 #[.string s] w fun e w' => ∃ u, e = .returned (.tuple #[u, .agg #[.int .i64 (wordsS (bl s)).2.1.1, .int .i64 (wordsS (bl s)).2.1.2], .int .i64 (wordsS (bl s)).2.2]) ∧ OwnW w' w.heap.size 44 u (wordsS (bl s)).1 ∧ Below w.heap.size w w' := by
  obtain ⟨i0, hi, hz0, hz1, hz2⟩ := info_parts Tryd.infoWord
  by_cases hlong : 12000 < s.size
  · rw [words_long (show 12000 < (bl s).length from hlong)]
    have e1 : (s.size : Int) > 12000 := by omega
    obtain ⟨x0, x1, x2, x3⟩ := At.new w (.int .i64 0) (.int .i64 0) 38 _ rfl
    have hA := ((At.new w (.int .i64 0) (.int .i64 0) 38 _ rfl).set0 (.int .i64 1)).set1 (.int .i64 1)
    obtain ⟨y0, y1, y2, y3⟩ := id hA
    go_enter Tryd.func11, Tryd.ntmps11
    go_wp2
    exact bodyPost_ret (v := .tuple #[.slice none 0 0, .agg #[.int .i64 1, .int .i64 1], .int .i64 4]) (by simp [results, Tryd.results11, go_sem]) rfl ⟨_, rfl, ownW_nil _ _ _, by first | exact (Below.refl _ _).alloc (Nat.le_refl _) _ | exact (((Below.refl _ _).alloc (Nat.le_refl _) _).setCell (by simp) _).setCell (by simp) _⟩
  have e1 : ¬ (s.size : Int) > 12000 := by omega
  obtain ⟨⟨X, ⟨pL, pC⟩, er⟩, hE⟩ : ∃ x, wordsS (bl s) = x := ⟨_, rfl⟩
  rw [hE]
  have HE : Hid (comb [] (wrds (runes (bl s)) 1 1 0) = (X, (pL, pC), er)) := by
    show comb [] (wrds (runes (bl s)) 1 1 0) = (X, (pL, pC), er)
    rw [comb_nil, ← hE]
    unfold wordsS
    rw [if_neg (show ¬ 12000 < (bl s).length from hlong)]
  clear hE
  go_enter Tryd.func11, Tryd.ntmps11
  go_wp2
  go_loopw [0, 5] (fun u o wr => ∃ (s' : ByteArray) (ln co : Int) (acc : List Wd), u = .string s' ∧ s'.size ≤ s.size ∧ Hid (comb acc (wrds (runes (bl s')) ln co acc.length) = (X, (pL, pC), er)) ∧ 1 ≤ ln ∧ 1 ≤ co ∧ ln + s'.size ≤ 1 + s.size ∧ co + s'.size ≤ 1 + s.size ∧ acc.length ≤ 3000 ∧
    OwnW wr (w.heap.size + 2) 44 o acc ∧ At wr (w.heap.size + 1) (.int .i64 ln) (.int .i64 co) ∧ (∃ a b, At wr w.heap.size a b) ∧ w.heap.size + 2 ≤ wr.heap.size ∧ Below w.heap.size w wr) (fun u _ _ => szOf u)
  case atStart =>
    exact ⟨s, 1, 1, [], rfl, by omega, HE, by omega, by omega, by omega, by omega, by simp, ownW_nil _ _ _, At.new _ _ _ _ _ (by simp), ⟨_, _, (At.new w (.int .i64 0) (.int .i64 0) 38 _ rfl).keep ((Below.refl _ _).alloc (Nat.le_refl _) _)⟩, by simp, ((Below.refl _ _).alloc (Nat.le_refl _) _).alloc (by simp) _⟩
  case round =>
    obtain ⟨s', ln, co, acc, rfl, hsz, hv, hl1, hc1, hl2, hc2, hacc, ho, hA, ⟨a, b, hR⟩, hsize, hb⟩ := hrel
    have hTr := hT.below hb (Nat.le_refl _)
    obtain ⟨y0, y1, y2, y3⟩ := id hA
    obtain ⟨z0, z1, z2, z3⟩ := id hR
    by_cases hz : 0 < s'.size
    · have e2 : (s'.size : Int) > 0 := by omega
      have e3 : (0 : Int) < (s'.size : Int) := by omega
      have e4 : (1 : Int) ≤ (s'.size : Int) := by omega
      obtain ⟨c, r, hl⟩ : ∃ c r, bl s' = c :: r := by
        match hbl : bl s' with
        | [] => have := bl_length s'; rw [hbl] at this; simp at this; omega
        | c :: r => exact ⟨c, r, rfl⟩
      have hs0 : s'[0] = c := by rw [get_bl]; simp [hl]
      have hf1 : bl (s'.extract 1 s'.size) = r := by rw [bl_from, hl]; rfl
      have hsx1 : (s'.extract 1 s'.size).size = s'.size - 1 := by rw [ByteArray.size_extract]; omega
      have hvv := hv.out
      rw [hl] at hvv
      by_cases c10 : c.toNat = 10
      · have g10 : ((c.toNat : Int) == 10) = true := by simp; omega
        rw [runes_small r (k := 10) (by omega) c10, wrds_cons, if_pos (by rfl)] at hvv
        have hn : Hid (comb acc (wrds (runes (bl (s'.extract 1 s'.size))) (ln + 1) 1 acc.length) = (X, (pL, pC), er)) := by rw [hf1]; exact hvv
        clear hvv hl hf1 hT hTr c10
        go_wp2
        go_roundw
        case rel =>
          exact ⟨_, ln + 1, 1, acc, rfl, by omega, hn, by omega, by omega, by omega, by omega, hacc, (ho.set (by simp) _).set (by simp) _, (hA.set0 _).set1 _, ⟨a, b, (hR.far (by omega) _).far (by omega) _⟩, by simpa using hsize, (hb.setCell (by simp) _).setCell (by simp) _⟩
        case measure => simp [szOf]; omega
      have g10 : ((c.toNat : Int) == 10) = false := beq_eq_false_iff_ne.2 (by omega)
      by_cases c32 : c.toNat = 32 ∨ c.toNat = 9
      · have hn : Hid (comb acc (wrds (runes (bl (s'.extract 1 s'.size))) ln (co + 1) acc.length) = (X, (pL, pC), er)) := by
          rw [hf1]
          rcases c32 with h | h
          · rw [runes_small r (k := 32) (by omega) h, wrds_cons, if_neg (by simp), if_pos (by simp)] at hvv; exact hvv
          · rw [runes_small r (k := 9) (by omega) h, wrds_cons, if_neg (by simp), if_pos (by simp)] at hvv; exact hvv
        clear hvv hl hf1 hT hTr
        rcases c32 with h | h
        · have g32 : ((c.toNat : Int) == 32) = true := by simp; omega
          clear h
          go_wp2
          go_roundw
          case rel =>
            exact ⟨_, ln, co + 1, acc, rfl, by omega, hn, by omega, by omega, by omega, by omega, hacc, ho.set (by simp) _, hA.set1 _, ⟨a, b, hR.far (by omega) _⟩, by simpa using hsize, hb.setCell (by simp) _⟩
          case measure => simp [szOf]; omega
        · have g32 : ((c.toNat : Int) == 32) = false := beq_eq_false_iff_ne.2 (by omega)
          have g9 : ((c.toNat : Int) == 9) = true := by simp; omega
          clear h
          go_wp2
          go_roundw
          case rel =>
            exact ⟨_, ln, co + 1, acc, rfl, by omega, hn, by omega, by omega, by omega, by omega, hacc, ho.set (by simp) _, hA.set1 _, ⟨a, b, hR.far (by omega) _⟩, by simpa using hsize, hb.setCell (by simp) _⟩
          case measure => simp [szOf]; omega
      have g32 : ((c.toNat : Int) == 32) = false := beq_eq_false_iff_ne.2 (by omega)
      have g9 : ((c.toNat : Int) == 9) = false := beq_eq_false_iff_ne.2 (by omega)
      by_cases c35 : c.toNat = 35
      · have g35 : ((c.toNat : Int) == 35) = true := by simp; omega
        obtain ⟨R, hRR⟩ : ∃ R, R = runes (bl s') := ⟨_, rfl⟩
        have hp1 : 1 ≤ rest R := by rw [hRR, hl, runes_small r (k := 35) (by omega) c35]; exact rest_pos (by simp)
        have hN : Hid (comb acc (wrds (R.drop (rest R)) ln (co + rest R) acc.length) = (X, (pL, pC), er)) := by
          have h5 := hvv
          rw [← hl, ← hRR] at h5
          have h6 : R = (((35 : Nat) : Int), [c]) :: runes r := by rw [hRR, hl, runes_small r (k := 35) (by omega) c35]
          rw [h6] at h5 ⊢
          rw [wrds_cons, if_neg (by simp), if_neg (by simp), if_pos (by simp)] at h5
          exact h5
        have H0 : Hid (Rem R 0 (bl s')) := by rw [hRR]; exact Rem.zero
        clear hvv hl hf1 c35 c32 hRR y0 y1 y2 y3 z0 z1 z2 z3
        go_wp2
        go_loopw [0] (fun u wq => ∃ (s2 : ByteArray) (j : Nat), u = .string s2 ∧ j + s2.size ≤ s'.size ∧ Hid (Rem R j (bl s2)) ∧ OwnW wq (w.heap.size + 2) 44 u5 acc ∧ At wq (w.heap.size + 1) (.int .i64 ln) (.int .i64 (co + j)) ∧ (∃ a b, At wq w.heap.size a b) ∧ w.heap.size + 2 ≤ wq.heap.size ∧ Below w.heap.size w wq) (fun u _ => szOf u)
        case atStart => exact ⟨s', 0, rfl, by omega, H0, ho, by simpa using hA, ⟨a, b, hR⟩, hsize, hb⟩
        case round =>
          obtain ⟨s2, j, rfl, hj, hM, ho2, hA2, ⟨a2, b2, hR2⟩, hsz2, hb2⟩ := hrel
          have hT2 := hT.below hb2 (Nat.le_refl _)
          obtain ⟨y0, y1, y2, y3⟩ := id hA2
          by_cases hz3 : 0 < s2.size
          · have f2 : (s2.size : Int) > 0 := by omega
            have f3 : (0 : Int) < (s2.size : Int) := by omega
            obtain ⟨d, r2, hl2⟩ : ∃ d r2, bl s2 = d :: r2 := by
              match hbl : bl s2 with
              | [] => have := bl_length s2; rw [hbl] at this; simp at this; omega
              | d :: r2 => exact ⟨d, r2, rfl⟩
            have hd0 : s2[0] = d := by rw [get_bl]; simp [hl2]
            have hMM := hM.out
            rw [hl2] at hMM
            by_cases d10 : d.toNat = 10
            · have f10 : ((d.toNat : Int) != 10) = false := by simp; omega
              have hE := hMM.stop d10
              have hn : Hid (comb acc (wrds (runes (bl s2)) ln (co + (j : Int)) acc.length) = (X, (pL, pC), er)) := by
                have := hN.out
                rw [hE, ← hM.out.left] at this
                exact this
              clear hMM hl2 hT2 d10
              go_wp2
              go_roundw
              case rel => exact ⟨_, ln, co + j, acc, rfl, by omega, hn, by omega, by omega, by omega, by omega, hacc, ho2, hA2, ⟨a2, b2, hR2⟩, hsz2, hb2⟩
              case measure => simp [szOf]; omega
            · have f10 : ((d.toNat : Int) != 10) = true := by simp; omega
              have hst := hMM.step d10
              rw [← hl2] at hst
              have hne : bl s2 ≠ [] := by rw [hl2]; simp
              have h20 := refNext_any s2 _ hT2
              have hps := nx_pos hne
              have hnl := nx_le hne
              rw [bl_length] at hnl
              have hfr := bl_from s2 (nx (bl s2)).2
              obtain ⟨x, hx⟩ : ∃ x, (nx (bl s2)).1 = x := ⟨_, rfl⟩
              obtain ⟨q, hq⟩ : ∃ q, (nx (bl s2)).2 = q := ⟨_, rfl⟩
              rw [hx, hq] at h20
              rw [hq] at hps hnl hfr hst
              have hq0 : (0 : Int) ≤ (q : Int) := by omega
              have hq1 : (q : Int) ≤ (s2.size : Int) := by omega
              have hsx : (s2.extract q s2.size).size = s2.size - q := by rw [ByteArray.size_extract]; omega
              have hn : Hid (Rem R (j + 1) (bl (s2.extract q s2.size))) := by rw [hfr]; exact hst
              have hw1 : IntKind.i64.wrap (co + (j : Int) + 1) = co + j + 1 := by rw [IntKind.wrap_i64]; omega
              clear hMM hl2 hT2 d10 hst hne hfr hx hq
              go_wp2_with (first
                | (go_at_call 16; refine h20.mono ?_; rintro e w1 ⟨rfl, b1⟩; have hA3 := hA2.keep b1; have hR3 := hR2.keep b1; have ho3 := ho2.below b1 (Nat.le_refl _); obtain ⟨v0, v1, v2, v3⟩ := id hA3; have bb := hb2.trans (b1.mono hb2.size); have hsz3 : w.heap.size + 2 ≤ w1.heap.size := Nat.le_trans hsz2 b1.size; clear h20 hA2 hR2 hb2 ho2 y0 y1 y2 y3))
              go_roundw
              case rel => exact ⟨_, j + 1, rfl, by omega, hn, ho3.set (by simp) _, by have := hA3.set1 (.int .i64 (co + (j : Int) + 1)); rw [show co + ((j + 1 : Nat) : Int) = co + (j : Int) + 1 by omega]; exact this, ⟨a2, b2, hR3.far (by omega) _⟩, by simpa using hsz3, bb.setCell (by simp) _⟩
              case measure => simp [szOf]; omega
          · have f2 : ¬ (s2.size : Int) > 0 := by omega
            have hnil : bl s2 = [] := List.eq_nil_of_length_eq_zero (by rw [bl_length]; omega)
            have hMM := hM.out
            rw [hnil] at hMM
            have hE := hMM.stop_nil
            have hn : Hid (comb acc (wrds (runes (bl s2)) ln (co + (j : Int)) acc.length) = (X, (pL, pC), er)) := by
              have := hN.out
              rw [hE, ← hM.out.left] at this
              exact this
            clear hMM hnil hT2
            go_wp2
            go_roundw
            case rel => exact ⟨_, ln, co + j, acc, rfl, by omega, hn, by omega, by omega, by omega, by omega, hacc, ho2, hA2, ⟨a2, b2, hR2⟩, hsz2, hb2⟩
            case measure => simp [szOf]; omega
      have g35 : ((c.toNat : Int) == 35) = false := beq_eq_false_iff_ne.2 (by omega)
      have h23 := refFirst_any s' _ hTr (by omega) hz
      have hcs := runes_cons (l := c :: r) (by simp)
      have n10 : ¬ (nx (c :: r)).1 = 10 := fun e => c10 ((head_is c r (k := 10) (by omega)).1 e)
      have n32 : ¬ ((nx (c :: r)).1 = 32 ∨ (nx (c :: r)).1 = 9) := fun e => c32 (e.elim (fun e => .inl ((head_is c r (k := 32) (by omega)).1 e)) (fun e => .inr ((head_is c r (k := 9) (by omega)).1 e)))
      have n35 : ¬ (nx (c :: r)).1 = 35 := fun e => c35 ((head_is c r (k := 35) (by omega)).1 e)
      rw [hcs, wrds_cons, if_neg n10, if_neg n32, if_neg n35, ← hcs, ← hl] at hvv
      have hfl : (fst1 (runes (bl s'))).1 ≠ 0 → 1 ≤ (fst1 (runes (bl s'))).2 ∧ (fst1 (runes (bl s'))).2 ≤ (runes (bl s')).length := by rw [hl, hcs]; exact fst1_le _ _
      obtain ⟨K, hK⟩ : ∃ K, (fst1 (runes (bl s'))).1 = K := ⟨_, rfl⟩
      obtain ⟨m, hm⟩ : ∃ m, (fst1 (runes (bl s'))).2 = m := ⟨_, rfl⟩
      obtain ⟨n, hn⟩ : ∃ n, firstB (bl s') = n := ⟨_, rfl⟩
      have hn2 : (byt ((runes (bl s')).take m)).length = n := by rw [← hn, ← hm]; rfl
      rw [hK, hm] at hvv hfl h23
      rw [hn] at h23
      by_cases k0 : K = 0
      · rw [if_pos k0, comb_err _ _ _ (by decide)] at hvv
        simp only [Prod.mk.injEq] at hvv
        obtain ⟨rfl, ⟨rfl, rfl⟩, rfl⟩ := hvv
        subst k0
        clear hl hf1 hcs n10 n32 n35 hfl hK hm hn hn2 c10 c32 c35 hT hTr y0 y1 y2 y3 z0 z1 z2 z3
        go_wp2_with (first
          | (go_at_call 17; refine h23.mono ?_; rintro e w1 ⟨rfl, b1⟩; have hA3 := hA.keep b1; have hR3 := hR.keep b1; obtain ⟨y0, y1, y2, y3⟩ := id hA3; obtain ⟨z0, z1, z2, z3⟩ := id hR3; have bb := hb.trans (b1.mono hb.size); clear h23 hA hR hb ho))
        have hQ := (hR3.set0 (.int .i64 ln)).set1 (.int .i64 co)
        obtain ⟨q0, q1, q2, q3⟩ := id hQ
        have bq : Below w.heap.size w ((w1.setCell ⟨w.heap.size, 0, none⟩ (.int .i64 ln)).setCell ⟨w.heap.size, 1, none⟩ (.int .i64 co)).drew := ((bb.setCell (by simp) _).setCell (by simp) _).drew
        clear hQ hA3 hR3
        go_region
        all_goals go_wp2
        all_goals exact bodyPost_ret (v := .tuple #[.slice none 0 0, .agg #[.int .i64 ln, .int .i64 co], .int .i64 11]) (by simp [results, Tryd.results11, go_sem, q0, q1]) rfl ⟨_, rfl, ownW_nil _ _ _, bq⟩
      have hk0 : ((K : Int) == 0) = false := beq_eq_false_iff_ne.2 (by omega)
      obtain ⟨hm1, hm2⟩ := hfl k0
      rw [if_neg k0] at hvv
      by_cases a3 : acc.length = 3000
      · rw [if_pos a3, comb_err _ _ _ (by decide)] at hvv
        simp only [Prod.mk.injEq] at hvv
        obtain ⟨rfl, ⟨rfl, rfl⟩, rfl⟩ := hvv
        have hlen : ∃ ao ac, u5 = .slice ao acc.length ac := by
          rcases ho.2 with ⟨h, h2⟩ | ⟨g, cp, _, h, _⟩
          · exact ⟨none, 0, by rw [h, h2]⟩
          · exact ⟨_, _, h⟩
        obtain ⟨ao, ac, rfl⟩ := hlen
        have h3 : ((acc.length : Int) == 3000) = true := by simp; omega
        clear hl hf1 hcs n10 n32 n35 hfl hK hm hn hn2 c10 c32 c35 hT hTr y0 y1 y2 y3 z0 z1 z2 z3 k0 a3
        go_wp2_with (first
          | (go_at_call 17; refine h23.mono ?_; rintro e w1 ⟨rfl, b1⟩; have hA3 := hA.keep b1; have hR3 := hR.keep b1; obtain ⟨y0, y1, y2, y3⟩ := id hA3; obtain ⟨z0, z1, z2, z3⟩ := id hR3; have bb := hb.trans (b1.mono hb.size); clear h23 hA hR hb ho))
        have hQ := (hR3.set0 (.int .i64 ln)).set1 (.int .i64 co)
        obtain ⟨q0, q1, q2, q3⟩ := id hQ
        have bq : Below w.heap.size w ((w1.setCell ⟨w.heap.size, 0, none⟩ (.int .i64 ln)).setCell ⟨w.heap.size, 1, none⟩ (.int .i64 co)).drew := ((bb.setCell (by simp) _).setCell (by simp) _).drew
        clear hQ hA3 hR3
        go_region
        all_goals go_wp2
        all_goals exact bodyPost_ret (v := .tuple #[.slice none 0 0, .agg #[.int .i64 ln, .int .i64 co], .int .i64 4]) (by simp [results, Tryd.results11, go_sem, q0, q1]) rfl ⟨_, rfl, ownW_nil _ _ _, bq⟩
      rw [if_neg a3, comb_pre] at hvv
      have hge := byt_ge (l := bl s') ((runes (bl s')).take m) (fun v hv => List.mem_of_mem_take hv)
      rw [List.length_take, Nat.min_eq_left hm2, hn2] at hge
      have hspl := byt_split (runes (bl s')) m
      rw [byt_runes _ _ (Nat.le_refl _), hn2, bl_length] at hspl
      have hrd := runes_drop m (bl s') hm2
      rw [hn2, ← bl_from] at hrd
      have htx := txt_eq s' m
      rw [hn2] at htx
      obtain ⟨seg, hseg⟩ : ∃ seg, (runes (bl s')).take m = seg := ⟨_, rfl⟩
      rw [hseg] at hvv htx
      have hN : Hid (comb (acc ++ [(K, seg, ln, co)]) (wrds (runes (bl (s'.extract n s'.size))) ln (co + (m : Int)) (acc ++ [((K, seg, ln, co) : Wd)]).length) = (X, (pL, pC), er)) := by
        rw [hrd, List.length_append]; exact hvv
      have hq0 : (0 : Int) ≤ (n : Int) := by omega
      have hq1 : (n : Int) ≤ (s'.size : Int) := by omega
      have hsx : (s'.extract n s'.size).size = s'.size - n := by rw [ByteArray.size_extract]; omega
      have hw1 : IntKind.i64.wrap (co + (m : Int)) = co + m := by rw [IntKind.wrap_i64]; omega
      have hlen : ∃ ao ac, u5 = .slice ao acc.length ac := by
        rcases ho.2 with ⟨h, h2⟩ | ⟨g, cp, _, h, _⟩
        · exact ⟨none, 0, by rw [h, h2]⟩
        · exact ⟨_, _, h⟩
      obtain ⟨ao, ac, hu5⟩ := hlen
      have h3 : ((acc.length : Int) == 3000) = false := beq_eq_false_iff_ne.2 (by omega)
      have hac : acc.length < 3000 := by omega
      clear hl hf1 hcs n10 n32 n35 hfl hK hm hn hn2 c10 c32 c35 hT hTr y0 y1 y2 y3 z0 z1 z2 z3 k0 a3 hvv hrd hseg hspl
      subst hu5
      go_wp2_with (first
        | (go_at_call 17; refine h23.mono ?_; rintro e w1 ⟨rfl, b1⟩; have hA3 := hA.keep b1; have hR3 := hR.keep b1; have ho3 := ho.below b1 (Nat.le_refl _); obtain ⟨y0, y1, y2, y3⟩ := id hA3; have bb := hb.trans (b1.mono hb.size); have hsz3 : w.heap.size + 2 ≤ w1.heap.size := Nat.le_trans hsize b1.size; clear h23 hA hR hb ho))
      go_region_held_law (fun w' => w'.cell? ⟨w.heap.size + 1, 0, none⟩ = some (.int .i64 ln) ∧ w'.cell? ⟨w.heap.size + 1, 1, none⟩ = some (.int .i64 co))
        (first | exact ⟨y0, y1⟩ | exact ⟨p0, p1⟩ | go_keep)
        ((refine step_append_both _ (by rfl) (.tmp 74) (.tmp 81) 36 36 (by rfl) (w.heap.size + 2) 44 i0 (.agg #[.int .i64 0, .string ⟨#[]⟩, .int .i64 0, .int .i64 0]) 4 40 Tryd.underlying36 hi hz0 hz1 hz2 rfl _ acc.length _ (by rfl) ((World.ownsRow.alloc ho3 _).drew) _ 1 (celW (K, seg, ln, co)) (by rfl) (src_word_drew Tryd.underlying36 w1 (K, seg, ln, co)) 1 (.inr (by omega)) (Nat.le_refl _) (by unfold maxLen; omega) (by simp; omega) ?_; intro v4 w4 ho4 hg4 _; have bel4 : Below (w.heap.size + 2) w1 w4 := (((Below.refl _ _).alloc hsz3 _).drew).grown hg4 (by simp; omega) (fun k hk => (World.ownsRow.lt ho3 k hk).1); obtain ⟨p0, p1, p2, p3⟩ := hA3.keepB bel4 (by omega)))
      have hA4 : At w4 (w.heap.size + 1) (.int .i64 ln) (.int .i64 co) := ⟨p0, p1, p2, p3⟩
      have hR4 := hR3.keepB bel4 (by omega)
      have b4 := bb.trans (bel4.mono (by omega))
      have ho5 := ownW_snoc ho4
      have hsz4 : w.heap.size + 2 ≤ w4.heap.size := Nat.le_trans hsz3 bel4.size
      clear ho4 hg4 ho3 hA3 hR3 bel4 bb y0 y1 y2 y3 htx
      go_wp2
      go_roundw
      case rel =>
        exact ⟨_, ln, co + m, acc ++ [(K, seg, ln, co)], rfl, by omega, hN, by omega, by omega, by omega, by omega, by simp; omega, ho5.set (by simp) _, hA4.set1 _, ⟨a, b, hR4.far (by omega) _⟩, by simpa using hsz4, b4.setCell (by simp) _⟩
      case measure => simp [szOf]; omega
    · have e2 : ¬ (s'.size : Int) > 0 := by omega
      have hnil : bl s' = [] := List.eq_nil_of_length_eq_zero (by rw [bl_length]; omega)
      have hvv := hv.out
      rw [hnil, runes_nil, comb_end] at hvv
      simp only [Prod.mk.injEq] at hvv
      obtain ⟨rfl, ⟨rfl, rfl⟩, rfl⟩ := hvv
      have hA2 := (hR.set0 (.int .i64 0)).set1 (.int .i64 0)
      obtain ⟨q0, q1, q2, q3⟩ := id hA2
      have b2 : Below w.heap.size w ((wr.setCell ⟨w.heap.size, 0, none⟩ (.int .i64 0)).setCell ⟨w.heap.size, 1, none⟩ (.int .i64 0)) := (hb.setCell (by simp) _).setCell (by simp) _
      have o2 := (ho.set (a := ⟨w.heap.size, 0, none⟩) (by simp) (.int .i64 0)).set (a := ⟨w.heap.size, 1, none⟩) (by simp) (.int .i64 0)
      clear hnil hT hTr hA hR hA2 hv HE ho
      go_wp2
      exact bodyPost_ret (v := .tuple #[u5, .agg #[.int .i64 0, .int .i64 0], .int .i64 0]) (by simp [results, Tryd.results11, go_sem, q0, q1]) rfl ⟨_, rfl, o2.base (by omega), b2⟩
end Go.Proofs.YtiddccohldjjcaaDoor

/- What the document's Parse does. -/
namespace Go.Proofs.YtiddccohldjjcaaDoor
open Go.RowKit Go.Lib
set_option linter.unusedSimpArgs false
set_option linter.unusedVariables false
attribute [local go_sem ↓] Go.wp_at_zero Go.wp_at_succ

theorem parse_res {w4 : World} {R : Nat} {a b c e x3 : Value} {tmps : Array Value} (hB : B4 w4 R a b c e) (ht : tmps.getD 2 undef = .pointer (some ⟨R, 0, none⟩)) (h3 : tmps.getD 3 undef = x3) : (results Tryd.f7 tmps).run Tryd.prog w4 = .ok (.tuple #[.agg #[a, b, c, e], x3]) w4 := by
  obtain ⟨c0, c1, c2, c3, _, _, _, _⟩ := hB
  have ht' : tmps[2]?.getD undef = .pointer (some ⟨R, 0, none⟩) := by simpa using ht
  have h3' : tmps[3]?.getD undef = x3 := by simpa using h3
  simp [results, Tryd.results7, go_sem, ht', h3', c0, c1, c2, c3]
set_option maxRecDepth 100000 in
set_option maxHeartbeats 4000000 in
theorem rParse_any (s : ByteArray) (w : World) (hT : Tabs w) (hs : s.size ≤ 140737488351232) :
    Calls Tryd.prog 7 #[.string s] w fun e w' => ∃ u, e = .returned (.tuple #[u, .int .i64 (parseC (bl s)).2]) ∧ RdX (fun b => w.heap.size ≤ b) w' (parseC (bl s)).1 u ∧ Below w.heap.size w w' := by
  have hb0 := alN w
  have hW := refWords_any s (w.alloc zN) (hT.below hb0 (Nat.le_refl _)) hs
  have hR0 : B4 (w.alloc zN) w.heap.size (.int .i64 0) (.int .i64 0) (.string ⟨#[]⟩) (.slice none 0 0) := B4.new w _ _ _ _ _ _ rfl
  have hsz : (w.alloc zN).heap.size = w.heap.size + 1 := by simp
  obtain ⟨P, hP⟩ : ∃ P, parseC (bl s) = P := ⟨_, rfl⟩
  rw [hP]
  unfold parseC at hP
  obtain ⟨⟨ws, ⟨pl, pc⟩, er⟩, hR⟩ : ∃ r, wordsS (bl s) = r := ⟨_, rfl⟩
  have h1 := fun h => words_one (l := bl s) h
  rw [hR] at hW hP h1
  simp only at hW hP h1
  by_cases he : er ≠ 0
  · rw [if_pos he] at hP
    have HP : Hid ((noX, er) = P) := hP
    have i1 : (er != 0) = true := by simpa using he
    clear h1 hR he hP
    go_enter Tryd.func7, Tryd.ntmps7
    go_upto_region 2 with (first
      | (go_at_call 11; refine hW.mono ?_; rintro e w1 ⟨u, rfl, hown, b1⟩; obtain ⟨a, cap, rfl, _⟩ := ownW_rdR hown))
    have hR1 := (hR0.keep b1).keep ((Below.refl _ w1).alloc (Nat.le_refl _) (.cells #[.int .i64 pl, .int .i64 pc] 38))
    have hb1 := (hb0.trans (b1.mono hb0.size)).alloc (hb0.trans (b1.mono hb0.size)).size (.cells #[.int .i64 pl, .int .i64 pc] 38)
    generalize w1.alloc (.cells #[.int .i64 pl, .int .i64 pc] 38) = w2 at *
    obtain ⟨r0, r1, r2, r3, r4, r5, r6, r7⟩ := id hR1
    go_wp2
    have hv := HP.out
    subst hv
    exact bodyPost_ret (parse_res (hR1.put _ _ _ _) rfl rfl) rfl ⟨_, rfl, rdX_no _ _, below_put hb1 (Nat.le_refl _) _ _ _ _⟩
  · rw [if_neg he] at hP
    have he0 : er = 0 := by simpa using he
    subst he0
    obtain ⟨h2, h3⟩ := h1 rfl
    have hTk := fun w1 v (hT1 : Tabs w1) (ho : OwnW w1 0 44 v ws) => rTake_any hT1 ho h2 h3
    obtain ⟨⟨x, n, f⟩, hX⟩ : ∃ r, takeC (ws.map tkW) = r := ⟨_, rfl⟩
    rw [hX] at hP
    simp only [hX] at hTk hP
    have HP : Hid ((if f ≠ 0 then (noX, f) else if n < ws.length then (noX, 12) else (x, 0)) = P) := hP
    clear h1 he hR h2 hX hP
    go_enter Tryd.func7, Tryd.ntmps7
    go_upto_region 4 with (first
      | (go_at_call 11; refine hW.mono ?_; rintro e w1 ⟨u, rfl, hown, b1⟩; obtain ⟨a, cap, rfl, _⟩ := ownW_rdR hown))
    have ha2 := (Below.refl _ w1).alloc (Nat.le_refl _) (.cells #[.int .i64 pl, .int .i64 pc] 38)
    have hR1 := (hR0.keep b1).keep ha2
    have hb1 := (hb0.trans (b1.mono hb0.size)).alloc (hb0.trans (b1.mono hb0.size)).size (.cells #[.int .i64 pl, .int .i64 pc] 38)
    have ho2 := (hown.base (Nat.zero_le _)).below ha2 (Nat.le_refl _)
    clear hown b1 ha2 hW hR0
    generalize w1.alloc (.cells #[.int .i64 pl, .int .i64 pc] 38) = w2 at *
    have hTk2 := hTk w2 _ (hT.below hb1 (Nat.le_refl _)) ho2
    have hRl := hR1.lt
    go_upto_region 5 with (first
      | (go_at_call 13; refine hTk2.mono ?_; rintro e w3 ⟨u, rfl, hx3, b3⟩; obtain ⟨xk, xm, xs, xa, xl, xc, rfl⟩ := hx3.form))
    have ha4 := (Below.refl _ w3).alloc (Nat.le_refl _) (.cells #[.int .i64 xk, .int .i64 xm, .string xs, .slice xa xl xc] 30)
    have hR4 := (hR1.keep b3).keep ha4
    have hb4 := (hb1.trans (b3.mono hb1.size)).alloc (hb1.trans (b3.mono hb1.size)).size (.cells #[.int .i64 xk, .int .i64 xm, .string xs, .slice xa xl xc] 30)
    have hA4 := At4.new w3 (.int .i64 xk) (.int .i64 xm) (.string xs) (.slice xa xl xc) 30
    have hX4 : RdX (fun b => w.heap.size < b) (w3.alloc (.cells #[.int .i64 xk, .int .i64 xm, .string xs, .slice xa xl xc] 30)) x (.agg #[.int .i64 xk, .int .i64 xm, .string xs, .slice xa xl xc]) := hx3.keep (fun b hb hl => ⟨by omega, ha4.block b hl⟩)
    obtain ⟨XB, hXB⟩ : ∃ XB, w3.heap.size = XB := ⟨_, rfl⟩
    rw [hXB] at hA4 ⊢
    clear hR1 hx3 b3 hTk hTk2 ho2 hb1 ha4 hXB
    generalize w3.alloc (.cells #[.int .i64 xk, .int .i64 xm, .string xs, .slice xa xl xc] 30) = w4 at *
    obtain ⟨r0, r1, r2, r3, r4, r5, r6, r7⟩ := id hR4
    obtain ⟨a0, a1, a2, a3⟩ := id hA4
    by_cases hf : f ≠ 0
    · have hv := HP.out
      rw [if_pos hf] at hv
      subst hv
      have i1 : (f != 0) = true := by simpa using hf
      go_wp2
      exact bodyPost_ret (parse_res (hR4.put _ _ _ _) rfl rfl) rfl ⟨_, rfl, rdX_no _ _, below_put hb4 (Nat.le_refl _) _ _ _ _⟩
    · have hv := HP.out
      rw [if_neg hf] at hv
      have hf0 : f = 0 := by simpa using hf
      subst hf0
      by_cases hn : n < ws.length
      · rw [if_pos hn] at hv
        subst hv
        have i1 : (n : Int) < (ws.length : Int) := by omega
        go_wp2
        exact bodyPost_ret (parse_res (hR4.put _ _ _ _) rfl rfl) rfl ⟨_, rfl, rdX_no _ _, below_put hb4 (Nat.le_refl _) _ _ _ _⟩
      · rw [if_neg hn] at hv
        subst hv
        have i1 : ¬ (n : Int) < (ws.length : Int) := by omega
        go_wp2
        exact bodyPost_ret (parse_res (hR4.put _ _ _ _) rfl rfl) rfl ⟨_, rfl, hX4.keep (fun b hb hl => ⟨Nat.le_of_lt hb, heap_put (by omega) _ _ _ _⟩), below_put hb4 (Nat.le_refl _) _ _ _ _⟩
end Go.Proofs.YtiddccohldjjcaaDoor
