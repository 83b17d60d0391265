
/- What the document's Take does. -/
import Derived.Test.YtiddccohldjjcaaDoorRgE
import Derived.Test.YtiddccohldjjcaaDoorExG
import Derived.Test.YtiddccohldjjcaaDoorUtf
namespace Go.Proofs.YtiddccohldjjcaaDoor
open Go.RowKit Go.Lib
set_option linter.unusedSimpArgs false
set_option linter.unusedVariables false
attribute [local go_sem ↓] Go.wp_at_zero Go.wp_at_succ

theorem addr_plainR (g i : Nat) : (⟨g, 0, none⟩ : Addr).add i = ⟨g, i, none⟩ := by unfold Addr.add; split <;> simp_all
theorem celsW_atR (ws : List Wd) (i : Nat) (h : i < ws.length) : (celsW ws)[i * 4]? = some (.int .i64 ((ws[i]).1 : Int)) ∧ (celsW ws)[i * 4 + 1]? = some (.string (txt (ws[i]).2.1)) ∧ (celsW ws)[i * 4 + 2]? = some (.int .i64 (ws[i]).2.2.1) ∧ (celsW ws)[i * 4 + 3]? = some (.int .i64 (ws[i]).2.2.2) := by
  induction ws generalizing i with
  | nil => simp at h
  | cons x t ih =>
    cases i with
    | zero => exact ⟨rfl, rfl, rfl, rfl⟩
    | succ k =>
      have hk := ih k (by simpa using h)
      have e : ∀ j, (celsW (x :: t))[(k + 1) * 4 + j]? = (celsW t)[k * 4 + j]? := fun j => by
        show (celW x ++ celsW t)[(k + 1) * 4 + j]? = _
        rw [List.getElem?_append_right (by simp [celW]; omega)]
        congr 1
        simp [celW]; omega
      exact ⟨(e 0).trans hk.1, (e 1).trans hk.2.1, (e 2).trans hk.2.2.1, (e 3).trans hk.2.2.2⟩
theorem ownW_rdR {w : World} {base e : Nat} {v : Value} {ws : List Wd} (h : OwnW w base e v ws) : ∃ a cap, v = .slice a ws.length cap ∧ ws.length ≤ cap ∧ cap ≤ maxLen ∧ ∀ X, w.heap.size ≤ X → RdL w X a ws := by
  have hc := fun g => World.ownsRow.cells h (g := g)
  rcases h.2 with ⟨h1, h2⟩ | ⟨g, cap, cur, rfl, hb, hg, h3, h4, _⟩
  · exact ⟨none, 0, by rw [h1, h2], by omega, by simp [maxLen], fun X _ i hi => by omega⟩
  · refine ⟨_, _, rfl, h3, h4, fun X hX i hi => ⟨g, rfl, by have := (Array.getElem?_eq_some_iff.1 hg).1; omega, ?_⟩⟩
    obtain ⟨e0, e1, e2, e3⟩ := celsW_atR ws i hi
    have c0 := hc g rfl _ _ e0
    have c1 := hc g rfl _ _ e1
    have c2 := hc g rfl _ _ e2
    have c3 := hc g rfl _ _ e3
    rw [addr_plainR] at c0 c1 c2 c3
    exact ⟨c0, c1, c2, c3⟩
theorem stop_snd (y : Yd) (n : Nat) : (stopY y n).2 = n := by unfold stopY; split <;> rfl
theorem runY_le (leaf : Tk → Option Sx) : ∀ (r : List Tk) (y : Yd) (n : Nat), (runY leaf y r n).2 ≤ n + r.length
  | [], y, n => by show (stopY y n).2 ≤ _; rw [stop_snd]; omega
  | w :: r, y, n => by
    unfold runY
    split
    · have := runY_le leaf r (stp leaf y w).1 (n + 1)
      rw [List.length_cons]; omega
    · rw [stop_snd]; omega
theorem place_le {ws : List Wd} (h : ∀ w ∈ ws, OneW w.1 w.2.1) (hb : (rdC (ws.map tkW)).2.2 < 0) : (rdC (ws.map tkW)).2.1 ≤ ws.length := by
  have hy := yard_psr (nb := valB 0) (rsv := rsvB) (l := ws.map tkW) (good_all h) (f := 7 * (ws.map tkW).length + 6) (by omega)
  have e : psr (valB 0) rsvB (ws.map tkW) (7 * (ws.map tkW).length + 6) 1 0 (-1) = rdC (ws.map tkW) := rfl
  rw [e, if_pos hb] at hy
  have := runY_le (leafY (valB 0) rsvB) (ws.map tkW) ⟨[], [], 0, false⟩ 0
  have h2 : rnY (leafY (valB 0) rsvB) (ws.map tkW) ⟨[], [], 0, false⟩ 0 = runY (leafY (valB 0) rsvB) ⟨[], [], 0, false⟩ (ws.map tkW) 0 := rfl
  rw [← h2, hy, List.length_map] at this
  simpa using this
theorem take_res {w4 : World} {R : Nat} {a b c e x3 x4 : Value} {tmps : Array Value} (hB : B4 w4 R a b c e) (ht : tmps.getD 2 undef = .pointer (some ⟨R, 0, none⟩)) (h3 : tmps.getD 3 undef = x3) (h4 : tmps.getD 4 undef = x4) : (results Tryd.f13 tmps).run Tryd.prog w4 = .ok (.tuple #[.agg #[a, b, c, e], x3, x4]) w4 := by
  obtain ⟨c0, c1, c2, c3, _, _, _, _⟩ := hB
  have ht' : tmps[2]?.getD undef = .pointer (some ⟨R, 0, none⟩) := by simpa using ht
  have h3' : tmps[3]?.getD undef = x3 := by simpa using h3
  have h4' : tmps[4]?.getD undef = x4 := by simpa using h4
  simp [results, Tryd.results13, go_sem, ht', h3', h4', c0, c1, c2, c3]
set_option maxRecDepth 100000 in
set_option maxHeartbeats 4000000 in
theorem rTake_any {w : World} {v : Value} {ws : List Wd} (hT : Tabs w) (hw : OwnW w 0 44 v ws) (h1 : ∀ x ∈ ws, OneW x.1 x.2.1) (hl : ws.length ≤ 3000) :
    Calls Tryd.prog 13 #[v] w fun e w' => ∃ u, e = .returned (.tuple #[u, .int .i64 ((takeC (ws.map tkW)).2.1 : Int), .int .i64 (takeC (ws.map tkW)).2.2]) ∧ RdX (fun b => w.heap.size ≤ b) w' (takeC (ws.map tkW)).1 u ∧ Below w.heap.size w w' := by
  obtain ⟨a, cap, rfl, q1, q2, hL⟩ := ownW_rdR hw
  have hB := fun X w1 (hr : Rr w1 X a cap ws 0 (-1)) => (rd_any ws (7 * (ws.map tkW).length + 6)).2 X a cap 0 1 w1 ⟨hl, q1, q2, h1⟩ (by omega) (by omega) (by rw [List.length_map]; omega) hr
  have e : psW ws (7 * (ws.map tkW).length + 6) 1 0 = rdC (ws.map tkW) := rfl
  have hf : BadOr _ 0 (rdC (ws.map tkW)) := fine_read h1 _ 1 0 (by omega) (by omega)
  have hpl := place_le h1
  unfold takeC
  simp only [e] at hB
  obtain ⟨⟨x, n1, b1⟩, hR⟩ : ∃ r, rdC (ws.map tkW) = r := ⟨_, rfl⟩
  rw [hR] at hf hpl
  simp only [hR] at hB ⊢
  have hr0 : Rr ((w.alloc zN).alloc (.cells #[.slice a ws.length cap, .int .i64 0, .int .i64 (-1)] 74)) (w.heap.size + 1) a cap ws 0 (-1) := by
    have hb2 : Below w.heap.size w ((w.alloc zN).alloc (.cells #[.slice a ws.length cap, .int .i64 0, .int .i64 (-1)] 74)) := ((Below.refl _ _).alloc (Nat.le_refl _) _).alloc (by simp) _
    have hsz : (w.alloc zN).heap.size = w.heap.size + 1 := by simp
    have hc : ∀ i (u : Value), (#[.slice a ws.length cap, .int .i64 0, .int .i64 (-1)] : Array Value)[i]? = some u → ((w.alloc zN).alloc (.cells #[.slice a ws.length cap, .int .i64 0, .int .i64 (-1)] 74)).cell? ⟨w.heap.size + 1, i, none⟩ = some u := fun i u hu => by
      rw [← hsz]
      exact (cell_of_row _ _ i _ _ (0, 0) (heap_alloc_new _ _)).trans hu
    have hfz : ∀ i, ((w.alloc zN).alloc (.cells #[.slice a ws.length cap, .int .i64 0, .int .i64 (-1)] 74)).frozen? ⟨w.heap.size + 1, i, none⟩ = false := fun i => by
      rw [← hsz]
      exact frozen_of_row _ _ i _ _ (heap_alloc_new _ _)
    refine ⟨hc 0 _ rfl, hc 1 _ rfl, hc 2 _ rfl, hfz 1, hfz 2, fun i hi => ?_⟩
    obtain ⟨g, h1, h2, c0, c1, c2, c3⟩ := hL w.heap.size (Nat.le_refl _) i hi
    exact ⟨g, h1, by omega, (hb2.cell (p := ⟨g, i * 4, none⟩) h2).trans c0, (hb2.cell (p := ⟨g, i * 4 + 1, none⟩) h2).trans c1, (hb2.cell (p := ⟨g, i * 4 + 2, none⟩) h2).trans c2, (hb2.cell (p := ⟨g, i * 4 + 3, none⟩) h2).trans c3⟩
  have hB1 := hB _ _ hr0
  have hb2 : Below w.heap.size w ((w.alloc zN).alloc (.cells #[.slice a ws.length cap, .int .i64 0, .int .i64 (-1)] 74)) := ((Below.refl _ _).alloc (Nat.le_refl _) _).alloc (by simp) _
  have hs2 : ((w.alloc zN).alloc (.cells #[.slice a ws.length cap, .int .i64 0, .int .i64 (-1)] 74)).heap.size = w.heap.size + 2 := by simp
  have hR0 : B4 ((w.alloc zN).alloc (.cells #[.slice a ws.length cap, .int .i64 0, .int .i64 (-1)] 74)) w.heap.size (.int .i64 0) (.int .i64 0) (.string ⟨#[]⟩) (.slice none 0 0) := (B4.new w _ _ _ _ _ _ rfl).keep ((Below.refl _ _).alloc (Nat.le_refl _) _)
  clear e hR hw hL hB hr0 h1 q1 q2
  by_cases hb : 0 ≤ b1
  · rw [if_pos hb]
    have hbn : ((b1.toNat : Nat) : Int) = b1 := Int.toNat_of_nonneg hb
    simp only [hbn]
    go_enter Tryd.func13, Tryd.ntmps13
    go_upto_region 3 with (first
      | (go_at_call 22; refine hB1.mono ?_; rintro e w3 ⟨v, rfl, hx3, hr3, hf3⟩; obtain ⟨xk, xm, xs, xa, xl, xc, rfl⟩ := hx3.form))
    have hR3 := hR0.fx hf3 (by omega)
    have ha4 := (Below.refl w3.heap.size w3).alloc (Nat.le_refl _) (.cells #[.int .i64 xk, .int .i64 xm, .string xs, .slice xa xl xc] 30)
    have hR4 := hR3.keep ha4
    have hr4 := hr3.on ha4
    have hA4 := At4.new w3 (.int .i64 xk) (.int .i64 xm) (.string xs) (.slice xa xl xc) 30
    have hs3 := hf3.size
    rw [hs2] at hs3
    have hb4 : Below w.heap.size w (w3.alloc (.cells #[.int .i64 xk, .int .i64 xm, .string xs, .slice xa xl xc] 30)) := (hb2.trans (hf3.below (by omega) (by omega))).alloc (by omega) _
    have hX4 : RdX (fun b => w.heap.size < b) (w3.alloc (.cells #[.int .i64 xk, .int .i64 xm, .string xs, .slice xa xl xc] 30)) x (.agg #[.int .i64 xk, .int .i64 xm, .string xs, .slice xa xl xc]) := hx3.keep (fun b hb hl => ⟨by rw [hs2] at hb; omega, ha4.block b hl⟩)
    obtain ⟨XB, hXB⟩ : ∃ XB, w3.heap.size = XB := ⟨_, rfl⟩
    rw [hXB] at hA4 ⊢
    clear hR0 hb2 hs2 hx3 hr3 hf3 hR3 ha4 hB1 hs3 hXB
    generalize w3.alloc (.cells #[.int .i64 xk, .int .i64 xm, .string xs, .slice xa xl xc] 30) = w4 at *
    obtain ⟨c0, c1, c2, _, _, hL4⟩ := id hr4
    obtain ⟨r0, r1, r2, r3, r4, r5, r6, r7⟩ := id hR4
    obtain ⟨a0, a1, a2, a3⟩ := id hA4
    clear hL4
    go_wp2
    go_region
    all_goals go_wp2
    all_goals exact bodyPost_ret (take_res ((hR4.put (.int .i64 0) (.int .i64 0) (.string ⟨#[]⟩) (.slice none 0 0)).keep ((Below.refl _ _).drew)) rfl rfl rfl) rfl ⟨_, rfl, rdX_no _ _, ((below_put hb4 (Nat.le_refl _) _ _ _ _).drew)⟩
  · rw [if_neg hb]
    obtain ⟨hb1, hfine, hcnt⟩ : b1 = -1 ∧ Fine x ∧ 0 + cntX x ≤ n1 := by
      rcases hf with ⟨p1, p2⟩ | p1
      · exact ⟨p1, p2⟩
      · exact absurd p1 hb
    subst hb1
    have hn1 : n1 ≤ 100000 := by have := hpl (by show (-1 : Int) < 0; decide); simp only at this; omega
    have hFm := fun w1 (hT1 : Tabs w1) v1 (h : RdX (fun b => w.heap.size < b) w1 x v1) => formed_any hT1 h (by unfold cntX at hcnt; omega) hfine.sh
    obtain ⟨fb, hfb⟩ : ∃ fb, fmX x = fb := ⟨_, rfl⟩
    rw [hfb]
    have hFm : ∀ w1, Tabs w1 → ∀ v1, RdX (fun b => w.heap.size < b) w1 x v1 → Calls Tryd.prog 23 #[v1] w1 fun e w' => e = .returned (.bool fb) ∧ Below w1.heap.size w1 w' := fun w1 h1 v1 h2 => by rw [← hfb]; exact hFm w1 h1 v1 h2
    cases fb with
    | true =>
      rw [if_pos rfl]
      go_enter Tryd.func13, Tryd.ntmps13
      go_upto_region 3 with (first
        | (go_at_call 22; refine hB1.mono ?_; rintro e w3 ⟨v, rfl, hx3, hr3, hf3⟩; obtain ⟨xk, xm, xs, xa, xl, xc, rfl⟩ := hx3.form))
      have hR3 := hR0.fx hf3 (by omega)
      have ha4 := (Below.refl w3.heap.size w3).alloc (Nat.le_refl _) (.cells #[.int .i64 xk, .int .i64 xm, .string xs, .slice xa xl xc] 30)
      have hR4 := hR3.keep ha4
      have hr4 := hr3.on ha4
      have hA4 := At4.new w3 (.int .i64 xk) (.int .i64 xm) (.string xs) (.slice xa xl xc) 30
      have hs3 := hf3.size
      rw [hs2] at hs3
      have hb4 : Below w.heap.size w (w3.alloc (.cells #[.int .i64 xk, .int .i64 xm, .string xs, .slice xa xl xc] 30)) := (hb2.trans (hf3.below (by omega) (by omega))).alloc (by omega) _
      have hX4 : RdX (fun b => w.heap.size < b) (w3.alloc (.cells #[.int .i64 xk, .int .i64 xm, .string xs, .slice xa xl xc] 30)) x (.agg #[.int .i64 xk, .int .i64 xm, .string xs, .slice xa xl xc]) := hx3.keep (fun b hb hl => ⟨by rw [hs2] at hb; omega, ha4.block b hl⟩)
      obtain ⟨XB, hXB⟩ : ∃ XB, w3.heap.size = XB := ⟨_, rfl⟩
      rw [hXB] at hA4 ⊢
      clear hR0 hb2 hs2 hx3 hr3 hf3 hR3 ha4 hB1 hs3 hXB
      generalize w3.alloc (.cells #[.int .i64 xk, .int .i64 xm, .string xs, .slice xa xl xc] 30) = w4 at *
      obtain ⟨c0, c1, c2, _, _, hL4⟩ := id hr4
      obtain ⟨r0, r1, r2, r3, r4, r5, r6, r7⟩ := id hR4
      obtain ⟨a0, a1, a2, a3⟩ := id hA4
      clear hL4
      have hF4 := hFm w4 (hT.below hb4 (Nat.le_refl _)) _ hX4
      go_wp2_with (first
        | (go_at_call 23; refine hF4.mono ?_; rintro e w5 ⟨rfl, b5⟩))
      have hR5 := hR4.keep b5
      have hr5 := hr4.on b5
      have hA5 := hA4.keepB b5 (World.block_lt_of_cell? w4 _ hA4.1)
      have hb5 := hb4.trans (b5.mono hb4.size)
      have hX5 : RdX (fun b => w.heap.size < b) w5 x (.agg #[.int .i64 xk, .int .i64 xm, .string xs, .slice xa xl xc]) := hX4.keep (fun b hb hl => ⟨hb, b5.block b hl⟩)
      clear c0 c1 c2 r0 r1 r2 r3 r4 r5 r6 r7 a0 a1 a2 a3 hF4 hFm hR4 hr4 hA4 hb4 hX4 b5
      obtain ⟨c0, c1, c2, _, _, hL4⟩ := id hr5
      obtain ⟨r0, r1, r2, r3, r4, r5, r6, r7⟩ := id hR5
      obtain ⟨a0, a1, a2, a3⟩ := id hA5
      clear hL4
      go_region
      all_goals go_wp2
      all_goals exact bodyPost_ret (take_res ((hR5.put (.int .i64 xk) (.int .i64 xm) (.string xs) (.slice xa xl xc)).keep ((Below.refl _ _).drew)) rfl rfl rfl) rfl ⟨_, rfl, hX5.keep (fun b hb hl => ⟨Nat.le_of_lt hb, heap_put (by omega) _ _ _ _⟩), ((below_put hb5 (Nat.le_refl _) _ _ _ _).drew)⟩
    | false =>
      rw [if_neg (by decide)]
      go_enter Tryd.func13, Tryd.ntmps13
      go_upto_region 3 with (first
        | (go_at_call 22; refine hB1.mono ?_; rintro e w3 ⟨v, rfl, hx3, hr3, hf3⟩; obtain ⟨xk, xm, xs, xa, xl, xc, rfl⟩ := hx3.form))
      have hR3 := hR0.fx hf3 (by omega)
      have ha4 := (Below.refl w3.heap.size w3).alloc (Nat.le_refl _) (.cells #[.int .i64 xk, .int .i64 xm, .string xs, .slice xa xl xc] 30)
      have hR4 := hR3.keep ha4
      have hr4 := hr3.on ha4
      have hA4 := At4.new w3 (.int .i64 xk) (.int .i64 xm) (.string xs) (.slice xa xl xc) 30
      have hs3 := hf3.size
      rw [hs2] at hs3
      have hb4 : Below w.heap.size w (w3.alloc (.cells #[.int .i64 xk, .int .i64 xm, .string xs, .slice xa xl xc] 30)) := (hb2.trans (hf3.below (by omega) (by omega))).alloc (by omega) _
      have hX4 : RdX (fun b => w.heap.size < b) (w3.alloc (.cells #[.int .i64 xk, .int .i64 xm, .string xs, .slice xa xl xc] 30)) x (.agg #[.int .i64 xk, .int .i64 xm, .string xs, .slice xa xl xc]) := hx3.keep (fun b hb hl => ⟨by rw [hs2] at hb; omega, ha4.block b hl⟩)
      obtain ⟨XB, hXB⟩ : ∃ XB, w3.heap.size = XB := ⟨_, rfl⟩
      rw [hXB] at hA4 ⊢
      clear hR0 hb2 hs2 hx3 hr3 hf3 hR3 ha4 hB1 hs3 hXB
      generalize w3.alloc (.cells #[.int .i64 xk, .int .i64 xm, .string xs, .slice xa xl xc] 30) = w4 at *
      obtain ⟨c0, c1, c2, _, _, hL4⟩ := id hr4
      obtain ⟨r0, r1, r2, r3, r4, r5, r6, r7⟩ := id hR4
      obtain ⟨a0, a1, a2, a3⟩ := id hA4
      clear hL4
      have hF4 := hFm w4 (hT.below hb4 (Nat.le_refl _)) _ hX4
      go_wp2_with (first
        | (go_at_call 23; refine hF4.mono ?_; rintro e w5 ⟨rfl, b5⟩; have hR5 := hR4.keep b5; have hb5 := hb4.trans (b5.mono hb4.size); obtain ⟨r0, r1, r2, r3, r4, r5, r6, r7⟩ := id hR5))
      exact bodyPost_ret (take_res (hR5.put _ _ _ _) rfl rfl rfl) rfl ⟨_, rfl, rdX_no _ _, below_put hb5 (Nat.le_refl _) _ _ _ _⟩
end Go.Proofs.YtiddccohldjjcaaDoor
