import Derived.Test.YtccmmkhcacglhaaGreatDoorWka03
import Derived.Test.YtccmmkhcacglhaaGreatDoorWkc05
import Derived.Test.YtccmmkhcacglhaaGreatDoorWkc04
import Derived.Deep.DeepCutAuto
import Derived.Deep.RegionHeldLaw
import Derived.Test.YtccmmkhcacglhaaGreatDoorWka01
import Derived.Test.YtccmmkhcacglhaaGreatDoorWka02

/- What the document's Take does. -/
namespace Go.Proofs.YtccmmkhcacglhaaGreatDoor
open Go.RowKit Go.Lib
set_option linter.unusedSimpArgs false
set_option linter.unusedVariables false
attribute [local go_sem ↓] Go.wp_at_zero Go.wp_at_succ

theorem addr_plainR (g i : Nat) : (⟨g, 0, none⟩ : Addr).add i = ⟨g, i, none⟩ := by unfold Addr.add; split <;> simp_all
theorem celsW_atR (ws : List Wd) (i : Nat) (h : i < ws.length) : (celsW ws)[i * 4]? = some (.int .i64 ((ws[i]).1 : Int)) ∧ (celsW ws)[i * 4 + 1]? = some (.string (txt (ws[i]).2.1)) ∧ (celsW ws)[i * 4 + 2]? = some (.int .i64 (ws[i]).2.2.1) ∧ (celsW ws)[i * 4 + 3]? = some (.int .i64 (ws[i]).2.2.2) := by
  induction ws generalizing i with
  | nil => simp at h
  | cons x t ih =>
    cases i with
    | zero => exact ⟨rfl, rfl, rfl, rfl⟩
    | succ k =>
      have hk := ih k (by simpa using h)
      have e : ∀ j, (celsW (x :: t))[(k + 1) * 4 + j]? = (celsW t)[k * 4 + j]? := fun j => by
        show (celW x ++ celsW t)[(k + 1) * 4 + j]? = _
        rw [List.getElem?_append_right (by simp [celW]; omega)]
        congr 1
        simp [celW]; omega
      exact ⟨(e 0).trans hk.1, (e 1).trans hk.2.1, (e 2).trans hk.2.2.1, (e 3).trans hk.2.2.2⟩
theorem ownW_rdR {w : World} {base e : Nat} {v : Value} {ws : List Wd} (h : OwnW w base e v ws) : ∃ a cap, v = .slice a ws.length cap ∧ ws.length ≤ cap ∧ cap ≤ maxLen ∧ ∀ X, w.heap.size ≤ X → RdL w X a ws := by
  have hc := fun g => World.ownsRow.cells h (g := g)
  rcases h.2 with ⟨h1, h2⟩ | ⟨g, cap, cur, rfl, hb, hg, h3, h4, _⟩
  · exact ⟨none, 0, by rw [h1, h2], by omega, by simp [maxLen], fun X _ i hi => by omega⟩
  · refine ⟨_, _, rfl, h3, h4, fun X hX i hi => ⟨g, 0, rfl, by have := (Array.getElem?_eq_some_iff.1 hg).1; omega, ?_⟩⟩
    obtain ⟨e0, e1, e2, e3⟩ := celsW_atR ws i hi
    have c0 := hc g rfl _ _ e0
    have c1 := hc g rfl _ _ e1
    have c2 := hc g rfl _ _ e2
    have c3 := hc g rfl _ _ e3
    rw [addr_plainR] at c0 c1 c2 c3
    rw [Nat.zero_add]
    exact ⟨c0, c1, c2, c3⟩
theorem stop_snd (y : Yd) (n : Nat) : (stopY y n).2 = n := by unfold stopY; split <;> rfl
theorem runY_le (leaf : Tk → Option Sx) : ∀ (r : List Tk) (y : Yd) (n : Nat), (runY leaf y r n).2 ≤ n + r.length
  | [], y, n => by show (stopY y n).2 ≤ _; rw [stop_snd]; omega
  | w :: r, y, n => by
    unfold runY
    split
    · have := runY_le leaf r (stp leaf y w).1 (n + 1)
      rw [List.length_cons]; omega
    · rw [stop_snd]; omega
theorem place_le {ws : List Wd} (h : ∀ w ∈ ws, OneW w.1 w.2.1) (hb : (rdC (ws.map tkW)).2.2 < 0) : (rdC (ws.map tkW)).2.1 ≤ ws.length := by
  have hy := yard_psr (nb := valB 0) (rsv := rsvB) (l := ws.map tkW) (good_all h) (f := 7 * (ws.map tkW).length + 6) (by omega)
  have e : psr (valB 0) rsvB (ws.map tkW) (7 * (ws.map tkW).length + 6) 1 0 (-1) = rdC (ws.map tkW) := rfl
  rw [e, if_pos hb] at hy
  have := runY_le (leafY (valB 0) rsvB) (ws.map tkW) ⟨[], [], 0, false⟩ 0
  have h2 : rnY (leafY (valB 0) rsvB) (ws.map tkW) ⟨[], [], 0, false⟩ 0 = runY (leafY (valB 0) rsvB) ⟨[], [], 0, false⟩ (ws.map tkW) 0 := rfl
  rw [← h2, hy, List.length_map] at this
  simpa using this
theorem take_res {w4 : World} {R : Nat} {a b c e x3 x4 : Value} {tmps : Array Value} (hB : B4 w4 R a b c e) (ht : tmps.getD 2 undef = .pointer (some ⟨R, 0, none⟩)) (h3 : tmps.getD 3 undef = x3) (h4 : tmps.getD 4 undef = x4) : (results Tryz.f151 tmps).run Tryz.prog w4 = .ok (.tuple #[.agg #[a, b, c, e], x3, x4]) w4 := by
  obtain ⟨c0, c1, c2, c3, _, _, _, _⟩ := hB
  have ht' : tmps[2]?.getD undef = .pointer (some ⟨R, 0, none⟩) := by simpa using ht
  have h3' : tmps[3]?.getD undef = x3 := by simpa using h3
  have h4' : tmps[4]?.getD undef = x4 := by simpa using h4
  simp [results, Tryz.results151, go_sem, ht', h3', h4', c0, c1, c2, c3]
set_option maxRecDepth 100000 in
set_option maxHeartbeats 4000000 in
theorem rTake_rd {w : World} {a : Option Addr} {cap : Nat} {ws : List Wd} (hT : Tabs w) (q1 : ws.length ≤ cap) (q2 : cap ≤ maxLen) (hL : ∀ X, w.heap.size ≤ X → RdL w X a ws) (h1 : ∀ x ∈ ws, OneW x.1 x.2.1) (hl : ws.length ≤ 3000) :
    Calls Tryz.prog 151 #[.slice a ws.length cap] w fun e w' => ∃ u, e = .returned (.tuple #[u, .int .i64 ((takeC (ws.map tkW)).2.1 : Int), .int .i64 (takeC (ws.map tkW)).2.2]) ∧ RdX (fun b => w.heap.size ≤ b) w' (takeC (ws.map tkW)).1 u ∧ Below w.heap.size w w' := by
  have hB := fun X w1 (hr : Rr w1 X a cap ws 0 (-1)) => (rd_any ws (7 * (ws.map tkW).length + 6)).2 X a cap 0 1 w1 ⟨hl, q1, q2, h1⟩ (by omega) (by omega) (by rw [List.length_map]; omega) hr
  have e : psW ws (7 * (ws.map tkW).length + 6) 1 0 = rdC (ws.map tkW) := rfl
  have hf : BadOr _ 0 (rdC (ws.map tkW)) := fine_read h1 _ 1 0 (by omega) (by omega)
  have hpl := place_le h1
  unfold takeC
  simp only [e] at hB
  obtain ⟨⟨x, n1, b1⟩, hR⟩ : ∃ r, rdC (ws.map tkW) = r := ⟨_, rfl⟩
  rw [hR] at hf hpl
  simp only [hR] at hB ⊢
  have hr0 : Rr ((w.alloc zN).alloc (.cells #[.slice a ws.length cap, .int .i64 0, .int .i64 (-1)] 243)) (w.heap.size + 1) a cap ws 0 (-1) := by
    have hb2 : Below w.heap.size w ((w.alloc zN).alloc (.cells #[.slice a ws.length cap, .int .i64 0, .int .i64 (-1)] 243)) := ((Below.refl _ _).alloc (Nat.le_refl _) _).alloc (by simp) _
    have hsz : (w.alloc zN).heap.size = w.heap.size + 1 := by simp
    have hc : ∀ i (u : Value), (#[.slice a ws.length cap, .int .i64 0, .int .i64 (-1)] : Array Value)[i]? = some u → ((w.alloc zN).alloc (.cells #[.slice a ws.length cap, .int .i64 0, .int .i64 (-1)] 243)).cell? ⟨w.heap.size + 1, i, none⟩ = some u := fun i u hu => by
      rw [← hsz]
      exact (cell_of_row _ _ i _ _ (0, 0) (heap_alloc_new _ _)).trans hu
    have hfz : ∀ i, ((w.alloc zN).alloc (.cells #[.slice a ws.length cap, .int .i64 0, .int .i64 (-1)] 243)).frozen? ⟨w.heap.size + 1, i, none⟩ = false := fun i => by
      rw [← hsz]
      exact frozen_of_row _ _ i _ _ (heap_alloc_new _ _)
    refine ⟨hc 0 _ rfl, hc 1 _ rfl, hc 2 _ rfl, hfz 1, hfz 2, fun i hi => ?_⟩
    obtain ⟨g, off, h1, h2, c0, c1, c2, c3⟩ := hL w.heap.size (Nat.le_refl _) i hi
    exact ⟨g, off, h1, by omega, (hb2.cell (p := ⟨g, off + i * 4, none⟩) h2).trans c0, (hb2.cell (p := ⟨g, off + i * 4 + 1, none⟩) h2).trans c1, (hb2.cell (p := ⟨g, off + i * 4 + 2, none⟩) h2).trans c2, (hb2.cell (p := ⟨g, off + i * 4 + 3, none⟩) h2).trans c3⟩
  have hB1 := hB _ _ hr0
  have hb2 : Below w.heap.size w ((w.alloc zN).alloc (.cells #[.slice a ws.length cap, .int .i64 0, .int .i64 (-1)] 243)) := ((Below.refl _ _).alloc (Nat.le_refl _) _).alloc (by simp) _
  have hs2 : ((w.alloc zN).alloc (.cells #[.slice a ws.length cap, .int .i64 0, .int .i64 (-1)] 243)).heap.size = w.heap.size + 2 := by simp
  have hR0 : B4 ((w.alloc zN).alloc (.cells #[.slice a ws.length cap, .int .i64 0, .int .i64 (-1)] 243)) w.heap.size (.int .i64 0) (.int .i64 0) (.string ⟨#[]⟩) (.slice none 0 0) := (B4.new w _ _ _ _ _ _ rfl).keep ((Below.refl _ _).alloc (Nat.le_refl _) _)
  clear e hR hL hB hr0 h1 q1 q2
  by_cases hb : 0 ≤ b1
  · rw [if_pos hb]
    have hbn : ((b1.toNat : Nat) : Int) = b1 := Int.toNat_of_nonneg hb
    simp only [hbn]
    go_enter Tryz.func151, Tryz.ntmps151
    go_upto_region 3 with (first
      | (go_at_call 176; refine hB1.mono ?_; rintro e w3 ⟨v, rfl, hx3, hr3, hf3⟩; obtain ⟨xk, xm, xs, xa, xl, xc, rfl⟩ := hx3.form))
    have hR3 := hR0.fx hf3 (by omega)
    have ha4 := (Below.refl w3.heap.size w3).alloc (Nat.le_refl _) (.cells #[.int .i64 xk, .int .i64 xm, .string xs, .slice xa xl xc] 132)
    have hR4 := hR3.keep ha4
    have hr4 := hr3.on ha4
    have hA4 := At4.new w3 (.int .i64 xk) (.int .i64 xm) (.string xs) (.slice xa xl xc) 132
    have hs3 := hf3.size
    rw [hs2] at hs3
    have hb4 : Below w.heap.size w (w3.alloc (.cells #[.int .i64 xk, .int .i64 xm, .string xs, .slice xa xl xc] 132)) := (hb2.trans (hf3.below (by omega) (by omega))).alloc (by omega) _
    have hX4 : RdX (fun b => w.heap.size < b) (w3.alloc (.cells #[.int .i64 xk, .int .i64 xm, .string xs, .slice xa xl xc] 132)) x (.agg #[.int .i64 xk, .int .i64 xm, .string xs, .slice xa xl xc]) := hx3.keep (fun b hb hl => ⟨by rw [hs2] at hb; omega, ha4.block b hl⟩)
    obtain ⟨XB, hXB⟩ : ∃ XB, w3.heap.size = XB := ⟨_, rfl⟩
    rw [hXB] at hA4 ⊢
    clear hR0 hb2 hs2 hx3 hr3 hf3 hR3 ha4 hB1 hs3 hXB
    generalize w3.alloc (.cells #[.int .i64 xk, .int .i64 xm, .string xs, .slice xa xl xc] 132) = w4 at *
    obtain ⟨c0, c1, c2, _, _, hL4⟩ := id hr4
    obtain ⟨r0, r1, r2, r3, r4, r5, r6, r7⟩ := id hR4
    obtain ⟨a0, a1, a2, a3⟩ := id hA4
    clear hL4
    go_wp2
    go_region
    all_goals go_wp2
    all_goals exact bodyPost_ret (take_res ((hR4.put (.int .i64 0) (.int .i64 0) (.string ⟨#[]⟩) (.slice none 0 0)).keep ((Below.refl _ _).drew)) rfl rfl rfl) rfl ⟨_, rfl, rdX_no _ _, ((below_put hb4 (Nat.le_refl _) _ _ _ _).drew)⟩
  · rw [if_neg hb]
    obtain ⟨hb1, hfine, hcnt⟩ : b1 = -1 ∧ Fine x ∧ 0 + cntX x ≤ n1 := by
      rcases hf with ⟨p1, p2⟩ | p1
      · exact ⟨p1, p2⟩
      · exact absurd p1 hb
    subst hb1
    have hn1 : n1 ≤ 100000 := by have := hpl (by show (-1 : Int) < 0; decide); simp only at this; omega
    have hFm := fun w1 (hT1 : Tabs w1) v1 (h : RdX (fun b => w.heap.size < b) w1 x v1) => formed_any hT1 h (by unfold cntX at hcnt; omega) hfine.sh
    obtain ⟨fb, hfb⟩ : ∃ fb, fmX x = fb := ⟨_, rfl⟩
    rw [hfb]
    have hFm : ∀ w1, Tabs w1 → ∀ v1, RdX (fun b => w.heap.size < b) w1 x v1 → Calls Tryz.prog 143 #[v1] w1 fun e w' => e = .returned (.bool fb) ∧ Below w1.heap.size w1 w' := fun w1 h1 v1 h2 => by rw [← hfb]; exact hFm w1 h1 v1 h2
    cases fb with
    | true =>
      rw [if_pos rfl]
      go_enter Tryz.func151, Tryz.ntmps151
      go_upto_region 3 with (first
        | (go_at_call 176; refine hB1.mono ?_; rintro e w3 ⟨v, rfl, hx3, hr3, hf3⟩; obtain ⟨xk, xm, xs, xa, xl, xc, rfl⟩ := hx3.form))
      have hR3 := hR0.fx hf3 (by omega)
      have ha4 := (Below.refl w3.heap.size w3).alloc (Nat.le_refl _) (.cells #[.int .i64 xk, .int .i64 xm, .string xs, .slice xa xl xc] 132)
      have hR4 := hR3.keep ha4
      have hr4 := hr3.on ha4
      have hA4 := At4.new w3 (.int .i64 xk) (.int .i64 xm) (.string xs) (.slice xa xl xc) 132
      have hs3 := hf3.size
      rw [hs2] at hs3
      have hb4 : Below w.heap.size w (w3.alloc (.cells #[.int .i64 xk, .int .i64 xm, .string xs, .slice xa xl xc] 132)) := (hb2.trans (hf3.below (by omega) (by omega))).alloc (by omega) _
      have hX4 : RdX (fun b => w.heap.size < b) (w3.alloc (.cells #[.int .i64 xk, .int .i64 xm, .string xs, .slice xa xl xc] 132)) x (.agg #[.int .i64 xk, .int .i64 xm, .string xs, .slice xa xl xc]) := hx3.keep (fun b hb hl => ⟨by rw [hs2] at hb; omega, ha4.block b hl⟩)
      obtain ⟨XB, hXB⟩ : ∃ XB, w3.heap.size = XB := ⟨_, rfl⟩
      rw [hXB] at hA4 ⊢
      clear hR0 hb2 hs2 hx3 hr3 hf3 hR3 ha4 hB1 hs3 hXB
      generalize w3.alloc (.cells #[.int .i64 xk, .int .i64 xm, .string xs, .slice xa xl xc] 132) = w4 at *
      obtain ⟨c0, c1, c2, _, _, hL4⟩ := id hr4
      obtain ⟨r0, r1, r2, r3, r4, r5, r6, r7⟩ := id hR4
      obtain ⟨a0, a1, a2, a3⟩ := id hA4
      clear hL4
      have hF4 := hFm w4 (hT.below hb4 (Nat.le_refl _)) _ hX4
      go_wp2_with (first
        | (go_at_call 143; refine hF4.mono ?_; rintro e w5 ⟨rfl, b5⟩))
      have hR5 := hR4.keep b5
      have hr5 := hr4.on b5
      have hA5 := hA4.keepB b5 (World.block_lt_of_cell? w4 _ hA4.1)
      have hb5 := hb4.trans (b5.mono hb4.size)
      have hX5 : RdX (fun b => w.heap.size < b) w5 x (.agg #[.int .i64 xk, .int .i64 xm, .string xs, .slice xa xl xc]) := hX4.keep (fun b hb hl => ⟨hb, b5.block b hl⟩)
      clear c0 c1 c2 r0 r1 r2 r3 r4 r5 r6 r7 a0 a1 a2 a3 hF4 hFm hR4 hr4 hA4 hb4 hX4 b5
      obtain ⟨c0, c1, c2, _, _, hL4⟩ := id hr5
      obtain ⟨r0, r1, r2, r3, r4, r5, r6, r7⟩ := id hR5
      obtain ⟨a0, a1, a2, a3⟩ := id hA5
      clear hL4
      go_region
      all_goals go_wp2
      all_goals exact bodyPost_ret (take_res ((hR5.put (.int .i64 xk) (.int .i64 xm) (.string xs) (.slice xa xl xc)).keep ((Below.refl _ _).drew)) rfl rfl rfl) rfl ⟨_, rfl, hX5.keep (fun b hb hl => ⟨Nat.le_of_lt hb, heap_put (by omega) _ _ _ _⟩), ((below_put hb5 (Nat.le_refl _) _ _ _ _).drew)⟩
    | false =>
      rw [if_neg (by decide)]
      go_enter Tryz.func151, Tryz.ntmps151
      go_upto_region 3 with (first
        | (go_at_call 176; refine hB1.mono ?_; rintro e w3 ⟨v, rfl, hx3, hr3, hf3⟩; obtain ⟨xk, xm, xs, xa, xl, xc, rfl⟩ := hx3.form))
      have hR3 := hR0.fx hf3 (by omega)
      have ha4 := (Below.refl w3.heap.size w3).alloc (Nat.le_refl _) (.cells #[.int .i64 xk, .int .i64 xm, .string xs, .slice xa xl xc] 132)
      have hR4 := hR3.keep ha4
      have hr4 := hr3.on ha4
      have hA4 := At4.new w3 (.int .i64 xk) (.int .i64 xm) (.string xs) (.slice xa xl xc) 132
      have hs3 := hf3.size
      rw [hs2] at hs3
      have hb4 : Below w.heap.size w (w3.alloc (.cells #[.int .i64 xk, .int .i64 xm, .string xs, .slice xa xl xc] 132)) := (hb2.trans (hf3.below (by omega) (by omega))).alloc (by omega) _
      have hX4 : RdX (fun b => w.heap.size < b) (w3.alloc (.cells #[.int .i64 xk, .int .i64 xm, .string xs, .slice xa xl xc] 132)) x (.agg #[.int .i64 xk, .int .i64 xm, .string xs, .slice xa xl xc]) := hx3.keep (fun b hb hl => ⟨by rw [hs2] at hb; omega, ha4.block b hl⟩)
      obtain ⟨XB, hXB⟩ : ∃ XB, w3.heap.size = XB := ⟨_, rfl⟩
      rw [hXB] at hA4 ⊢
      clear hR0 hb2 hs2 hx3 hr3 hf3 hR3 ha4 hB1 hs3 hXB
      generalize w3.alloc (.cells #[.int .i64 xk, .int .i64 xm, .string xs, .slice xa xl xc] 132) = w4 at *
      obtain ⟨c0, c1, c2, _, _, hL4⟩ := id hr4
      obtain ⟨r0, r1, r2, r3, r4, r5, r6, r7⟩ := id hR4
      obtain ⟨a0, a1, a2, a3⟩ := id hA4
      clear hL4
      have hF4 := hFm w4 (hT.below hb4 (Nat.le_refl _)) _ hX4
      go_wp2_with (first
        | (go_at_call 143; refine hF4.mono ?_; rintro e w5 ⟨rfl, b5⟩; have hR5 := hR4.keep b5; have hb5 := hb4.trans (b5.mono hb4.size); obtain ⟨r0, r1, r2, r3, r4, r5, r6, r7⟩ := id hR5))
      exact bodyPost_ret (take_res (hR5.put _ _ _ _) rfl rfl rfl) rfl ⟨_, rfl, rdX_no _ _, below_put hb5 (Nat.le_refl _) _ _ _ _⟩
end Go.Proofs.YtccmmkhcacglhaaGreatDoor

/- The document's reader of charts in memory; what its fail, here, is and take do. -/
namespace Go.Proofs.YtccmmkhcacglhaaGreatDoor
open Go.RowKit Go.Lib
set_option linter.unusedSimpArgs false
set_option linter.unusedVariables false
attribute [local go_sem ↓] Go.wp_at_zero Go.wp_at_succ

def drV (a : Option Addr) (cap : Nat) (fin : Pl) (r : RsC) : List Value := [.slice a r.1.length cap, .int .i64 fin.1, .int .i64 fin.2, .int .i64 r.2.1.1, .int .i64 r.2.1.2, .int .i64 r.2.2]
/-- The document's reader in block X. -/
structure Dr (w : World) (X : Nat) (fin : Pl) (r : RsC) (a : Option Addr) (cap : Nat) : Prop where
  b : Bn w X (drV a cap fin r)
  l : RdL w X a r.1
  c : r.1.length ≤ cap
  m : cap ≤ maxLen
  n : r.1.length ≤ 3000
  o : ∀ x ∈ r.1, OneW x.1 x.2.1
theorem Dr.lt {w : World} {X : Nat} {fin : Pl} {r : RsC} {a : Option Addr} {cap : Nat} (h : Dr w X fin r a cap) : X < w.heap.size := World.block_lt_of_cell? w _ (h.b 0 _ rfl).1
theorem RdL.keepB {w w' : World} {X B : Nat} {a : Option Addr} {ws : List Wd} (h : RdL w X a ws) (hb : Below B w w') (hX : X ≤ B) : RdL w' X a ws := fun i hi => by
  obtain ⟨g, off, h1, h2, d0, d1, d2, d3⟩ := h i hi
  have hg : g < B := Nat.lt_of_lt_of_le h2 hX
  exact ⟨g, off, h1, h2, (hb.cell (p := ⟨g, off + i * 4, none⟩) hg).trans d0, (hb.cell (p := ⟨g, off + i * 4 + 1, none⟩) hg).trans d1, (hb.cell (p := ⟨g, off + i * 4 + 2, none⟩) hg).trans d2, (hb.cell (p := ⟨g, off + i * 4 + 3, none⟩) hg).trans d3⟩
theorem Dr.belowB {w w' : World} {X B : Nat} {fin : Pl} {r : RsC} {a : Option Addr} {cap : Nat} (h : Dr w X fin r a cap) (hb : Below B w w') (hX : X < B) : Dr w' X fin r a cap :=
  ⟨h.b.blk (hb.block X hX), h.l.keepB hb (by omega), h.c, h.m, h.n, h.o⟩
theorem Dr.on {w w' : World} {X : Nat} {fin : Pl} {r : RsC} {a : Option Addr} {cap : Nat} (h : Dr w X fin r a cap) (hb : Below w.heap.size w w') : Dr w' X fin r a cap := h.belowB hb h.lt
theorem RdL.far {w : World} {X Y i : Nat} {a : Option Addr} {ws : List Wd} (h : RdL w X a ws) (hY : X ≤ Y) (u : Value) : RdL (w.setCell ⟨Y, i, none⟩ u) X a ws := fun j hj => by
  obtain ⟨g, off, h1, h3, d0, d1, d2, d3⟩ := h j hj
  exact ⟨g, off, h1, h3, cell_far4 (by omega) d0, cell_far4 (by omega) d1, cell_far4 (by omega) d2, cell_far4 (by omega) d3⟩
theorem Dr.far {w : World} {X Y i : Nat} {fin : Pl} {r : RsC} {a : Option Addr} {cap : Nat} (h : Dr w X fin r a cap) (hY : X < Y) (u : Value) : Dr (w.setCell ⟨Y, i, none⟩ u) X fin r a cap :=
  ⟨h.b.far (by omega) u, h.l.far (by omega) u, h.c, h.m, h.n, h.o⟩
/-- The reader, wherever its words lie. -/
def DR (w : World) (X : Nat) (fin : Pl) (r : RsC) : Prop := ∃ a cap, Dr w X fin r a cap
theorem DR.lt {w : World} {X : Nat} {fin : Pl} {r : RsC} (h : DR w X fin r) : X < w.heap.size := by obtain ⟨a, cap, h⟩ := h; exact h.lt
theorem DR.on {w w' : World} {X : Nat} {fin : Pl} {r : RsC} (h : DR w X fin r) (hb : Below w.heap.size w w') : DR w' X fin r := by obtain ⟨a, cap, h⟩ := h; exact ⟨a, cap, h.on hb⟩
theorem DR.belowB {w w' : World} {X B : Nat} {fin : Pl} {r : RsC} (h : DR w X fin r) (hb : Below B w w') (hX : X < B) : DR w' X fin r := by obtain ⟨a, cap, h⟩ := h; exact ⟨a, cap, h.belowB hb hX⟩
theorem DR.far {w : World} {X Y i : Nat} {fin : Pl} {r : RsC} (h : DR w X fin r) (hY : X < Y) (u : Value) : DR (w.setCell ⟨Y, i, none⟩ u) X fin r := by obtain ⟨a, cap, h⟩ := h; exact ⟨a, cap, h.far hY u⟩
set_option maxRecDepth 100000 in
set_option maxHeartbeats 4000000 in
theorem dfail_any {w : World} {X : Nat} {fin : Pl} {r : RsC} {a : Option Addr} {cap : Nat} (h : Dr w X fin r a cap) (e : Int) (p : Pl) :
    Calls Tryz.prog 36 #[.pointer (some ⟨X, 0, none⟩), .int .i64 e, .agg #[.int .i64 p.1, .int .i64 p.2]] w fun x w' => (∃ u, x = .returned u) ∧ Dr w' X fin (failC e p r) a cap ∧ Fx X w w' := by
  obtain ⟨p1, p2⟩ := p
  simp only
  have hX := h.lt
  have hal : Below w.heap.size w (w.alloc (.cells #[.int .i64 p1, .int .i64 p2] 24)) := (Below.refl _ _).alloc (Nat.le_refl _) _
  have hA := At.new w (.int .i64 p1) (.int .i64 p2) 24 _ rfl
  have h1 := h.on hal
  have hF1 : Fx X w (w.alloc (.cells #[.int .i64 p1, .int .i64 p2] 24)) := Fx.of hal (Nat.le_refl _)
  obtain ⟨y0, y1, y2, y3⟩ := id hA
  obtain ⟨c3, f3⟩ := h1.b 3 _ rfl
  obtain ⟨c4, f4⟩ := h1.b 4 _ rfl
  obtain ⟨c5, f5⟩ := h1.b 5 _ rfl
  unfold failC
  obtain ⟨b, hb⟩ : ∃ b, r.2.2 = b := ⟨_, rfl⟩
  rw [hb] at c5 ⊢
  by_cases hz : b = 0
  · rw [if_pos hz]
    have i1 : (b == 0) = true := by simpa using hz
    have hS : Dr ((((w.alloc (.cells #[.int .i64 p1, .int .i64 p2] 24)).setCell ⟨X, 5, none⟩ (.int .i64 e)).setCell ⟨X, 3, none⟩ (.int .i64 p1)).setCell ⟨X, 4, none⟩ (.int .i64 p2)) X fin (r.1, (p1, p2), e) a cap :=
      ⟨((h1.b.set (i := 5) (by simp [drV]) (.int .i64 e)).set (i := 3) (by simp [drV]) (.int .i64 p1)).set (i := 4) (by simp [drV]) (.int .i64 p2), ((h1.l.far (Nat.le_refl _) _).far (Nat.le_refl _) _).far (Nat.le_refl _) _, h.c, h.m, h.n, h.o⟩
    have hF := ((hF1.setX (i := 5) (.int .i64 e)).setX (i := 3) (.int .i64 p1)).setX (i := 4) (.int .i64 p2)
    clear hb hz h h1 hF1 hA hal
    go_enter Tryz.func36, Tryz.ntmps36
    go_upto_region 2 with fail
    generalize w.alloc (.cells #[.int .i64 p1, .int .i64 p2] 24) = w1 at *
    go_region
    go_wp2
    go_end0
    exact ⟨⟨_, rfl⟩, hS.on ((Below.refl _ _).drew), hF.drew⟩
  · rw [if_neg hz]
    have i1 : (b == 0) = false := by simpa using hz
    clear hb hz
    go_enter Tryz.func36, Tryz.ntmps36
    go_wp2
    go_end0
    exact ⟨⟨_, rfl⟩, h1, hF1⟩
theorem here_res {w4 : World} {R : Nat} {a b : Value} {tmps : Array Value} (hA : At w4 R a b) (ht : tmps.getD 2 undef = .pointer (some ⟨R, 0, none⟩)) : (results Tryz.f37 tmps).run Tryz.prog w4 = .ok (.agg #[a, b]) w4 := by
  obtain ⟨h0, h1, _, _⟩ := hA
  have ht' : tmps[2]?.getD undef = .pointer (some ⟨R, 0, none⟩) := by simpa using ht
  simp [results, Tryz.results37, go_sem, ht', h0, h1]
abbrev zPd : Obj := .cells #[.int .i64 0, .int .i64 0] 24
set_option maxRecDepth 100000 in
set_option maxHeartbeats 4000000 in
theorem here_any {w : World} {X : Nat} {fin : Pl} {r : RsC} {a : Option Addr} {cap : Nat} (h : Dr w X fin r a cap) :
    Calls Tryz.prog 37 #[.pointer (some ⟨X, 0, none⟩)] w fun x w' => x = .returned (.agg #[.int .i64 (hereR fin r).1, .int .i64 (hereR fin r).2]) ∧ Below w.heap.size w w' := by
  have hal : Below w.heap.size w (w.alloc zPd) := (Below.refl _ _).alloc (Nat.le_refl _) _
  have hA : At (w.alloc zPd) w.heap.size (.int .i64 0) (.int .i64 0) := At.new w _ _ _ _ rfl
  have h1 := h.on hal
  obtain ⟨y0, y1, y2, y3⟩ := id hA
  obtain ⟨c0, f0⟩ := h1.b 0 _ rfl
  obtain ⟨c1, f1⟩ := h1.b 1 _ rfl
  obtain ⟨c2, f2⟩ := h1.b 2 _ rfl
  have hL := h1.l
  have hcap := h.c
  unfold hereR
  clear h h1
  cases hr : r.1 with
  | nil =>
    rw [hr] at c0
    simp only [List.length_nil] at c0
    clear hL hr hcap
    go_enter Tryz.func37, Tryz.ntmps37
    go_wp2
    exact bodyPost_ret (here_res (At.new w _ _ _ _ rfl) rfl) rfl ⟨rfl, (Below.refl _ _).alloc (Nat.le_refl _) _⟩
  | cons x l =>
    rw [hr] at c0 hL hcap
    obtain ⟨g, off, rfl, hg, d0, d1, d2, d3⟩ := hL 0 (by simp)
    rw [Nat.zero_mul] at d0 d1 d2 d3
    simp only [Nat.add_zero, List.getElem_cons_zero, List.length_cons] at d0 d1 d2 d3 c0 hcap
    unfold wPl
    obtain ⟨K, seg, ln, co⟩ := x
    simp only at d0 d1 d2 d3 ⊢
    have i1 : ((l.length : Int) + 1 == 0) = false := beq_eq_false_iff_ne.2 (by omega)
    have i2 : (0 : Int) < (l.length : Int) + 1 := by omega
    clear hL hr
    go_enter Tryz.func37, Tryz.ntmps37
    go_wp2
    exact bodyPost_ret (here_res (At.new w _ _ _ _ rfl) rfl) rfl ⟨rfl, (Below.refl _ _).alloc (Nat.le_refl _) _⟩
end Go.Proofs.YtccmmkhcacglhaaGreatDoor

/- What the document's is and take do. -/
namespace Go.Proofs.YtccmmkhcacglhaaGreatDoor
open Go.RowKit Go.Lib
set_option linter.unusedSimpArgs false
set_option linter.unusedVariables false
attribute [local go_sem ↓] Go.wp_at_zero Go.wp_at_succ

set_option maxRecDepth 100000 in
set_option maxHeartbeats 4000000 in
theorem dis_any {w : World} {X : Nat} {fin : Pl} {r : RsC} {a : Option Addr} {cap : Nat} (h : Dr w X fin r a cap) (t : List UInt8) :
    Calls Tryz.prog 34 #[.pointer (some ⟨X, 0, none⟩), .string ⟨t.toArray⟩] w fun e w' => e = .returned (.bool (isC t r)) ∧ ∃ m, w' = w.drewN m := by
  obtain ⟨c0, f0⟩ := h.b 0 _ rfl
  obtain ⟨c5, f5⟩ := h.b 5 _ rfl
  have hL := h.l
  have hcap := h.c
  have hlen := h.n
  obtain ⟨b, hb⟩ : ∃ b, r.2.2 = b := ⟨_, rfl⟩
  unfold isC
  rw [hb] at c5 ⊢
  clear h
  by_cases hz : b = 0
  · subst hz
    cases hr : r.1 with
    | cons x l =>
      rw [hr] at c0 hL hcap hlen
      obtain ⟨g, off, rfl, hg, d0, d1, d2, d3⟩ := hL 0 (by simp)
      rw [Nat.zero_mul] at d1
      simp only [Nat.add_zero, List.getElem_cons_zero, List.length_cons] at d1 c0 hcap hlen
      have hd1 : w.cell? ⟨g, off + 1, none⟩ = some (.string ⟨(tkW x).2.toArray⟩) := d1
      obtain ⟨bs, hbs⟩ : ∃ bs, (tkW x).2 = bs := ⟨_, rfl⟩
      simp only [hbs] at hd1 ⊢
      have i1 : (0 : Int) < (l.length : Int) + 1 := by omega
      have i2 : decide ((l.length : Int) + 1 > 0) = true := decide_eq_true (by omega)
      clear d0 d1 d2 d3 hL hbs hr
      by_cases hq : bs = t
      · have i3 : (bs == t) = true := by rw [hq]; simp
        rw [decide_eq_true hq]
        clear hq
        go_enter Tryz.func34, Tryz.ntmps34
        go_wp2
        try go_quiet (fail)
        try go_wp2
        go_ret
        first | exact ⟨rfl, _, rfl⟩ | exact ⟨rfl, 0, rfl⟩
      · have i3 : (bs == t) = false := beq_eq_false_iff_ne.2 hq
        rw [decide_eq_false hq]
        clear hq
        go_enter Tryz.func34, Tryz.ntmps34
        go_wp2
        try go_quiet (fail)
        try go_wp2
        go_ret
        first | exact ⟨rfl, _, rfl⟩ | exact ⟨rfl, 0, rfl⟩
    | nil =>
      rw [hr] at c0
      simp only [List.length_nil, Bool.and_false] at c0 ⊢
      clear hL hr hcap hlen
      go_enter Tryz.func34, Tryz.ntmps34
      go_wp2
      try go_quiet (fail)
      try go_wp2
      go_ret
      first | exact ⟨rfl, _, rfl⟩ | exact ⟨rfl, 0, rfl⟩
  · have i1 : (b == 0) = false := by simpa using hz
    rw [decide_eq_false hz]
    simp only [Bool.false_and]
    clear hL hz hcap hlen
    go_enter Tryz.func34, Tryz.ntmps34
    go_wp2
    try go_quiet (fail)
    try go_wp2
    go_ret
    first | exact ⟨rfl, _, rfl⟩ | exact ⟨rfl, 0, rfl⟩
/-- The words from n on, as a slice. -/
theorem slice_fromR {w : World} {X n : Nat} {a : Option Addr} {cap : Nat} {ws : List Wd} (hL : RdL w X a ws) (hn : n ≤ ws.length) (hc : ws.length ≤ cap) : ∃ a1, (∀ W, (Instr.slice 62 (.slice a ws.length cap) (some (.int .i64 (n : Int))) none none).run Tryz.prog W = .ok (.slice a1 (ws.drop n).length (cap - n)) W) ∧ RdL w X a1 (ws.drop n) := by
  refine ⟨(if cap = n then a else a.map (·.add (n * 4))), fun W => ?_, fun i hi => ?_⟩
  · have h := run_slice_l (P := Tryz.prog) (w := W) (t := 62) (a := a) (len := ws.length) (cap := cap) (ht := by kernel_rfl) .i64 (n : Int) (by omega) (by omega)
    have e : (sizeOf (Tryz.prog.elem 62)).run Tryz.prog W = .ok 4 W := by kernel_rfl
    rw [h, e]
    simp [Result.andThen, sliced]
  · rw [List.length_drop] at hi
    obtain ⟨g, off, rfl, hg, c0, c1, c2, c3⟩ := hL (n + i) (by omega)
    have e : (ws.drop n)[i]'(by rw [List.length_drop]; exact hi) = ws[n + i] := by rw [List.getElem_drop]
    rw [if_neg (by omega), e]
    refine ⟨g, off + n * 4, by simp [Addr.add], hg, ?_, ?_, ?_, ?_⟩
    · rw [show off + n * 4 + i * 4 = off + (n + i) * 4 by omega]; exact c0
    · rw [show off + n * 4 + i * 4 + 1 = off + (n + i) * 4 + 1 by omega]; exact c1
    · rw [show off + n * 4 + i * 4 + 2 = off + (n + i) * 4 + 2 by omega]; exact c2
    · rw [show off + n * 4 + i * 4 + 3 = off + (n + i) * 4 + 3 by omega]; exact c3
/-- The words behind n taken. -/
theorem Dr.cut {w : World} {X : Nat} {fin : Pl} {r : RsC} {a a1 : Option Addr} {cap n : Nat} (h : Dr w X fin r a cap) (hn : n ≤ r.1.length) (hL : RdL w X a1 (r.1.drop n)) : Dr (w.setCell ⟨X, 0, none⟩ (.slice a1 (r.1.drop n).length (cap - n))) X fin (r.1.drop n, r.2) a1 (cap - n) :=
  ⟨h.b.set (i := 0) (by simp [drV]) _, hL.far (Nat.le_refl _) _, by rw [List.length_drop]; have := h.c; show r.1.length - n ≤ cap - n; omega, by have := h.m; omega, by have := h.n; show (r.1.drop n).length ≤ 3000; rw [List.length_drop]; omega, fun x hx => h.o x (List.mem_of_mem_drop hx)⟩
set_option maxRecDepth 100000 in
set_option maxHeartbeats 4000000 in
theorem dtake_any {w : World} {X : Nat} {fin : Pl} {r : RsC} (h : DR w X fin r) (t : List UInt8) :
    Calls Tryz.prog 31 #[.pointer (some ⟨X, 0, none⟩), .string ⟨t.toArray⟩] w fun e w' => (∃ u, e = .returned u) ∧ DR w' X fin (takeR fin t r) ∧ Fx X w w' := by
  obtain ⟨a, cap, h⟩ := h
  have hI := dis_any h t
  cases hi : isC t r with
  | true =>
    rw [hi] at hI
    have e : takeR fin t r = (r.1.drop 1, r.2) := by unfold takeR; rw [if_pos hi, List.drop_one]
    rw [e]
    have hl1 : 1 ≤ r.1.length := by
      unfold isC at hi
      cases hr : r.1 with
      | nil => rw [hr] at hi; simp at hi
      | cons x l => simp
    obtain ⟨a1, hsl, hL1⟩ := slice_fromR h.l hl1 h.c
    have hcut := fun w1 (hd : Dr w1 X fin r a cap) (hL : RdL w1 X a1 (r.1.drop 1)) => hd.cut hl1 hL
    have hsl' : ∀ W, (Instr.slice 62 (.slice a r.1.length cap) (some (.int .i64 1)) none none).run Tryz.prog W = .ok (.slice a1 (r.1.drop 1).length (cap - 1)) W := hsl
    have hX := h.lt
    have HL : Hid (RdL w X a1 (r.1.drop 1)) := hL1
    obtain ⟨n1, hn1⟩ : ∃ n, (r.1.drop 1).length = n := ⟨_, rfl⟩
    simp only [hn1] at hsl' hcut
    clear e hi hsl hL1 hl1 hn1
    go_enter Tryz.func31, Tryz.ntmps31
    go_upto_region 2 with (first
      | (go_at_call 34; refine hI.mono ?_; rintro e w1 ⟨rfl, m, rfl⟩))
    have hd1 := h.on (draws w m)
    have hL2 : RdL (w.drewN m) X a1 (r.1.drop 1) := HL.out.keepB (draws w m) (Nat.le_of_lt hX)
    have hR := hcut _ hd1 hL2
    obtain ⟨c0, f0⟩ := hd1.b 0 _ rfl
    have hF : Fx X w ((w.drewN m).setCell ⟨X, 0, none⟩ (.slice a1 n1 (cap - 1))) := ((Fx.refl X w).drewN m).setX _
    clear hL2 hcut hI hd1
    generalize w.drewN m = w1 at *
    go_wp2
    go_end0
    exact ⟨⟨_, rfl⟩, ⟨_, _, hR⟩, hF⟩
  | false =>
    rw [hi] at hI
    rw [take_not hi]
    have hH := fun w1 (hd : Dr w1 X fin r a cap) => here_any hd
    have hFa := fun w1 (hd : Dr w1 X fin r a cap) => dfail_any hd 12 (hereR fin r)
    go_enter Tryz.func31, Tryz.ntmps31
    go_wp2_with (first
      | (go_at_call 34; refine hI.mono ?_; rintro e w1 ⟨rfl, m, rfl⟩; have hd1 := h.on (draws w m))
      | (go_at_call 37; refine (hH _ hd1).mono ?_; rintro e w2 ⟨rfl, b2⟩; have hd2 := hd1.on b2)
      | (go_at_call 36; refine (hFa _ hd2).mono ?_; rintro e w3 ⟨⟨u, rfl⟩, hd3, hf3⟩))
    exact bodyPost_ret (results_none (by rfl) _ _ _) rfl ⟨⟨_, rfl⟩, ⟨_, _, hd3⟩, (((Fx.refl X w).drewN m).trans (Fx.of b2 (Nat.le_refl _))).trans hf3⟩
end Go.Proofs.YtccmmkhcacglhaaGreatDoor

/- What the document's name and number do. -/
namespace Go.Proofs.YtccmmkhcacglhaaGreatDoor
open Go.RowKit Go.Lib
set_option linter.unusedSimpArgs false
set_option linter.unusedVariables false
attribute [local go_sem ↓] Go.wp_at_zero Go.wp_at_succ

/-- The decoder's tables lie ahead of X, and stay. -/
def Ty (w : World) (X : Nat) : Prop := ∃ w0, Tabs w0 ∧ w0.heap.size ≤ X ∧ Below w0.heap.size w0 w
theorem Ty.tabs {w : World} {X : Nat} (h : Ty w X) : Tabs w := by
  obtain ⟨w0, h1, _, h3⟩ := h
  exact h1.below h3 (Nat.le_refl _)
theorem Ty.fx {w w' : World} {X : Nat} (h : Ty w X) (hf : Fx X w w') : Ty w' X := by
  obtain ⟨w0, h1, h2, h3⟩ := h
  exact ⟨w0, h1, h2, ⟨hf.os.trans h3.os, hf.tape.trans h3.tape, hf.output.trans h3.output, Nat.le_trans h3.size hf.size, fun k hk => (hf.block k (Nat.lt_of_lt_of_le hk h3.size) (fun e => by have : k = X := Option.some.inj e; omega)).trans (h3.block k hk)⟩⟩
theorem Ty.on {w w' : World} {X : Nat} (h : Ty w X) (hb : Below w.heap.size w w') : Ty w' X := h.fx (Fx.of hb (Nat.le_refl _))
theorem Ty.far {w : World} {X Y i : Nat} (h : Ty w X) (hY : X ≤ Y) (u : Value) : Ty (w.setCell ⟨Y, i, none⟩ u) X := by
  obtain ⟨w0, h1, h2, h3⟩ := h
  exact ⟨w0, h1, h2, h3.setCell (by show w0.heap.size ≤ Y; omega) u⟩
theorem Ty.bel {w w' : World} {X B : Nat} (h : Ty w X) (hb : Below B w w') (hX : X < B) : Ty w' X := by
  obtain ⟨w0, h1, h2, h3⟩ := h
  exact ⟨w0, h1, h2, h3.trans (hb.mono (by omega))⟩
set_option maxRecDepth 100000 in
set_option maxHeartbeats 4000000 in
theorem plain_any {w : World} (hT : Tabs w) (s : ByteArray) (hs : s.size ≤ 140737488351232) : Calls Tryz.prog 62 #[.string s] w fun e w' => e = .returned (.bool (plainB (bl s))) ∧ Below w.heap.size w w' := by
  have hN := refName_any s w hT hs
  have hR := fun w1 => rReserved_any s w1
  unfold plainB
  cases hn : nameS (bl s) with
  | true =>
    rw [hn] at hN
    cases hr : rsvB (bl s) with
    | true =>
      simp only [hr] at hR
      go_enter Tryz.func62, Tryz.ntmps62
      go_wp2_with (first
        | (go_at_call 102; refine hN.mono ?_; rintro e w1 ⟨rfl, b1⟩)
        | (go_at_call 103; refine (hR _).mono ?_; rintro e w2 ⟨rfl, rfl⟩))
      go_ret
      exact ⟨rfl, b1⟩
    | false =>
      simp only [hr] at hR
      go_enter Tryz.func62, Tryz.ntmps62
      go_wp2_with (first
        | (go_at_call 102; refine hN.mono ?_; rintro e w1 ⟨rfl, b1⟩)
        | (go_at_call 103; refine (hR _).mono ?_; rintro e w2 ⟨rfl, rfl⟩))
      go_ret
      exact ⟨rfl, b1⟩
  | false =>
    rw [hn] at hN
    go_enter Tryz.func62, Tryz.ntmps62
    go_wp2_with (first
      | (go_at_call 102; refine hN.mono ?_; rintro e w1 ⟨rfl, b1⟩))
    go_ret
    exact ⟨rfl, b1⟩
theorem dname_res {w4 : World} {R : Nat} {a b s : Value} {tmps : Array Value} (hA : At w4 R a b) (ht : tmps.getD 3 undef = .pointer (some ⟨R, 0, none⟩)) (h2 : tmps.getD 2 undef = s) : (results Tryz.f32 tmps).run Tryz.prog w4 = .ok (.tuple #[s, .agg #[a, b]]) w4 := by
  obtain ⟨h0, h1, _, _⟩ := hA
  have ht' : tmps[3]?.getD undef = .pointer (some ⟨R, 0, none⟩) := by simpa using ht
  have h2' : tmps[2]?.getD undef = s := by simpa using h2
  simp [results, Tryz.results32, go_sem, ht', h2', h0, h1]
theorem at_blkD {w w' : World} {N : Nat} {a b : Value} (h : At w N a b) (hb : w'.heap[N]? = w.heap[N]?) : At w' N a b :=
  ⟨keep_cell (p := ⟨N, 0, none⟩) hb h.1, keep_cell (p := ⟨N, 1, none⟩) hb h.2.1, (frozen_of_block hb).trans h.2.2.1, (frozen_of_block hb).trans h.2.2.2⟩
theorem at_fx {w w' : World} {X N : Nat} {a b : Value} (h : At w N a b) (hf : Fx X w w') (hN : N ≠ X) : At w' N a b := at_blkD h (hf.block N (World.block_lt_of_cell? w _ h.1) (fun e => hN (Option.some.inj e)))
/-- The next word's cells. -/
theorem Dr.word {w : World} {X : Nat} {fin : Pl} {r : RsC} {a : Option Addr} {cap : Nat} (h : Dr w X fin r a cap) {x : Wd} {l : List Wd} (hr : r.1 = x :: l) : ∃ g off, a = some ⟨g, off, none⟩ ∧ g < X ∧ w.cell? ⟨g, off, none⟩ = some (.int .i64 (x.1 : Int)) ∧ w.cell? ⟨g, off + 1, none⟩ = some (.string (txt x.2.1)) ∧ w.cell? ⟨g, off + 2, none⟩ = some (.int .i64 x.2.2.1) ∧ w.cell? ⟨g, off + 3, none⟩ = some (.int .i64 x.2.2.2) ∧ OneW x.1 x.2.1 := by
  have hL := h.l
  have ho := h.o x (by rw [hr]; exact List.mem_cons_self ..)
  rw [hr] at hL
  obtain ⟨g, off, h1, h2, d0, d1, d2, d3⟩ := hL 0 (by simp)
  rw [Nat.zero_mul] at d0 d1 d2 d3
  simp only [Nat.add_zero, List.getElem_cons_zero] at d0 d1 d2 d3
  exact ⟨g, off, h1, h2, d0, d1, d2, d3, ho⟩
set_option maxRecDepth 100000 in
set_option maxHeartbeats 4000000 in
theorem dname_any {w : World} {X : Nat} {fin : Pl} {r : RsC} (h : DR w X fin r) (hT : Ty w X) :
    Calls Tryz.prog 32 #[.pointer (some ⟨X, 0, none⟩)] w fun e w' => e = .returned (.tuple #[.string ⟨(nameR fin r).1.1.toArray⟩, .agg #[.int .i64 (nameR fin r).1.2.1, .int .i64 (nameR fin r).1.2.2]]) ∧ DR w' X fin (nameR fin r).2 ∧ Fx X w w' := by
  obtain ⟨a, cap, h⟩ := h
  have hX := h.lt
  have hal : Below w.heap.size w (w.alloc zPd) := (Below.refl _ _).alloc (Nat.le_refl _) _
  have hA : At (w.alloc zPd) w.heap.size (.int .i64 0) (.int .i64 0) := At.new w _ _ _ _ rfl
  have h1 := h.on hal
  have hT1 := hT.on hal
  have hF1 : Fx X w (w.alloc zPd) := Fx.of hal (Nat.le_refl _)
  obtain ⟨c0, f0⟩ := h1.b 0 _ rfl
  obtain ⟨c5, f5⟩ := h1.b 5 _ rfl
  have hH := fun w1 (hd : Dr w1 X fin r a cap) => here_any hd
  have hFa := fun w1 (hd : Dr w1 X fin r a cap) => dfail_any hd 12 (hereR fin r)
  obtain ⟨RES, hRES⟩ : ∃ x, nameR fin r = x := ⟨_, rfl⟩
  rw [hRES]
  unfold nameR at hRES
  obtain ⟨b, hb⟩ : ∃ b, r.2.2 = b := ⟨_, rfl⟩
  rw [hb] at c5
  have hcap := h.c
  -- the end with an error
  have HE : Hid (∀ w3, Dr w3 X fin (failC 12 (hereR fin r) r) a cap → RES = (([], (0, 0)), failC 12 (hereR fin r) r) → DR w3 X fin RES.2) := fun w3 hd e => by rw [e]; exact ⟨a, cap, hd⟩
  by_cases hz : b = 0
  · subst hz
    cases hr : r.1 with
    | nil =>
      rw [hr] at c0 hRES
      simp only [List.length_nil] at c0
      have HR : Hid ((([], (0, 0)), failC 12 (hereR fin r) r) = RES) := hRES
      clear hRES hr hcap hal hT hT1
      go_enter Tryz.func32, Tryz.ntmps32
      go_upto_region 1 with fail
      generalize w.alloc zPd = w0 at *
      go_upto_region 3 with (first
        | (go_at_call 37; refine (hH _ h1).mono ?_; rintro e w2 ⟨rfl, b2⟩; have hd2 := h1.on b2)
        | (go_at_call 36; refine (hFa _ hd2).mono ?_; rintro e w3 ⟨⟨u, rfl⟩, hd3, hf3⟩))
      have hA3 := at_fx (hA.keep b2) hf3 (by omega)
      have hF3 := (hF1.trans (Fx.of b2 (Nat.le_refl _))).trans hf3
      obtain ⟨y0, y1, y2, y3⟩ := id hA3
      go_wp2
      have hv := HR.out
      subst hv
      exact bodyPost_ret (dname_res ((hA3.set0 _).set1 _) rfl rfl) rfl ⟨rfl, ⟨a, cap, (hd3.far hX _).far hX _⟩, (hF3.setN (Nat.le_refl _) _).setN (Nat.le_refl _) _⟩
    | cons x l =>
      obtain ⟨g, off, rfl, hg, d0, d1, d2, d3, ho⟩ := h1.word hr
      have hsz := ho.l
      have hPl := fun w1 (hT : Tabs w1) => plain_any hT (txt x.2.1) (by show (byt x.2.1).length ≤ _; omega)
      have e2 : bl (txt x.2.1) = (tkW x).2 := rfl
      rw [e2] at hPl
      rw [hr] at hRES
      simp only at hRES
      rw [hr] at c0
      simp only [List.length_cons] at c0
      have i1 : ((l.length : Int) + 1 == 0) = false := beq_eq_false_iff_ne.2 (by omega)
      have i2 : (0 : Int) < (l.length : Int) + 1 := by omega
      cases hp : plainB (tkW x).2 with
      | false =>
        rw [if_neg (by rw [hp]; simp)] at hRES
        simp only [hp] at hPl
        have HR : Hid ((([], (0, 0)), failC 12 (hereR fin r) r) = RES) := hRES
        obtain ⟨K, seg, ln, co⟩ := x
        simp only at d0 d1 d2 d3 hPl
        obtain ⟨bs, hbs⟩ : ∃ bs, txt seg = bs := ⟨_, rfl⟩
        simp only [hbs] at d1 hPl
        clear hRES hr hcap hal hT ho hp e2 hbs hsz
        go_enter Tryz.func32, Tryz.ntmps32
        go_upto_region 1 with fail
        generalize w.alloc zPd = w0 at *
        go_upto_region 3 with (first
          | (go_at_call 62; refine (hPl _ hT1.tabs).mono ?_; rintro e w1 ⟨rfl, b1⟩; have hd1 := h1.on b1)
          | (go_at_call 37; refine (hH _ hd1).mono ?_; rintro e w2 ⟨rfl, b2⟩; have hd2 := hd1.on b2)
          | (go_at_call 36; refine (hFa _ hd2).mono ?_; rintro e w3 ⟨⟨u, rfl⟩, hd3, hf3⟩))
        have hA3 := at_fx ((hA.keep b1).keep b2) hf3 (by omega)
        have hF3 := ((hF1.trans (Fx.of b1 (Nat.le_refl _))).trans (Fx.of b2 (Nat.le_refl _))).trans hf3
        obtain ⟨y0, y1, y2, y3⟩ := id hA3
        go_wp2
        have hv := HR.out
        subst hv
        exact bodyPost_ret (dname_res ((hA3.set0 _).set1 _) rfl rfl) rfl ⟨rfl, ⟨_, cap, (hd3.far hX _).far hX _⟩, (hF3.setN (Nat.le_refl _) _).setN (Nat.le_refl _) _⟩
      | true =>
        rw [if_pos ⟨hb, hp⟩] at hRES
        simp only [hp] at hPl
        have hl1 : 1 ≤ r.1.length := by rw [hr]; simp
        obtain ⟨a1, hsl, hL1⟩ := slice_fromR h1.l hl1 h1.c
        have hcut := fun w1 (hd : Dr w1 X fin r (some ⟨g, off, none⟩) cap) (hL : RdL w1 X a1 (r.1.drop 1)) => hd.cut hl1 hL
        have hw1 := fun w1 (hd : Dr w1 X fin r (some ⟨g, off, none⟩) cap) => hd.word hr
        simp only [hr, List.drop_one, List.tail_cons, List.length_cons] at hsl hcut hL1
        have hsl' : ∀ W, (Instr.slice 62 (.slice (some ⟨g, off, none⟩) (l.length + 1) cap) (some (.int .i64 1)) none none).run Tryz.prog W = .ok (.slice a1 l.length (cap - 1)) W := hsl
        have HL : Hid (RdL (w.alloc zPd) X a1 l) := hL1
        have HR : Hid ((((tkW x).2, wPl x), (l, r.2)) = RES) := hRES
        obtain ⟨K, seg, ln, co⟩ := x
        simp only at d0 d1 d2 d3 hPl hw1
        obtain ⟨bs, hbs⟩ : ∃ bs, txt seg = bs := ⟨_, rfl⟩
        simp only [hbs] at d1 hPl hw1
        have HB : Hid ((⟨(byt seg).toArray⟩ : ByteArray) = bs) := hbs
        clear hRES hcap hal hT ho hp e2 hbs hsz hsl hL1 hl1 hH hFa HE
        go_enter Tryz.func32, Tryz.ntmps32
        go_upto_region 1 with fail
        generalize w.alloc zPd = w0 at *
        go_upto_region 4 with (first
          | (go_at_call 62; refine (hPl _ hT1.tabs).mono ?_; rintro e w1 ⟨rfl, b1⟩; have hd1 := h1.on b1))
        have hA1 := hA.keep b1
        have hF2 := hF1.trans (Fx.of b1 (Nat.le_refl _))
        have hL2 : RdL w1 X a1 l := HL.out.keepB b1 (Nat.le_of_lt h1.lt)
        obtain ⟨g', off', hgg, _, k0, k1, k2, k3, _⟩ := hw1 _ hd1
        simp only [Option.some.injEq, Addr.mk.injEq, and_true] at hgg
        obtain ⟨rfl, rfl⟩ := hgg
        obtain ⟨c0', f0'⟩ := hd1.b 0 _ rfl
        rw [hr] at c0'
        simp only [List.length_cons] at c0'
        have hal2 : Below w1.heap.size w1 (w1.alloc (.cells #[.int .i64 (K : Int), .string bs, .int .i64 ln, .int .i64 co] 127)) := (Below.refl _ _).alloc (Nat.le_refl _) _
        have hA2 := hA1.keep hal2
        have hd2 := hd1.on hal2
        have hL3 := hL2.keepB hal2 (Nat.le_of_lt hd1.lt)
        have hB2 : B4 (w1.alloc (.cells #[.int .i64 (K : Int), .string bs, .int .i64 ln, .int .i64 co] 127)) w1.heap.size (.int .i64 (K : Int)) (.string bs) (.int .i64 ln) (.int .i64 co) := B4.new _ _ _ _ _ _ _ rfl
        have hF3 := hF2.alloc (.cells #[.int .i64 (K : Int), .string bs, .int .i64 ln, .int .i64 co] 127)
        have hs1 : w.heap.size < w1.heap.size := World.block_lt_of_cell? w1 _ hA1.1
        clear c0 f0 c5 f5 d0 d1 d2 d3
        go_upto_region 5 with fail
        obtain ⟨N, hN⟩ : ∃ N, w1.heap.size = N := ⟨_, rfl⟩
        rw [hN] at hB2 hs1 ⊢
        clear hA hA1 hd1 hL2 hF2 b1 hal2 k0 k1 k2 k3 c0' f0' h1 hF1 hPl hw1 hT1 hN
        generalize w1.alloc (.cells #[.int .i64 (K : Int), .string bs, .int .i64 ln, .int .i64 co] 127) = w2 at *
        obtain ⟨c0', f0'⟩ := hd2.b 0 _ rfl
        rw [hr] at c0'
        simp only [List.length_cons] at c0'
        have hd3 := hcut w2 hd2 hL3
        have hX2 := hd2.lt
        go_upto_region 6 with fail
        have hA3 : At (w2.setCell ⟨X, 0, none⟩ (.slice a1 l.length (cap - 1))) w.heap.size (.int .i64 0) (.int .i64 0) := hA2.far (by omega) _
        have hB3 : B4 (w2.setCell ⟨X, 0, none⟩ (.slice a1 l.length (cap - 1))) N (.int .i64 (K : Int)) (.string bs) (.int .i64 ln) (.int .i64 co) := hB2.far (by omega) _
        have hF4 := hF3.setX (i := 0) (.slice a1 l.length (cap - 1))
        clear hA2 hB2 hF3 hd2 hL3 c0' f0' hcut
        generalize w2.setCell ⟨X, 0, none⟩ (.slice a1 l.length (cap - 1)) = w3 at *
        obtain ⟨y0, y1, y2, y3⟩ := id hA3
        obtain ⟨z0, z1, z2, z3, _, _, _, _⟩ := id hB3
        go_region
        go_wp2
        have hv := HR.out
        have hbb := HB.out
        subst hbb
        subst hv
        exact bodyPost_ret (dname_res (((hA3.set0 _).set1 _).keep ((Below.refl _ _).drew)) rfl rfl) rfl ⟨rfl, ⟨_, _, ((hd3.far hX _).far hX _).on ((Below.refl _ _).drew)⟩, ((hF4.setN (Nat.le_refl _) _).setN (Nat.le_refl _) _).drew⟩
  · have hR2 : RES = (([], (0, 0)), failC 12 (hereR fin r) r) := by
      rw [← hRES]
      cases hr : r.1 with
      | nil => rfl
      | cons x l => simp only; rw [if_neg (fun e => hz (hb.symm.trans e.1))]
    have HR : Hid ((([], (0, 0)), failC 12 (hereR fin r) r) = RES) := hR2.symm
    have i1 : (b != 0) = true := by simpa using hz
    clear hRES hcap hal hT hT1 hz hR2
    go_enter Tryz.func32, Tryz.ntmps32
    go_upto_region 1 with fail
    generalize w.alloc zPd = w0 at *
    go_upto_region 3 with (first
      | (go_at_call 37; refine (hH _ h1).mono ?_; rintro e w2 ⟨rfl, b2⟩; have hd2 := h1.on b2)
      | (go_at_call 36; refine (hFa _ hd2).mono ?_; rintro e w3 ⟨⟨u, rfl⟩, hd3, hf3⟩))
    have hA3 := at_fx (hA.keep b2) hf3 (by omega)
    have hF3 := (hF1.trans (Fx.of b2 (Nat.le_refl _))).trans hf3
    obtain ⟨y0, y1, y2, y3⟩ := id hA3
    go_wp2
    have hv := HR.out
    subst hv
    exact bodyPost_ret (dname_res ((hA3.set0 _).set1 _) rfl rfl) rfl ⟨rfl, ⟨a, cap, (hd3.far hX _).far hX _⟩, (hF3.setN (Nat.le_refl _) _).setN (Nat.le_refl _) _⟩
end Go.Proofs.YtccmmkhcacglhaaGreatDoor
