
/- What the program's Take does. -/
import Derived.Test.YtiddccohldjjcaaDoorPgJ
import Derived.Test.YtiddccohldjjcaaDoorPxF
namespace Go.Proofs.YtiddccohldjjcaaDoor
open Go.RowKit Go.Lib
set_option linter.unusedSimpArgs false
set_option linter.unusedVariables false
attribute [local go_sem ↓] Go.wp_at_zero Go.wp_at_succ

theorem rdr_start (w : World) : Rdr (w.alloc (.cells #[.slice none 0 0, .slice none 0 0, .int .i64 0, .bool false] 68)) w.heap.size ⟨[], [], 0, false⟩ (.slice none 0 0) (.slice none 0 0) :=
  ⟨B4.new w _ _ _ _ _ _ rfl, World.ownsRow_nil _ _ _ _, World.ownsRow_nil _ _ _ _, fun g hg => by simp [Value.ownBlock] at hg⟩
/-- What is told, out of what the two stacks tell. -/
def ofOut (r : Option Sx × Nat) : Sx × Nat × Int := match r.1 with | some x => if fmX x = true then (x, r.2, 0) else (noX, 0, 13) | none => (noX, r.2, 12)
theorem take_out {ws : List Wd} (h : ∀ w ∈ ws, OneW w.1 w.2.1) : takeC (ws.map tkW) = ofOut (rnY (leafY (valB 0) rsvB) (ws.map tkW) ⟨[], [], 0, false⟩ 0) ∧
    ∀ x n, rnY (leafY (valB 0) rsvB) (ws.map tkW) ⟨[], [], 0, false⟩ 0 = (some x, n) → Fine x ∧ cntX x ≤ n := by
  have hy := yard_psr (nb := valB 0) (rsv := rsvB) (l := ws.map tkW) (good_all h) (f := 7 * (ws.map tkW).length + 6) (by omega)
  have hf : BadOr _ 0 (rdC (ws.map tkW)) := fine_read h _ 1 0 (by omega) (by omega)
  have e : psr (valB 0) rsvB (ws.map tkW) (7 * (ws.map tkW).length + 6) 1 0 (-1) = rdC (ws.map tkW) := rfl
  rw [e] at hy
  obtain ⟨O, hO⟩ : ∃ O, rnY (leafY (valB 0) rsvB) (ws.map tkW) ⟨[], [], 0, false⟩ 0 = O := ⟨_, rfl⟩
  rw [hO] at hy ⊢
  unfold takeC
  rcases hf with ⟨h1, h2⟩ | h1
  · have hlt : (rdC (ws.map tkW)).2.2 < 0 := by rw [h1]; decide
    rw [if_pos hlt] at hy
    subst hy
    rw [if_neg (by omega)]
    refine ⟨rfl, fun x n hx => ?_⟩
    simp only [Prod.mk.injEq, Option.some.injEq] at hx
    obtain ⟨rfl, rfl⟩ := hx
    exact ⟨h2.1, by have := h2.2; omega⟩
  · rw [if_neg (by omega)] at hy
    subst hy
    rw [if_pos h1]
    exact ⟨rfl, fun x n hx => by simp at hx⟩
theorem celsW_at (ws : List Wd) (i : Nat) (h : i < ws.length) : (celsW ws)[i * 4]? = some (.int .i64 ((ws[i]).1 : Int)) ∧ (celsW ws)[i * 4 + 1]? = some (.string (txt (ws[i]).2.1)) ∧ (celsW ws)[i * 4 + 2]? = some (.int .i64 (ws[i]).2.2.1) ∧ (celsW ws)[i * 4 + 3]? = some (.int .i64 (ws[i]).2.2.2) := by
  induction ws generalizing i with
  | nil => simp at h
  | cons x t ih =>
    cases i with
    | zero => exact ⟨rfl, rfl, rfl, rfl⟩
    | succ k =>
      have hk := ih k (by simpa using h)
      have e : ∀ j, (celsW (x :: t))[(k + 1) * 4 + j]? = (celsW t)[k * 4 + j]? := fun j => by
        show (celW x ++ celsW t)[(k + 1) * 4 + j]? = _
        rw [List.getElem?_append_right (by simp [celW]; omega)]
        congr 1
        simp [celW]; omega
      exact ⟨(e 0).trans hk.1, (e 1).trans hk.2.1, (e 2).trans hk.2.2.1, (e 3).trans hk.2.2.2⟩
/-- Words in memory, read. -/
theorem ownW_rd {w : World} {base e : Nat} {v : Value} {ws : List Wd} (h : OwnW w base e v ws) : ∃ a cap, v = .slice a ws.length cap ∧ ws.length ≤ cap ∧ cap ≤ maxLen ∧ ∀ (i : Nat) (hi : i < ws.length), ∃ g, a = some ⟨g, 0, none⟩ ∧ g < w.heap.size ∧ w.cell? ⟨g, i * 4, none⟩ = some (.int .i64 ((ws[i]).1 : Int)) ∧ w.cell? ⟨g, i * 4 + 1, none⟩ = some (.string (txt (ws[i]).2.1)) ∧ w.cell? ⟨g, i * 4 + 2, none⟩ = some (.int .i64 (ws[i]).2.2.1) ∧ w.cell? ⟨g, i * 4 + 3, none⟩ = some (.int .i64 (ws[i]).2.2.2) := by
  have hc := fun g => World.ownsRow.cells h (g := g)
  rcases h.2 with ⟨h1, h2⟩ | ⟨g, cap, cur, rfl, hb, hg, h3, h4, _⟩
  · exact ⟨none, 0, by rw [h1, h2], by omega, by simp [maxLen], fun i hi => by omega⟩
  · refine ⟨_, _, rfl, h3, h4, fun i hi => ⟨g, rfl, (Array.getElem?_eq_some_iff.1 hg).1, ?_⟩⟩
    obtain ⟨e0, e1, e2, e3⟩ := celsW_at ws i hi
    have c0 := hc g rfl _ _ e0
    have c1 := hc g rfl _ _ e1
    have c2 := hc g rfl _ _ e2
    have c3 := hc g rfl _ _ e3
    rw [addr_plain] at c0 c1 c2 c3
    exact ⟨c0, c1, c2, c3⟩
set_option maxRecDepth 100000 in
set_option maxHeartbeats 4000000 in
theorem pTake_any {w : World} {v : Value} {ws : List Wd} (hw : OwnW w 0 43 v ws) (h1 : ∀ x ∈ ws, OneW x.1 x.2.1) (hl : ws.length ≤ 3000) :
    Calls Tryd.prog 12 #[v] w fun e w' => e = .returned (.tuple #[exX (takeC (ws.map tkW)).1, .int .i64 ((takeC (ws.map tkW)).2.1 : Int), .int .i64 (takeC (ws.map tkW)).2.2]) ∧ Below w.heap.size w w' := by
  obtain ⟨ht1, ht2⟩ := take_out h1
  rw [ht1]
  obtain ⟨OUT, hO⟩ : ∃ OUT, rnY (leafY (valB 0) rsvB) (ws.map tkW) ⟨[], [], 0, false⟩ 0 = OUT := ⟨_, rfl⟩
  rw [hO] at ht2 ⊢
  have hO0 : Hid (rnY (leafY (valB 0) rsvB) (ws.map tkW) ⟨[], [], 0, false⟩ 0 = OUT) := hO
  have HT : Hid (∀ x n, OUT = (some x, n) → Fine x ∧ cntX x ≤ n) := ht2
  obtain ⟨a, cap, rfl, q1, q2, hrd⟩ := ownW_rd hw
  have HR : Hid (∀ (i : Nat) (hi : i < ws.length), ∃ g, a = some ⟨g, 0, none⟩ ∧ g < w.heap.size ∧ w.cell? ⟨g, i * 4, none⟩ = some (.int .i64 ((ws[i]).1 : Int)) ∧ w.cell? ⟨g, i * 4 + 1, none⟩ = some (.string (txt (ws[i]).2.1)) ∧ w.cell? ⟨g, i * 4 + 2, none⟩ = some (.int .i64 (ws[i]).2.2.1) ∧ w.cell? ⟨g, i * 4 + 3, none⟩ = some (.int .i64 (ws[i]).2.2.2)) := hrd
  have H1 : Hid (∀ x ∈ ws, OneW x.1 x.2.1) := h1
  clear hrd h1 ht1 ht2 hO hw
  have hs := rdr_start w
  have hb0 : Below w.heap.size w (w.alloc (.cells #[.slice none 0 0, .slice none 0 0, .int .i64 0, .bool false] 68)) := (Below.refl _ _).alloc (Nat.le_refl _) _
  go_enter Tryd.func12, Tryd.ntmps12
  go_wp2
  go_loopw [6] (fun v wr => ∃ (n : Nat) (y : Yd) (vv ww : Value), v = .int .i64 (n : Int) ∧ n ≤ ws.length ∧ Rdr wr w.heap.size y vv ww ∧ InvY y n ∧ Hid (rnY (leafY (valB 0) rsvB) (ws.map tkW) y n = OUT) ∧ Below w.heap.size w wr) (fun v _ => ws.length - (RowKit.intOf v).toNat)
  case atStart => exact ⟨0, _, _, _, rfl, Nat.zero_le _, hs, inv_start, hO0, hb0⟩
  case round =>
    obtain ⟨n, y, vv, ww, rfl, hn, hr, hi, ho, hb⟩ := hrel
    have i2 : (0 : Int) ≤ (n : Int) := by omega
    clear hs hb0 hO0
    by_cases hlt : n < ws.length
    · have i1 : (n : Int) < (ws.length : Int) := by omega
      obtain ⟨g, rfl, hg, c0, c1, c2, c3⟩ := HR.out n hlt
      have h1n := H1.out ws[n] (List.getElem_mem hlt)
      have hget : (ws.map tkW)[n]? = some (tkW ws[n]) := by rw [List.getElem?_map, List.getElem?_eq_getElem hlt]; rfl
      have d0 := (hb.cell (p := ⟨g, n * 4, none⟩) hg).trans c0
      have d1 := (hb.cell (p := ⟨g, n * 4 + 1, none⟩) hg).trans c1
      have d2 := (hb.cell (p := ⟨g, n * 4 + 2, none⟩) hg).trans c2
      have d3 := (hb.cell (p := ⟨g, n * 4 + 3, none⟩) hg).trans c3
      obtain ⟨⟨K, seg, ln, co⟩, hx⟩ : ∃ x, ws[n] = x := ⟨_, rfl⟩
      rw [hx] at h1n hget d0 d1 d2 d3
      simp only [tkW] at h1n hget d0 d1 d2 d3
      have hT := takes_any hr hi (by omega) h1n ln co
      have hstep := ho.out
      rw [rnY_some hget] at hstep
      have hinv := inv_step (leaf := leafY (valB 0) rsvB) hi (K, byt seg)
      obtain ⟨r, hrr⟩ : ∃ r, stp (leafY (valB 0) rsvB) y (K, byt seg) = r := ⟨_, rfl⟩
      simp only [hrr] at hT hstep hinv
      obtain ⟨y1, b1⟩ := r
      obtain ⟨tx, htx⟩ : ∃ tx, txt seg = tx := ⟨_, rfl⟩
      unfold wdV at hT
      rw [htx] at hT d1
      clear c0 c1 c2 c3 hx hrr htx hr hi ho h1n hget
      simp only at hT hstep hinv
      cases b1 with
      | true =>
        rw [if_pos rfl] at hstep
        have hN : Hid (rnY (leafY (valB 0) rsvB) (ws.map tkW) y1 (n + 1) = OUT) := hstep
        go_wp2_with (first
          | (go_at_call 18; refine hT.mono ?_; rintro e w1 ⟨rfl, ⟨vv1, ww1, hr1⟩, b1⟩))
        go_roundw
        case rel => exact ⟨n + 1, y1, vv1, ww1, by go_num, hlt, hr1, hinv, hN, hb.trans b1⟩
        case measure => simp [RowKit.intOf]; omega
      | false =>
        rw [if_neg Bool.false_ne_true] at hstep
        have hS : Hid (stopY y1 n = OUT) := hstep
        obtain ⟨V, W, o, b⟩ := y1
        have hQ := hS.out
        have hbk := brk_le W
        have hio := hinv.o
        have hiw := hinv.w
        simp only at hio hiw
        unfold stopY at hQ
        simp only at hQ
        have hFm := fun (x : Sx) (hx : Fine x ∧ cntX x ≤ n) w1 => formedP x.1 x.2 w1 hx.1.cl (by have := hx.2; show cnt x.1 x.2 ≤ 100000; unfold cntX at this; omega) hx.1.sh
        by_cases hq : b = true ∧ o = 0
        · rw [if_pos hq] at hQ
          obtain ⟨rfl, rfl⟩ := hq
          have hiv : V.length = bins W + 1 := hinv.v
          obtain ⟨x, hx⟩ := jn_all hiv hio.symm
          rw [hx] at hQ
          have hfine := HT.out x n hQ.symm
          have hFx := hFm x hfine
          have hE := fun w2 vv2 ww2 (h2 : Rdr w2 w.heap.size ⟨V, W, 0, true⟩ vv2 ww2) => end_any h2 hiv (by omega) hx
          have hMx := fun w2 vv2 ww2 (h2 : Rdr w2 w.heap.size ⟨V, W, 0, true⟩ vv2 ww2) => mayEnd_any h2 (by show (0 : Nat) ≤ 4000; omega)
          simp only [decide_true, Bool.and_true] at hMx
          have hres : ofOut OUT = if fmX x = true then (x, n, 0) else (noX, 0, 13) := by rw [← hQ]; rfl
          obtain ⟨fb, hfb⟩ : ∃ fb, fmC x.1 x.2 = fb := ⟨_, rfl⟩
          have hfb' : fmX x = fb := hfb
          rw [hfb'] at hres
          simp only [hfb] at hFx
          have hFx : ∀ w1, Calls Tryd.prog 21 #[exX x] w1 fun r w' => r = .returned (.bool fb) ∧ Below w1.heap.size w1 w' := hFx
          have hxf := exX_form x
          obtain ⟨xv, hxv⟩ : ∃ xv, exX x = xv := ⟨_, rfl⟩
          rw [hxv] at hxf
          simp only [hxv] at hFx hE
          clear hfb hfb' hfine hFm hQ hx hiv hio hiw hbk
          cases fb with
          | true =>
            rw [if_pos rfl] at hres
            have HX : Hid (exX x = xv) := hxv
            have HRS : Hid (ofOut OUT = (x, n, 0)) := hres
            clear hres hxv
            go_wp2_with (first
              | (go_at_call 18; refine hT.mono ?_; rintro e w1 ⟨rfl, ⟨vv1, ww1, hr1⟩, b1⟩)
              | (go_at_call 19; refine (hMx _ _ _ hr1).mono ?_; rintro e w2 ⟨rfl, b2⟩; have hr2 := hr1.on b2; have hb2 := (hb.trans b1).trans (b2.mono (hb.trans b1).size))
              | (go_at_call 20; refine (hE _ _ _ hr2).mono ?_; rintro e w3 ⟨rfl, b3⟩; have hb3 := hb2.trans b3)
              | (go_at_call 21; refine (hFx _).mono ?_; rintro e w4 ⟨rfl, b4⟩; have hb4 := hb3.trans (b4.mono hb3.size)))
            go_ret3
            refine ⟨?_, hb4⟩
            rw [HRS.out]
            show _ = Ending.returned (.tuple #[exX x, .int .i64 (n : Int), .int .i64 0])
            rw [HX.out]; rfl
          | false =>
            rw [if_neg Bool.false_ne_true] at hres
            have HRS : Hid (ofOut OUT = (noX, 0, 13)) := hres
            clear hres hxv
            go_wp2_with (first
              | (go_at_call 18; refine hT.mono ?_; rintro e w1 ⟨rfl, ⟨vv1, ww1, hr1⟩, b1⟩)
              | (go_at_call 19; refine (hMx _ _ _ hr1).mono ?_; rintro e w2 ⟨rfl, b2⟩; have hr2 := hr1.on b2; have hb2 := (hb.trans b1).trans (b2.mono (hb.trans b1).size))
              | (go_at_call 20; refine (hE _ _ _ hr2).mono ?_; rintro e w3 ⟨rfl, b3⟩; have hb3 := hb2.trans b3)
              | (go_at_call 21; refine (hFx _).mono ?_; rintro e w4 ⟨rfl, b4⟩; have hb4 := hb3.trans (b4.mono hb3.size)))
            go_ret3
            exact ⟨by rw [HRS.out]; rfl, hb4⟩
        · rw [if_neg hq] at hQ
          have hbo : (b && decide (o = 0)) = false := by
            cases b with
            | false => rfl
            | true => exact decide_eq_false (fun e => hq ⟨rfl, e⟩)
          have hMx := fun w2 vv2 ww2 (h2 : Rdr w2 w.heap.size ⟨V, W, o, b⟩ vv2 ww2) => mayEnd_any h2 (by show o ≤ 4000; omega)
          simp only [hbo] at hMx
          have HRS : Hid (ofOut OUT = (noX, n, 12)) := by show _ = _; rw [← hQ]; rfl
          clear hbo hq hFm hQ hio hiw hbk
          go_wp2_with (first
            | (go_at_call 18; refine hT.mono ?_; rintro e w1 ⟨rfl, ⟨vv1, ww1, hr1⟩, b1⟩)
            | (go_at_call 19; refine (hMx _ _ _ hr1).mono ?_; rintro e w2 ⟨rfl, b2⟩; have hb2 := (hb.trans b1).trans (b2.mono (hb.trans b1).size)))
          go_ret3
          exact ⟨by rw [HRS.out]; rfl, hb2⟩
    · have i1 : ¬ (n : Int) < (ws.length : Int) := by omega
      have hstep := ho.out
      rw [rnY_none (by rw [List.getElem?_eq_none_iff, List.length_map]; omega)] at hstep
      have hS : Hid (stopY y n = OUT) := hstep
      clear ho hstep
      obtain ⟨V, W, o, b⟩ := y
      have hQ := hS.out
      have hbk := brk_le W
      have hio := hi.o
      have hiw := hi.w
      simp only at hio hiw
      unfold stopY at hQ
      simp only at hQ
      have hFm := fun (x : Sx) (hx : Fine x ∧ cntX x ≤ n) w1 => formedP x.1 x.2 w1 hx.1.cl (by have := hx.2; show cnt x.1 x.2 ≤ 100000; unfold cntX at this; omega) hx.1.sh
      by_cases hq : b = true ∧ o = 0
      · rw [if_pos hq] at hQ
        obtain ⟨rfl, rfl⟩ := hq
        have hiv : V.length = bins W + 1 := hi.v
        obtain ⟨x, hx⟩ := jn_all hiv hio.symm
        rw [hx] at hQ
        have hfine := HT.out x n hQ.symm
        have hFx := hFm x hfine
        have hE := fun w2 vv2 ww2 (h2 : Rdr w2 w.heap.size ⟨V, W, 0, true⟩ vv2 ww2) => end_any h2 hiv (by omega) hx
        have hMx := fun w2 vv2 ww2 (h2 : Rdr w2 w.heap.size ⟨V, W, 0, true⟩ vv2 ww2) => mayEnd_any h2 (by show (0 : Nat) ≤ 4000; omega)
        simp only [decide_true, Bool.and_true] at hMx
        have hres : ofOut OUT = if fmX x = true then (x, n, 0) else (noX, 0, 13) := by rw [← hQ]; rfl
        obtain ⟨fb, hfb⟩ : ∃ fb, fmC x.1 x.2 = fb := ⟨_, rfl⟩
        have hfb' : fmX x = fb := hfb
        rw [hfb'] at hres
        simp only [hfb] at hFx
        have hFx : ∀ w1, Calls Tryd.prog 21 #[exX x] w1 fun r w' => r = .returned (.bool fb) ∧ Below w1.heap.size w1 w' := hFx
        have hxf := exX_form x
        obtain ⟨xv, hxv⟩ : ∃ xv, exX x = xv := ⟨_, rfl⟩
        rw [hxv] at hxf
        simp only [hxv] at hFx hE
        clear hfb hfb' hfine hFm hQ hx hiv hio hiw hbk
        cases fb with
        | true =>
          rw [if_pos rfl] at hres
          have HX : Hid (exX x = xv) := hxv
          have HRS : Hid (ofOut OUT = (x, n, 0)) := hres
          clear hres hxv
          go_wp2_with (first
            | (go_at_call 19; refine (hMx _ _ _ hr).mono ?_; rintro e w2 ⟨rfl, b2⟩; have hr2 := hr.on b2; have hb2 := hb.trans (b2.mono hb.size))
            | (go_at_call 20; refine (hE _ _ _ hr2).mono ?_; rintro e w3 ⟨rfl, b3⟩; have hb3 := hb2.trans b3)
            | (go_at_call 21; refine (hFx _).mono ?_; rintro e w4 ⟨rfl, b4⟩; have hb4 := hb3.trans (b4.mono hb3.size)))
          go_ret3
          refine ⟨?_, hb4⟩
          rw [HRS.out]
          show _ = Ending.returned (.tuple #[exX x, .int .i64 (n : Int), .int .i64 0])
          rw [HX.out]; rfl
        | false =>
          rw [if_neg Bool.false_ne_true] at hres
          have HRS : Hid (ofOut OUT = (noX, 0, 13)) := hres
          clear hres hxv
          go_wp2_with (first
            | (go_at_call 19; refine (hMx _ _ _ hr).mono ?_; rintro e w2 ⟨rfl, b2⟩; have hr2 := hr.on b2; have hb2 := hb.trans (b2.mono hb.size))
            | (go_at_call 20; refine (hE _ _ _ hr2).mono ?_; rintro e w3 ⟨rfl, b3⟩; have hb3 := hb2.trans b3)
            | (go_at_call 21; refine (hFx _).mono ?_; rintro e w4 ⟨rfl, b4⟩; have hb4 := hb3.trans (b4.mono hb3.size)))
          go_ret3
          exact ⟨by rw [HRS.out]; rfl, hb4⟩
      · rw [if_neg hq] at hQ
        have hbo : (b && decide (o = 0)) = false := by
          cases b with
          | false => rfl
          | true => exact decide_eq_false (fun e => hq ⟨rfl, e⟩)
        have hMx := fun w2 vv2 ww2 (h2 : Rdr w2 w.heap.size ⟨V, W, o, b⟩ vv2 ww2) => mayEnd_any h2 (by show o ≤ 4000; omega)
        simp only [hbo] at hMx
        have HRS : Hid (ofOut OUT = (noX, n, 12)) := by show _ = _; rw [← hQ]; rfl
        clear hbo hq hFm hQ hio hiw hbk
        go_wp2_with (first
          | (go_at_call 19; refine (hMx _ _ _ hr).mono ?_; rintro e w2 ⟨rfl, b2⟩; have hb2 := hb.trans (b2.mono hb.size)))
        go_ret3
        exact ⟨by rw [HRS.out]; rfl, hb2⟩
end Go.Proofs.YtiddccohldjjcaaDoor
