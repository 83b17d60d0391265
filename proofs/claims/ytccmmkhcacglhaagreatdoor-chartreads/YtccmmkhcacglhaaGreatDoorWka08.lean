import Derived.Test.YtccmmkhcacglhaaGreatDoorWka07
import Derived.Test.YtccmmkhcacglhaaGreatDoorWka02
import Derived.Deep.RegionHeldLaw

/- What the document's state does at the deepest place, and so at every depth. -/
namespace Go.Proofs.YtccmmkhcacglhaaGreatDoor
open Go.RowKit Go.Lib
set_option linter.unusedSimpArgs false
set_option linter.unusedVariables false
attribute [local go_sem ↓] Go.wp_at_zero Go.wp_at_succ

theorem failD_bad {r : RsC} {e : Int} (he : e ≠ 0) (p : Pl) : (failC e p r).2.2 ≠ 0 := by
  unfold failC
  split
  · exact he
  · assumption
set_option maxRecDepth 100000 in
set_option maxHeartbeats 16000000 in
theorem dstate_zero : SdC 0 := by
  intro w X fin r dp hdp h hTy
  obtain rfl : dp = 7 := by simpa using hdp
  have hX := h.lt
  have hbel : Below w.heap.size w ((w.alloc zD11).alloc zD11) := ((Below.refl _ _).alloc (Nat.le_refl _) _).alloc (by simp) _
  have hp0 := h.on hbel
  have hT0 := hTy.on hbel
  have hA0 : Bn ((w.alloc zD11).alloc zD11) w.heap.size zDl := (Bn.new w zDl 76 _ rfl).on ((Below.refl _ _).alloc (Nat.le_refl _) _)
  have hB0 : Bn ((w.alloc zD11).alloc zD11) (w.heap.size + 1) zDl := Bn.new (w.alloc zD11) zDl 76 _ (by simp)
  have hF0 : Fx X w ((w.alloc zD11).alloc zD11) := Fx.of hbel (Nat.le_refl _)
  have hs0 : w.heap.size + 2 ≤ ((w.alloc zD11).alloc zD11).heap.size := by simp
  have e1 : (⟨wState.toArray⟩ : ByteArray) = ⟨#[115, 116, 97, 116, 101]⟩ := rfl
  have f1 : (⟨wAll.toArray⟩ : ByteArray) = ⟨#[97, 108, 108]⟩ := rfl
  have f2 : (⟨wEnd.toArray⟩ : ByteArray) = ⟨#[101, 110, 100]⟩ := rfl
  have f3 : (⟨wDo.toArray⟩ : ByteArray) = ⟨#[100, 111]⟩ := rfl
  obtain ⟨r1, hr1⟩ : ∃ r1, failC (if isC wState r = true then 13 else 12) (hereR fin r) r = r1 := ⟨_, rfl⟩
  have hz : r1.2.2 ≠ 0 := by rw [← hr1]; exact failD_bad (by split <;> decide) _
  have hres : stR fin 0 r = (((([], (0, 0)), (false, false), ([], []), (0, 0), []), []), r1) := by rw [← hr1]; rfl
  rw [hres]
  have hTk := fun w1 t (hp : DR w1 X fin r1) => dtake_any hp t
  simp only [take_err hz] at hTk
  have hM0 := fun w1 (hp : DR w1 X fin r1) => hTk w1 wState hp
  rw [e1] at hM0
  have hM2 := fun w1 (hp : DR w1 X fin r1) => hTk w1 [123] hp
  have hM3 := fun w1 (hp : DR w1 X fin r1) => hTk w1 [125] hp
  have hN := fun w1 (hp : DR w1 X fin r1) (ht : Ty w1 X) => dname_any hp ht
  simp only [name_err hz] at hN
  have hIs := fun w1 t (hp : DR w1 X fin r1) => disR_any hp t
  simp only [is_err hz] at hIs
  have hI1 := fun w1 (hp : DR w1 X fin r1) => hIs w1 wAll hp
  rw [f1] at hI1
  have hI2 := fun w1 (hp : DR w1 X fin r1) => hIs w1 wEnd hp
  rw [f2] at hI2
  have hI3 := fun w1 (hp : DR w1 X fin r1) => hIs w1 wDo hp
  rw [f3] at hI3
  have hI0 := disR_any hp0 wState
  rw [e1] at hI0
  have i5 : (r1.2.2 == 0) = false := by simpa using hz
  have hH := fun w1 a cap (hd : Dr w1 X fin r a cap) => here_any hd
  have hFa := fun w1 a cap (hd : Dr w1 X fin r a cap) => dfail_any hd 13 (hereR fin r)
  have hM1 := fun w1 (hp : DR w1 X fin r) => dtake_any hp wState
  rw [e1] at hM1
  clear hres hbel h
  cases hi : isC wState r with
  | true =>
    rw [hi] at hI0
    rw [hi, if_pos rfl] at hr1
    simp only [hr1] at hFa
    clear hr1 hz hM1
    go_enter Tryz.func35, Tryz.ntmps35
    go_upto_region 2 with fail
    generalize (w.alloc zD11).alloc zD11 = w0 at *
    go_upto_region 4 with (first
      | (go_at_call 34; refine hI0.mono ?_; rintro e w1 ⟨rfl, hp1, hf1⟩; obtain ⟨a1, c1, hd1⟩ := hp1)
      | (go_at_call 37; refine (hH _ _ _ hd1).mono ?_; rintro e w2 ⟨rfl, b2⟩; have hd2 := hd1.on b2)
      | (go_at_call 36; refine (hFa _ _ _ hd2).mono ?_; rintro e w2a ⟨⟨u, rfl⟩, hd3, hf2a⟩))
    have hf2 : Fx X w0 w2a := (hf1.trans (Fx.of b2 (Nat.le_refl _))).trans hf2a
    have hp2 : DR w2a X fin r1 := ⟨_, _, hd3⟩
    go_upto_region 5 with (first
      | (go_at_call 31; refine (hM0 _ hp2).mono ?_; rintro e w3 ⟨⟨u, rfl⟩, hp3, hf3a⟩))
    have hf3 := hf2.trans hf3a
    clear hd1 hd2 hd3 hp2 hf1 b2 hf2a hf2 hf3a hI0 hH hFa
    have hA3 := hA0.fx hf3 (by omega)
    have hB3 := hB0.fx hf3 (by omega)
    have hT3 := hT0.fx hf3
    have hF3 := hF0.trans hf3
    have hs3 := Nat.le_trans hs0 hf3.size
    clear hA0 hB0 hp0 hT0 hF0 hs0 hf3
    go_upto_region 6 with (first
      | (go_at_call 32; refine (hN _ hp3 hT3).mono ?_; rintro e w4 ⟨rfl, hp4, hf4⟩; have hA4 := hA3.fx hf4 (by omega); have hB4 := hB3.fx hf4 (by omega); obtain ⟨b0, g0⟩ := hB4 0 _ rfl; obtain ⟨b1, g1⟩ := hB4 1 _ rfl; obtain ⟨b2, g2⟩ := hB4 2 _ rfl))
    have hA5 := ((hA4.far (X := w.heap.size + 1) (i := 0) (by omega) (.string ⟨#[]⟩)).far (X := w.heap.size + 1) (i := 1) (by omega) (.int .i64 0)).far (X := w.heap.size + 1) (i := 2) (by omega) (.int .i64 0)
    have hB5 : Bn _ (w.heap.size + 1) zDl := ((hB4.set (i := 0) (by simp) (.string ⟨#[]⟩)).set (i := 1) (by simp) (.int .i64 0)).set (i := 2) (by simp) (.int .i64 0)
    have hp5 := ((hp4.far (Y := w.heap.size + 1) (i := 0) (by omega) (.string ⟨#[]⟩)).far (Y := w.heap.size + 1) (i := 1) (by omega) (.int .i64 0)).far (Y := w.heap.size + 1) (i := 2) (by omega) (.int .i64 0)
    have hF5 := (((hF3.trans hf4).setN (N := w.heap.size + 1) (i := 0) (by omega) (.string ⟨#[]⟩)).setN (N := w.heap.size + 1) (i := 1) (by omega) (.int .i64 0)).setN (N := w.heap.size + 1) (i := 2) (by omega) (.int .i64 0)
    have hs5 : w.heap.size + 2 ≤ (((w4.setCell ⟨w.heap.size + 1, 0, none⟩ (.string ⟨#[]⟩)).setCell ⟨w.heap.size + 1, 1, none⟩ (.int .i64 0)).setCell ⟨w.heap.size + 1, 2, none⟩ (.int .i64 0)).heap.size := by simpa using Nat.le_trans hs3 hf4.size
    clear hA3 hB3 hp3 hT3 hF3 hA4 hB4 hp4 hf4 b0 g0 b1 g1 b2 g2 hs3 hN
    generalize ((w4.setCell ⟨w.heap.size + 1, 0, none⟩ (.string ⟨#[]⟩)).setCell ⟨w.heap.size + 1, 1, none⟩ (.int .i64 0)).setCell ⟨w.heap.size + 1, 2, none⟩ (.int .i64 0) = w5 at *
    go_upto_region 7 with (first
      | (go_at_call 31; refine (hM2 _ hp5).mono ?_; rintro e w6 ⟨⟨u, rfl⟩, hp6, hf6⟩))
    go_upto_region 10 with (first
      | (go_at_call 34; refine (hI1 _ hp6).mono ?_; rintro e w7 ⟨rfl, hp7, hf7⟩))
    go_upto_region 13 with (first
      | (go_at_call 34; refine (hI2 _ hp7).mono ?_; rintro e w8 ⟨rfl, hp8, hf8⟩))
    go_wp2_with (first
      | (go_at_call 34; refine (hI3 _ hp8).mono ?_; rintro e w9 ⟨rfl, hp9, hf9⟩))
    have hf69 := ((hf6.trans hf7).trans hf8).trans hf9
    have hA9 := hA5.fx hf69 (by omega)
    have hB9 := hB5.fx hf69 (by omega)
    have hF9 := hF5.trans hf69
    clear hA5 hB5 hp5 hF5 hs5 hf69 hf6 hf7 hf8 hf9 hp6 hp7 hp8 hI1 hI2 hI3 hIs hM0
    go_loopw [] (fun wr => DR wr X fin r1 ∧ Bn wr (w.heap.size + 1) zDl ∧ Bn wr w.heap.size zDl ∧ Fx X w wr) (fun _ => 0)
    case atStart => exact ⟨hp9, hB9, hA9, hF9⟩
    case round =>
      clear hp9 hB9 hA9 hF9
      obtain ⟨hp, hB, hA, hF⟩ := hrel
      have c5 := hp.c5
      go_upto_region 27 with (first
        | (go_at_call 31; refine (hM3 _ hp).mono ?_; rintro e wa ⟨⟨u, rfl⟩, hpa, hfa⟩))
      have hBa := hB.fx hfa (by omega)
      have hAa := hA.fx hfa (by omega)
      have hFa := hF.trans hfa
      obtain ⟨b0, g0⟩ := hBa 0 _ rfl
      obtain ⟨b1, g1⟩ := hBa 1 _ rfl
      obtain ⟨b2, g2⟩ := hBa 2 _ rfl
      obtain ⟨b3, g3⟩ := hBa 3 _ rfl
      obtain ⟨b4, g4⟩ := hBa 4 _ rfl
      obtain ⟨b5, g5⟩ := hBa 5 _ rfl
      obtain ⟨b6, g6⟩ := hBa 6 _ rfl
      obtain ⟨b7, g7⟩ := hBa 7 _ rfl
      obtain ⟨b8, g8⟩ := hBa 8 _ rfl
      obtain ⟨b9, g9⟩ := hBa 9 _ rfl
      obtain ⟨b10, g10⟩ := hBa 10 _ rfl
      obtain ⟨a0, k0⟩ := hAa 0 _ rfl
      obtain ⟨a1, k1⟩ := hAa 1 _ rfl
      obtain ⟨a2, k2⟩ := hAa 2 _ rfl
      obtain ⟨a3, k3⟩ := hAa 3 _ rfl
      obtain ⟨a4, k4⟩ := hAa 4 _ rfl
      obtain ⟨a5, k5⟩ := hAa 5 _ rfl
      obtain ⟨a6, k6⟩ := hAa 6 _ rfl
      obtain ⟨a7, k7⟩ := hAa 7 _ rfl
      obtain ⟨a8, k8⟩ := hAa 8 _ rfl
      obtain ⟨a9, k9⟩ := hAa 9 _ rfl
      obtain ⟨a10, k10⟩ := hAa 10 _ rfl
      have hAz := (((((((((((hAa.set (i := 0) (by simp) (.string ⟨#[]⟩)).set (i := 1) (by simp) (.int .i64 0)).set (i := 2) (by simp) (.int .i64 0)).set (i := 3) (by simp) (.bool false)).set (i := 4) (by simp) (.bool false)).set (i := 5) (by simp) (.string ⟨#[]⟩)).set (i := 6) (by simp) (.string ⟨#[]⟩)).set (i := 7) (by simp) (.int .i64 0)).set (i := 8) (by simp) (.int .i64 0)).set (i := 9) (by simp) (.slice none 0 0)).set (i := 10) (by simp) (.slice none 0 0))
      have hpz := (((((((((((hpa.far (Y := w.heap.size) (i := 0) (by omega) (.string ⟨#[]⟩)).far (Y := w.heap.size) (i := 1) (by omega) (.int .i64 0)).far (Y := w.heap.size) (i := 2) (by omega) (.int .i64 0)).far (Y := w.heap.size) (i := 3) (by omega) (.bool false)).far (Y := w.heap.size) (i := 4) (by omega) (.bool false)).far (Y := w.heap.size) (i := 5) (by omega) (.string ⟨#[]⟩)).far (Y := w.heap.size) (i := 6) (by omega) (.string ⟨#[]⟩)).far (Y := w.heap.size) (i := 7) (by omega) (.int .i64 0)).far (Y := w.heap.size) (i := 8) (by omega) (.int .i64 0)).far (Y := w.heap.size) (i := 9) (by omega) (.slice none 0 0)).far (Y := w.heap.size) (i := 10) (by omega) (.slice none 0 0))
      have hFz := (((((((((((hFa.setN (N := w.heap.size) (i := 0) (Nat.le_refl _) (.string ⟨#[]⟩)).setN (N := w.heap.size) (i := 1) (Nat.le_refl _) (.int .i64 0)).setN (N := w.heap.size) (i := 2) (Nat.le_refl _) (.int .i64 0)).setN (N := w.heap.size) (i := 3) (Nat.le_refl _) (.bool false)).setN (N := w.heap.size) (i := 4) (Nat.le_refl _) (.bool false)).setN (N := w.heap.size) (i := 5) (Nat.le_refl _) (.string ⟨#[]⟩)).setN (N := w.heap.size) (i := 6) (Nat.le_refl _) (.string ⟨#[]⟩)).setN (N := w.heap.size) (i := 7) (Nat.le_refl _) (.int .i64 0)).setN (N := w.heap.size) (i := 8) (Nat.le_refl _) (.int .i64 0)).setN (N := w.heap.size) (i := 9) (Nat.le_refl _) (.slice none 0 0)).setN (N := w.heap.size) (i := 10) (Nat.le_refl _) (.slice none 0 0))
      clear hBa hAa hpa hFa
      go_wp2
      refine bodyPost_ret (dstate_res hAz rfl) rfl ?_
      exact ⟨⟨_, rfl, _, _, rfl, (ownB_nil _ (w.heap.size) (fun _ => False) 135 10 rOnD).rd kp_onD, (ownB_nil _ (w.heap.size) (fun _ => False) 76 11 (rStD 0)).rd (kp_stD _)⟩, hpz, hFz⟩
  | false =>
    rw [hi] at hI0
    rw [hi, if_neg (by decide)] at hr1
    have hM1 := fun w1 (hp : DR w1 X fin r) => hM1 w1 hp
    rw [take_not hi, hr1] at hM1
    clear hr1 hz hFa hH
    go_enter Tryz.func35, Tryz.ntmps35
    go_upto_region 2 with fail
    generalize (w.alloc zD11).alloc zD11 = w0 at *
    go_upto_region 5 with (first
      | (go_at_call 34; refine hI0.mono ?_; rintro e w1 ⟨rfl, hp1, hf1⟩)
      | (go_at_call 31; refine (hM1 _ hp1).mono ?_; rintro e w3 ⟨⟨u, rfl⟩, hp3, hf3a⟩))
    have hf3 := hf1.trans hf3a
    clear hp1 hf1 hf3a hI0 hM1
    have hA3 := hA0.fx hf3 (by omega)
    have hB3 := hB0.fx hf3 (by omega)
    have hT3 := hT0.fx hf3
    have hF3 := hF0.trans hf3
    have hs3 := Nat.le_trans hs0 hf3.size
    clear hA0 hB0 hp0 hT0 hF0 hs0 hf3
    go_upto_region 6 with (first
      | (go_at_call 32; refine (hN _ hp3 hT3).mono ?_; rintro e w4 ⟨rfl, hp4, hf4⟩; have hA4 := hA3.fx hf4 (by omega); have hB4 := hB3.fx hf4 (by omega); obtain ⟨b0, g0⟩ := hB4 0 _ rfl; obtain ⟨b1, g1⟩ := hB4 1 _ rfl; obtain ⟨b2, g2⟩ := hB4 2 _ rfl))
    have hA5 := ((hA4.far (X := w.heap.size + 1) (i := 0) (by omega) (.string ⟨#[]⟩)).far (X := w.heap.size + 1) (i := 1) (by omega) (.int .i64 0)).far (X := w.heap.size + 1) (i := 2) (by omega) (.int .i64 0)
    have hB5 : Bn _ (w.heap.size + 1) zDl := ((hB4.set (i := 0) (by simp) (.string ⟨#[]⟩)).set (i := 1) (by simp) (.int .i64 0)).set (i := 2) (by simp) (.int .i64 0)
    have hp5 := ((hp4.far (Y := w.heap.size + 1) (i := 0) (by omega) (.string ⟨#[]⟩)).far (Y := w.heap.size + 1) (i := 1) (by omega) (.int .i64 0)).far (Y := w.heap.size + 1) (i := 2) (by omega) (.int .i64 0)
    have hF5 := (((hF3.trans hf4).setN (N := w.heap.size + 1) (i := 0) (by omega) (.string ⟨#[]⟩)).setN (N := w.heap.size + 1) (i := 1) (by omega) (.int .i64 0)).setN (N := w.heap.size + 1) (i := 2) (by omega) (.int .i64 0)
    have hs5 : w.heap.size + 2 ≤ (((w4.setCell ⟨w.heap.size + 1, 0, none⟩ (.string ⟨#[]⟩)).setCell ⟨w.heap.size + 1, 1, none⟩ (.int .i64 0)).setCell ⟨w.heap.size + 1, 2, none⟩ (.int .i64 0)).heap.size := by simpa using Nat.le_trans hs3 hf4.size
    clear hA3 hB3 hp3 hT3 hF3 hA4 hB4 hp4 hf4 b0 g0 b1 g1 b2 g2 hs3 hN
    generalize ((w4.setCell ⟨w.heap.size + 1, 0, none⟩ (.string ⟨#[]⟩)).setCell ⟨w.heap.size + 1, 1, none⟩ (.int .i64 0)).setCell ⟨w.heap.size + 1, 2, none⟩ (.int .i64 0) = w5 at *
    go_upto_region 7 with (first
      | (go_at_call 31; refine (hM2 _ hp5).mono ?_; rintro e w6 ⟨⟨u, rfl⟩, hp6, hf6⟩))
    go_upto_region 10 with (first
      | (go_at_call 34; refine (hI1 _ hp6).mono ?_; rintro e w7 ⟨rfl, hp7, hf7⟩))
    go_upto_region 13 with (first
      | (go_at_call 34; refine (hI2 _ hp7).mono ?_; rintro e w8 ⟨rfl, hp8, hf8⟩))
    go_wp2_with (first
      | (go_at_call 34; refine (hI3 _ hp8).mono ?_; rintro e w9 ⟨rfl, hp9, hf9⟩))
    have hf69 := ((hf6.trans hf7).trans hf8).trans hf9
    have hA9 := hA5.fx hf69 (by omega)
    have hB9 := hB5.fx hf69 (by omega)
    have hF9 := hF5.trans hf69
    clear hA5 hB5 hp5 hF5 hs5 hf69 hf6 hf7 hf8 hf9 hp6 hp7 hp8 hI1 hI2 hI3 hIs hM0
    go_loopw [] (fun wr => DR wr X fin r1 ∧ Bn wr (w.heap.size + 1) zDl ∧ Bn wr w.heap.size zDl ∧ Fx X w wr) (fun _ => 0)
    case atStart => exact ⟨hp9, hB9, hA9, hF9⟩
    case round =>
      clear hp9 hB9 hA9 hF9
      obtain ⟨hp, hB, hA, hF⟩ := hrel
      have c5 := hp.c5
      go_upto_region 27 with (first
        | (go_at_call 31; refine (hM3 _ hp).mono ?_; rintro e wa ⟨⟨u, rfl⟩, hpa, hfa⟩))
      have hBa := hB.fx hfa (by omega)
      have hAa := hA.fx hfa (by omega)
      have hFa := hF.trans hfa
      obtain ⟨b0, g0⟩ := hBa 0 _ rfl
      obtain ⟨b1, g1⟩ := hBa 1 _ rfl
      obtain ⟨b2, g2⟩ := hBa 2 _ rfl
      obtain ⟨b3, g3⟩ := hBa 3 _ rfl
      obtain ⟨b4, g4⟩ := hBa 4 _ rfl
      obtain ⟨b5, g5⟩ := hBa 5 _ rfl
      obtain ⟨b6, g6⟩ := hBa 6 _ rfl
      obtain ⟨b7, g7⟩ := hBa 7 _ rfl
      obtain ⟨b8, g8⟩ := hBa 8 _ rfl
      obtain ⟨b9, g9⟩ := hBa 9 _ rfl
      obtain ⟨b10, g10⟩ := hBa 10 _ rfl
      obtain ⟨a0, k0⟩ := hAa 0 _ rfl
      obtain ⟨a1, k1⟩ := hAa 1 _ rfl
      obtain ⟨a2, k2⟩ := hAa 2 _ rfl
      obtain ⟨a3, k3⟩ := hAa 3 _ rfl
      obtain ⟨a4, k4⟩ := hAa 4 _ rfl
      obtain ⟨a5, k5⟩ := hAa 5 _ rfl
      obtain ⟨a6, k6⟩ := hAa 6 _ rfl
      obtain ⟨a7, k7⟩ := hAa 7 _ rfl
      obtain ⟨a8, k8⟩ := hAa 8 _ rfl
      obtain ⟨a9, k9⟩ := hAa 9 _ rfl
      obtain ⟨a10, k10⟩ := hAa 10 _ rfl
      have hAz := (((((((((((hAa.set (i := 0) (by simp) (.string ⟨#[]⟩)).set (i := 1) (by simp) (.int .i64 0)).set (i := 2) (by simp) (.int .i64 0)).set (i := 3) (by simp) (.bool false)).set (i := 4) (by simp) (.bool false)).set (i := 5) (by simp) (.string ⟨#[]⟩)).set (i := 6) (by simp) (.string ⟨#[]⟩)).set (i := 7) (by simp) (.int .i64 0)).set (i := 8) (by simp) (.int .i64 0)).set (i := 9) (by simp) (.slice none 0 0)).set (i := 10) (by simp) (.slice none 0 0))
      have hpz := (((((((((((hpa.far (Y := w.heap.size) (i := 0) (by omega) (.string ⟨#[]⟩)).far (Y := w.heap.size) (i := 1) (by omega) (.int .i64 0)).far (Y := w.heap.size) (i := 2) (by omega) (.int .i64 0)).far (Y := w.heap.size) (i := 3) (by omega) (.bool false)).far (Y := w.heap.size) (i := 4) (by omega) (.bool false)).far (Y := w.heap.size) (i := 5) (by omega) (.string ⟨#[]⟩)).far (Y := w.heap.size) (i := 6) (by omega) (.string ⟨#[]⟩)).far (Y := w.heap.size) (i := 7) (by omega) (.int .i64 0)).far (Y := w.heap.size) (i := 8) (by omega) (.int .i64 0)).far (Y := w.heap.size) (i := 9) (by omega) (.slice none 0 0)).far (Y := w.heap.size) (i := 10) (by omega) (.slice none 0 0))
      have hFz := (((((((((((hFa.setN (N := w.heap.size) (i := 0) (Nat.le_refl _) (.string ⟨#[]⟩)).setN (N := w.heap.size) (i := 1) (Nat.le_refl _) (.int .i64 0)).setN (N := w.heap.size) (i := 2) (Nat.le_refl _) (.int .i64 0)).setN (N := w.heap.size) (i := 3) (Nat.le_refl _) (.bool false)).setN (N := w.heap.size) (i := 4) (Nat.le_refl _) (.bool false)).setN (N := w.heap.size) (i := 5) (Nat.le_refl _) (.string ⟨#[]⟩)).setN (N := w.heap.size) (i := 6) (Nat.le_refl _) (.string ⟨#[]⟩)).setN (N := w.heap.size) (i := 7) (Nat.le_refl _) (.int .i64 0)).setN (N := w.heap.size) (i := 8) (Nat.le_refl _) (.int .i64 0)).setN (N := w.heap.size) (i := 9) (Nat.le_refl _) (.slice none 0 0)).setN (N := w.heap.size) (i := 10) (Nat.le_refl _) (.slice none 0 0))
      clear hBa hAa hpa hFa
      go_wp2
      refine bodyPost_ret (dstate_res hAz rfl) rfl ?_
      exact ⟨⟨_, rfl, _, _, rfl, (ownB_nil _ (w.heap.size) (fun _ => False) 135 10 rOnD).rd kp_onD, (ownB_nil _ (w.heap.size) (fun _ => False) 76 11 (rStD 0)).rd (kp_stD _)⟩, hpz, hFz⟩
/-- The document's state, at every depth. -/
theorem dstate_all : ∀ k, k ≤ 6 → SdC k
  | 0, _ => dstate_zero
  | k + 1, h => dstate_step k h (dstate_all k (by omega))
end Go.Proofs.YtccmmkhcacglhaaGreatDoor

/- The walk of the document's first. -/
namespace Go.Proofs.YtccmmkhcacglhaaGreatDoor
open Go.RowKit Go.Lib
set_option linter.unusedSimpArgs false
set_option linter.unusedVariables false

set_option maxHeartbeats 2000000 in
theorem refFirst_any (s : ByteArray) (w : World) (hT : Tabs w) (hs : s.size ≤ 140737488351232) (h0 : 0 < s.size) :
    Calls Tryz.prog 77 #[.string s] w fun e w' => e = .returned (tup3 (fst1 (runes (bl s))).1 (firstB (bl s)) (fst1 (runes (bl s))).2) ∧ Below w.heap.size w w' := by
  have hlen : (bl s).length = s.size := rfl
  have hne : bl s ≠ [] := by intro e; rw [e] at hlen; simp at hlen; omega
  have hc := runes_cons hne
  have hsp := spb_le (bl s)
  rw [hlen] at hsp
  have h20 := refNext_any s w hT
  have h21 := fun w1 (b1 : Below w.heap.size w w1) => refRun_any s w1 (hT.below b1 (Nat.le_refl _)) hs
  obtain ⟨r, hr⟩ : ∃ r, (nx (bl s)).1 = r := ⟨_, rfl⟩
  obtain ⟨q, hq⟩ : ∃ q, (nx (bl s)).2 = q := ⟨_, rfl⟩
  obtain ⟨k, hk⟩ : ∃ k, spb (bl s) = k := ⟨_, rfl⟩
  obtain ⟨m, hm⟩ : ∃ m, spn (runes (bl s)) = m := ⟨_, rfl⟩
  have hf : fst1 (runes (bl s)) = if letter r = true then (if m ≤ 24 then (1, m) else (0, 0)) else if dgt r = true then (if numb ((runes (bl s)).take m) = true then (2, m) else (0, 0)) else if sgn (runes (bl s)) = 0 then (0, 0) else (3, sgn (runes (bl s))) := by
    rw [← hr, ← hm]
    have := fst1_cons ((nx (bl s)).1, (bl s).take (nx (bl s)).2) (runes ((bl s).drop (nx (bl s)).2))
    rw [← hc] at this
    exact this
  have h12 := fun w1 => refLetter_any r w1
  have h30 := fun w1 => refDigit_any r w1
  have hkb : (byt ((runes (bl s)).take m)).length = k := by rw [← hm]; exact hk
  have h10 := fun w1 (b1 : Below w.heap.size w w1) => refName_any (s.extract 0 k) w1 (hT.below b1 (Nat.le_refl _)) (by rw [ByteArray.size_extract]; omega)
  rw [bl_to] at h10
  have h31 := fun w1 => refNumber_any (s.extract 0 k) w1 (by rw [ByteArray.size_extract]; omega)
  rw [bl_to] at h31
  have hkt : (bl s).take k = byt ((runes (bl s)).take m) := by rw [← hk, ← hm]; exact take_spb _
  have h32 := fun w1 => refSign_any s w1 h0
  rw [hr, hq] at h20
  simp only [hk, hm] at h21
  rw [hk] at hsp
  have hk0 : (0 : Int) ≤ (k : Int) := by omega
  have hk1 : (k : Int) ≤ (s.size : Int) := by omega
  unfold firstB
  by_cases hL : letter r = true
  · have hn := name_spb hne (by rw [hr]; exact hL)
    rw [hk, hm] at hn
    rw [hn] at h10
    rw [hL] at h12
    rw [if_pos hL] at hf
    by_cases h24 : m ≤ 24
    · rw [if_pos h24] at hf
      rw [decide_eq_true h24] at h10
      rw [hf]
      simp only [hkb]
      clear hr hq hk hm hf hkb hkt h31 h30 h32 hn hc hL
      go_enter Tryz.func77, Tryz.ntmps77
      go_wp2_with (first
        | (go_at_call 76; refine h20.mono ?_; rintro e w1 ⟨rfl, b1⟩; have h21' := h21 w1 b1; clear h20 h21)
        | (go_at_call 116; refine h21'.mono ?_; rintro e w2 ⟨rfl, b2⟩; have b3 := b1.trans (b2.mono b1.size); have h10' := h10 w2 b3; clear h21' b1 b2 h10)
        | (go_at_call 117; refine (h12 _).mono ?_; rintro e w' ⟨rfl, rfl⟩; clear h12)
        | (go_at_call 102; refine h10'.mono ?_; rintro e w4 ⟨rfl, b4⟩; have b5 := b3.trans (b4.mono b3.size); clear h10' b3 b4))
      go_ret3
      exact ⟨rfl, b5⟩
    · rw [if_neg h24] at hf
      rw [decide_eq_false h24] at h10
      rw [hf]
      clear hr hq hk hm hf hkb hkt h31 h30 h32 hn hc hL
      go_enter Tryz.func77, Tryz.ntmps77
      go_wp2_with (first
        | (go_at_call 76; refine h20.mono ?_; rintro e w1 ⟨rfl, b1⟩; have h21' := h21 w1 b1; clear h20 h21)
        | (go_at_call 116; refine h21'.mono ?_; rintro e w2 ⟨rfl, b2⟩; have b3 := b1.trans (b2.mono b1.size); have h10' := h10 w2 b3; clear h21' b1 b2 h10)
        | (go_at_call 117; refine (h12 _).mono ?_; rintro e w' ⟨rfl, rfl⟩; clear h12)
        | (go_at_call 102; refine h10'.mono ?_; rintro e w4 ⟨rfl, b4⟩; have b5 := b3.trans (b4.mono b3.size); clear h10' b3 b4))
      go_ret3
      exact ⟨rfl, b5⟩
  rw [if_neg hL] at hf
  rw [Bool.not_eq_true] at hL
  rw [hL] at h12
  by_cases hD : dgt r = true
  · have hn : numB ((bl s).take k) = numb ((runes (bl s)).take m) := by rw [hkt]; exact numB_numb _ (fun v hv => List.mem_of_mem_take hv)
    rw [hn] at h31
    rw [hD] at h30
    rw [if_pos hD] at hf
    cases hb : numb ((runes (bl s)).take m) with
    | true =>
      rw [hb] at h31
      rw [if_pos hb] at hf
      rw [hf]
      simp only [hkb]
      clear hr hq hk hm hf hkb hkt h10 h32 hn hc hL hD hb
      go_enter Tryz.func77, Tryz.ntmps77
      go_wp2_with (first
        | (go_at_call 76; refine h20.mono ?_; rintro e w1 ⟨rfl, b1⟩; have h21' := h21 w1 b1; clear h20 h21)
        | (go_at_call 116; refine h21'.mono ?_; rintro e w2 ⟨rfl, b2⟩; have b3 := b1.trans (b2.mono b1.size); clear h21' b1 b2)
        | (go_at_call 117; refine (h12 _).mono ?_; rintro e w' ⟨rfl, rfl⟩; clear h12)
        | (go_at_call 118; refine (h30 _).mono ?_; rintro e w' ⟨rfl, rfl⟩; clear h30)
        | (go_at_call 78; refine (h31 _).mono ?_; rintro e w' ⟨⟨x, rfl⟩, rfl⟩; clear h31))
      go_ret3
      exact ⟨rfl, b3⟩
    | false =>
      rw [hb] at h31
      rw [if_neg (by rw [hb]; decide)] at hf
      rw [hf]
      clear hr hq hk hm hf hkb hkt h10 h32 hn hc hL hD hb
      go_enter Tryz.func77, Tryz.ntmps77
      go_wp2_with (first
        | (go_at_call 76; refine h20.mono ?_; rintro e w1 ⟨rfl, b1⟩; have h21' := h21 w1 b1; clear h20 h21)
        | (go_at_call 116; refine h21'.mono ?_; rintro e w2 ⟨rfl, b2⟩; have b3 := b1.trans (b2.mono b1.size); clear h21' b1 b2)
        | (go_at_call 117; refine (h12 _).mono ?_; rintro e w' ⟨rfl, rfl⟩; clear h12)
        | (go_at_call 118; refine (h30 _).mono ?_; rintro e w' ⟨rfl, rfl⟩; clear h30)
        | (go_at_call 78; refine (h31 _).mono ?_; rintro e w' ⟨⟨x, rfl⟩, rfl⟩; clear h31))
      go_ret3
      exact ⟨rfl, b3⟩
  rw [if_neg hD] at hf
  rw [Bool.not_eq_true] at hD
  rw [hD] at h30
  have hsb := sgn_bytes (bl s)
  obtain ⟨g, hg⟩ : ∃ g, sgn (runes (bl s)) = g := ⟨_, rfl⟩
  rw [hg] at hf hsb
  simp only [hg] at h32
  by_cases h00 : g = 0
  · rw [if_pos h00] at hf
    rw [hf]
    subst h00
    clear hr hq hk hm hf hkb hkt h10 h31 hc hL hD hsb hg
    go_enter Tryz.func77, Tryz.ntmps77
    go_wp2_with (first
      | (go_at_call 76; refine h20.mono ?_; rintro e w1 ⟨rfl, b1⟩; have h21' := h21 w1 b1; clear h20 h21)
      | (go_at_call 116; refine h21'.mono ?_; rintro e w2 ⟨rfl, b2⟩; have b3 := b1.trans (b2.mono b1.size); clear h21' b1 b2)
      | (go_at_call 117; refine (h12 _).mono ?_; rintro e w' ⟨rfl, rfl⟩; clear h12)
      | (go_at_call 118; refine (h30 _).mono ?_; rintro e w' ⟨rfl, rfl⟩; clear h30)
      | (go_at_call 119; refine (h32 _).mono ?_; rintro e w' ⟨rfl, rfl⟩; clear h32))
    go_ret3
    exact ⟨rfl, b3⟩
  · rw [if_neg h00] at hf
    have hg0 : ((g : Int) == 0) = false := beq_eq_false_iff_ne.2 (by omega)
    rw [hf]
    simp only [hsb]
    clear hr hq hk hm hf hkb hkt h10 h31 hc hL hD hsb hg h00
    go_enter Tryz.func77, Tryz.ntmps77
    go_wp2_with (first
      | (go_at_call 76; refine h20.mono ?_; rintro e w1 ⟨rfl, b1⟩; have h21' := h21 w1 b1; clear h20 h21)
      | (go_at_call 116; refine h21'.mono ?_; rintro e w2 ⟨rfl, b2⟩; have b3 := b1.trans (b2.mono b1.size); clear h21' b1 b2)
      | (go_at_call 117; refine (h12 _).mono ?_; rintro e w' ⟨rfl, rfl⟩; clear h12)
      | (go_at_call 118; refine (h30 _).mono ?_; rintro e w' ⟨rfl, rfl⟩; clear h30)
      | (go_at_call 119; refine (h32 _).mono ?_; rintro e w' ⟨rfl, rfl⟩; clear h32))
    go_ret3
    exact ⟨rfl, b3⟩
end Go.Proofs.YtccmmkhcacglhaaGreatDoor

/- What the document's End does. -/
namespace Go.Proofs.YtccmmkhcacglhaaGreatDoor
open Go.RowKit Go.Lib
set_option linter.unusedSimpArgs false
set_option linter.unusedVariables false

set_option maxHeartbeats 1000000 in
theorem refEnd_any (s : ByteArray) (w : World) (hT : Tabs w) (hs : s.size ≤ 140737488351232) :
    Calls Tryz.prog 30 #[.string s] w fun e w' => e = .returned (.agg #[.int .i64 (endR (runes (bl s)) 1 1).1, .int .i64 (endR (runes (bl s)) 1 1).2]) ∧ Below w.heap.size w w' := by
  obtain ⟨⟨eL, eC⟩, hE⟩ : ∃ x, endR (runes (bl s)) 1 1 = x := ⟨_, rfl⟩
  rw [hE]
  have HE : Hid (endR (runes (bl s)) 1 1 = (eL, eC)) := hE
  clear hE
  go_enter Tryz.func30, Tryz.ntmps30
  go_wp2
  go_loopw [0] (fun u wr => ∃ (s' : ByteArray) (ln co : Int), u = .string s' ∧ s'.size ≤ s.size ∧ Hid (endR (runes (bl s')) ln co = (eL, eC)) ∧ 1 ≤ ln ∧ 1 ≤ co ∧ ln + s'.size ≤ 1 + s.size ∧ co + s'.size ≤ 1 + s.size ∧
    At wr (w.heap.size + 1) (.int .i64 ln) (.int .i64 co) ∧ (∃ a b, At wr w.heap.size a b) ∧ Below w.heap.size w wr) (fun u _ => szOf u)
  case atStart =>
    exact ⟨s, 1, 1, rfl, by omega, HE, by omega, by omega, by omega, by omega, At.new _ _ _ _ _ (by simp), ⟨_, _, (At.new w (.int .i64 0) (.int .i64 0) 24 _ rfl).keep ((Below.refl _ _).alloc (Nat.le_refl _) _)⟩, ((Below.refl _ _).alloc (Nat.le_refl _) _).alloc (by simp) _⟩
  case round =>
    obtain ⟨s', ln, co, rfl, hsz, hv, hl1, hc1, hl2, hc2, hA, ⟨a, b, hR⟩, hb⟩ := hrel
    have hTr := hT.below hb (Nat.le_refl _)
    by_cases hz : 0 < s'.size
    · have e1 : (s'.size : Int) > 0 := by omega
      have hne : bl s' ≠ [] := by intro e; have := bl_length s'; rw [e] at this; simp at this; omega
      have hc := runes_cons hne
      have h20 := refNext_any s' _ hTr
      have hps := nx_pos hne
      have hnl := nx_le hne
      rw [bl_length] at hnl
      have hfr := bl_from s' (nx (bl s')).2
      obtain ⟨r, hr⟩ : ∃ r, (nx (bl s')).1 = r := ⟨_, rfl⟩
      obtain ⟨q, hq⟩ : ∃ q, (nx (bl s')).2 = q := ⟨_, rfl⟩
      rw [hr, hq] at h20 hc
      rw [hq] at hps hnl hfr
      have hq0 : (0 : Int) ≤ (q : Int) := by omega
      have hq1 : (q : Int) ≤ (s'.size : Int) := by omega
      have hsx : (s'.extract q s'.size).size = s'.size - q := by rw [ByteArray.size_extract]; omega
      have hvv := hv.out
      rw [hc] at hvv
      by_cases h10 : r = 10
      · subst h10
        have hn : Hid (endR (runes (bl (s'.extract q s'.size))) (ln + 1) 1 = (eL, eC)) := by rw [hfr]; exact hvv
        clear hvv hc hr hq hne hT hTr hfr
        go_wp2_with (first
          | (go_at_call 76; refine h20.mono ?_; rintro e w1 ⟨rfl, b1⟩; have hA1 := hA.keep b1; have hR1 := hR.keep b1; obtain ⟨y0, y1, y2, y3⟩ := id hA1; have b2 := hb.trans (b1.mono hb.size); clear h20 hA hR hb))
        go_roundw
        case rel =>
          exact ⟨_, ln + 1, 1, rfl, by omega, hn, by omega, by omega, by omega, by omega, ((hA1.set1 _).set0 _).set1 _, ⟨a, b, ((hR1.far (by omega) _).far (by omega) _).far (by omega) _⟩, ((b2.setCell (by simp) _).setCell (by simp) _).setCell (by simp) _⟩
        case measure => simp [szOf]; omega
      · have h10' : (r == 10) = false := beq_eq_false_iff_ne.2 h10
        have hn : Hid (endR (runes (bl (s'.extract q s'.size))) ln (co + 1) = (eL, eC)) := by rw [hfr]; rw [endR, if_neg h10] at hvv; exact hvv
        clear hvv hc hr hq hne hT hTr hfr h10
        go_wp2_with (first
          | (go_at_call 76; refine h20.mono ?_; rintro e w1 ⟨rfl, b1⟩; have hA1 := hA.keep b1; have hR1 := hR.keep b1; obtain ⟨y0, y1, y2, y3⟩ := id hA1; have b2 := hb.trans (b1.mono hb.size); clear h20 hA hR hb))
        go_roundw
        case rel =>
          exact ⟨_, ln, co + 1, rfl, by omega, hn, by omega, by omega, by omega, by omega, hA1.set1 _, ⟨a, b, hR1.far (by omega) _⟩, b2.setCell (by simp) _⟩
        case measure => simp [szOf]; omega
    · have e1 : ¬ (s'.size : Int) > 0 := by omega
      have hnil : bl s' = [] := List.eq_nil_of_length_eq_zero (by rw [bl_length]; omega)
      have hvv := hv.out
      rw [hnil] at hvv
      have h2 : (ln, co) = (eL, eC) := hvv
      obtain ⟨rfl, rfl⟩ := Prod.mk.inj h2
      obtain ⟨y0, y1, y2, y3⟩ := id hA
      obtain ⟨z0, z1, z2, z3⟩ := id hR
      have r0 := (hR.set0 (.int .i64 ln)).set1 (.int .i64 co)
      obtain ⟨u0, u1, u2, u3⟩ := id r0
      have b2 : Below w.heap.size w ((wr.setCell ⟨w.heap.size, 0, none⟩ (.int .i64 ln)).setCell ⟨w.heap.size, 1, none⟩ (.int .i64 co)) := (hb.setCell (by simp) _).setCell (by simp) _
      clear hvv hnil h2 hT hTr hA hR
      go_wp2
      exact bodyPost_ret (v := .agg #[.int .i64 ln, .int .i64 co]) (by simp [results, Tryz.results30, go_sem, u0, u1]) rfl ⟨rfl, b2⟩
end Go.Proofs.YtccmmkhcacglhaaGreatDoor

/- What the document's Words does. -/
namespace Go.Proofs.YtccmmkhcacglhaaGreatDoor
open Go.RowKit Go.Lib
set_option linter.unusedSimpArgs false
set_option linter.unusedVariables false
attribute [local go_sem ↓] Go.wp_at_zero Go.wp_at_succ

theorem Tryz.infoWord : (Tryz.prog.info? 127).map (fun i => (i.zero, i.size, i.bytes)) = some (some (.agg #[.int .i64 0, .string ⟨#[]⟩, .int .i64 0, .int .i64 0]), 4, 40) := by kernel_rfl

set_option maxRecDepth 100000 in
set_option maxHeartbeats 4000000 in
theorem refWords_any (s : ByteArray) (w : World) (hT : Tabs w) (hs : s.size ≤ 140737488351232) :
    Calls Tryz.prog 29 #[.string s] w fun e w' => ∃ u, e = .returned (.tuple #[u, .agg #[.int .i64 (wordsS (bl s)).2.1.1, .int .i64 (wordsS (bl s)).2.1.2], .int .i64 (wordsS (bl s)).2.2]) ∧ OwnW w' w.heap.size 127 u (wordsS (bl s)).1 ∧ Below w.heap.size w w' := by
  obtain ⟨i0, hi, hz0, hz1, hz2⟩ := info_parts Tryz.infoWord
  by_cases hlong : 12000 < s.size
  · rw [words_long (show 12000 < (bl s).length from hlong)]
    have e1 : (s.size : Int) > 12000 := by omega
    obtain ⟨x0, x1, x2, x3⟩ := At.new w (.int .i64 0) (.int .i64 0) 24 _ rfl
    have hA := ((At.new w (.int .i64 0) (.int .i64 0) 24 _ rfl).set0 (.int .i64 1)).set1 (.int .i64 1)
    obtain ⟨y0, y1, y2, y3⟩ := id hA
    go_enter Tryz.func29, Tryz.ntmps29
    go_wp2
    exact bodyPost_ret (v := .tuple #[.slice none 0 0, .agg #[.int .i64 1, .int .i64 1], .int .i64 4]) (by simp [results, Tryz.results29, go_sem]) rfl ⟨_, rfl, ownW_nil _ _ _, by first | exact (Below.refl _ _).alloc (Nat.le_refl _) _ | exact (((Below.refl _ _).alloc (Nat.le_refl _) _).setCell (by simp) _).setCell (by simp) _⟩
  have e1 : ¬ (s.size : Int) > 12000 := by omega
  obtain ⟨⟨X, ⟨pL, pC⟩, er⟩, hE⟩ : ∃ x, wordsS (bl s) = x := ⟨_, rfl⟩
  rw [hE]
  have HE : Hid (comb [] (wrds (runes (bl s)) 1 1 0) = (X, (pL, pC), er)) := by
    show comb [] (wrds (runes (bl s)) 1 1 0) = (X, (pL, pC), er)
    rw [comb_nil, ← hE]
    unfold wordsS
    rw [if_neg (show ¬ 12000 < (bl s).length from hlong)]
  clear hE
  go_enter Tryz.func29, Tryz.ntmps29
  go_wp2
  go_loopw [0, 5] (fun u o wr => ∃ (s' : ByteArray) (ln co : Int) (acc : List Wd), u = .string s' ∧ s'.size ≤ s.size ∧ Hid (comb acc (wrds (runes (bl s')) ln co acc.length) = (X, (pL, pC), er)) ∧ 1 ≤ ln ∧ 1 ≤ co ∧ ln + s'.size ≤ 1 + s.size ∧ co + s'.size ≤ 1 + s.size ∧ acc.length ≤ 3000 ∧
    OwnW wr (w.heap.size + 2) 127 o acc ∧ At wr (w.heap.size + 1) (.int .i64 ln) (.int .i64 co) ∧ (∃ a b, At wr w.heap.size a b) ∧ w.heap.size + 2 ≤ wr.heap.size ∧ Below w.heap.size w wr) (fun u _ _ => szOf u)
  case atStart =>
    exact ⟨s, 1, 1, [], rfl, by omega, HE, by omega, by omega, by omega, by omega, by simp, ownW_nil _ _ _, At.new _ _ _ _ _ (by simp), ⟨_, _, (At.new w (.int .i64 0) (.int .i64 0) 24 _ rfl).keep ((Below.refl _ _).alloc (Nat.le_refl _) _)⟩, by simp, ((Below.refl _ _).alloc (Nat.le_refl _) _).alloc (by simp) _⟩
  case round =>
    obtain ⟨s', ln, co, acc, rfl, hsz, hv, hl1, hc1, hl2, hc2, hacc, ho, hA, ⟨a, b, hR⟩, hsize, hb⟩ := hrel
    have hTr := hT.below hb (Nat.le_refl _)
    obtain ⟨y0, y1, y2, y3⟩ := id hA
    obtain ⟨z0, z1, z2, z3⟩ := id hR
    by_cases hz : 0 < s'.size
    · have e2 : (s'.size : Int) > 0 := by omega
      have e3 : (0 : Int) < (s'.size : Int) := by omega
      have e4 : (1 : Int) ≤ (s'.size : Int) := by omega
      obtain ⟨c, r, hl⟩ : ∃ c r, bl s' = c :: r := by
        match hbl : bl s' with
        | [] => have := bl_length s'; rw [hbl] at this; simp at this; omega
        | c :: r => exact ⟨c, r, rfl⟩
      have hs0 : s'[0] = c := by rw [get_bl]; simp [hl]
      have hf1 : bl (s'.extract 1 s'.size) = r := by rw [bl_from, hl]; rfl
      have hsx1 : (s'.extract 1 s'.size).size = s'.size - 1 := by rw [ByteArray.size_extract]; omega
      have hvv := hv.out
      rw [hl] at hvv
      by_cases c10 : c.toNat = 10
      · have g10 : ((c.toNat : Int) == 10) = true := by simp; omega
        rw [runes_small r (k := 10) (by omega) c10, wrds_cons, if_pos (by rfl)] at hvv
        have hn : Hid (comb acc (wrds (runes (bl (s'.extract 1 s'.size))) (ln + 1) 1 acc.length) = (X, (pL, pC), er)) := by rw [hf1]; exact hvv
        clear hvv hl hf1 hT hTr c10
        go_wp2
        go_roundw
        case rel =>
          exact ⟨_, ln + 1, 1, acc, rfl, by omega, hn, by omega, by omega, by omega, by omega, hacc, (ho.set (by simp) _).set (by simp) _, (hA.set0 _).set1 _, ⟨a, b, (hR.far (by omega) _).far (by omega) _⟩, by simpa using hsize, (hb.setCell (by simp) _).setCell (by simp) _⟩
        case measure => simp [szOf]; omega
      have g10 : ((c.toNat : Int) == 10) = false := beq_eq_false_iff_ne.2 (by omega)
      by_cases c32 : c.toNat = 32 ∨ c.toNat = 9
      · have hn : Hid (comb acc (wrds (runes (bl (s'.extract 1 s'.size))) ln (co + 1) acc.length) = (X, (pL, pC), er)) := by
          rw [hf1]
          rcases c32 with h | h
          · rw [runes_small r (k := 32) (by omega) h, wrds_cons, if_neg (by simp), if_pos (by simp)] at hvv; exact hvv
          · rw [runes_small r (k := 9) (by omega) h, wrds_cons, if_neg (by simp), if_pos (by simp)] at hvv; exact hvv
        clear hvv hl hf1 hT hTr
        rcases c32 with h | h
        · have g32 : ((c.toNat : Int) == 32) = true := by simp; omega
          clear h
          go_wp2
          go_roundw
          case rel =>
            exact ⟨_, ln, co + 1, acc, rfl, by omega, hn, by omega, by omega, by omega, by omega, hacc, ho.set (by simp) _, hA.set1 _, ⟨a, b, hR.far (by omega) _⟩, by simpa using hsize, hb.setCell (by simp) _⟩
          case measure => simp [szOf]; omega
        · have g32 : ((c.toNat : Int) == 32) = false := beq_eq_false_iff_ne.2 (by omega)
          have g9 : ((c.toNat : Int) == 9) = true := by simp; omega
          clear h
          go_wp2
          go_roundw
          case rel =>
            exact ⟨_, ln, co + 1, acc, rfl, by omega, hn, by omega, by omega, by omega, by omega, hacc, ho.set (by simp) _, hA.set1 _, ⟨a, b, hR.far (by omega) _⟩, by simpa using hsize, hb.setCell (by simp) _⟩
          case measure => simp [szOf]; omega
      have g32 : ((c.toNat : Int) == 32) = false := beq_eq_false_iff_ne.2 (by omega)
      have g9 : ((c.toNat : Int) == 9) = false := beq_eq_false_iff_ne.2 (by omega)
      by_cases c35 : c.toNat = 35
      · have g35 : ((c.toNat : Int) == 35) = true := by simp; omega
        obtain ⟨R, hRR⟩ : ∃ R, R = runes (bl s') := ⟨_, rfl⟩
        have hp1 : 1 ≤ rest R := by rw [hRR, hl, runes_small r (k := 35) (by omega) c35]; exact rest_pos (by simp)
        have hN : Hid (comb acc (wrds (R.drop (rest R)) ln (co + rest R) acc.length) = (X, (pL, pC), er)) := by
          have h5 := hvv
          rw [← hl, ← hRR] at h5
          have h6 : R = (((35 : Nat) : Int), [c]) :: runes r := by rw [hRR, hl, runes_small r (k := 35) (by omega) c35]
          rw [h6] at h5 ⊢
          rw [wrds_cons, if_neg (by simp), if_neg (by simp), if_pos (by simp)] at h5
          exact h5
        have H0 : Hid (Rem R 0 (bl s')) := by rw [hRR]; exact Rem.zero
        clear hvv hl hf1 c35 c32 hRR y0 y1 y2 y3 z0 z1 z2 z3
        go_wp2
        go_loopw [0] (fun u wq => ∃ (s2 : ByteArray) (j : Nat), u = .string s2 ∧ j + s2.size ≤ s'.size ∧ Hid (Rem R j (bl s2)) ∧ OwnW wq (w.heap.size + 2) 127 u5 acc ∧ At wq (w.heap.size + 1) (.int .i64 ln) (.int .i64 (co + j)) ∧ (∃ a b, At wq w.heap.size a b) ∧ w.heap.size + 2 ≤ wq.heap.size ∧ Below w.heap.size w wq) (fun u _ => szOf u)
        case atStart => exact ⟨s', 0, rfl, by omega, H0, ho, by simpa using hA, ⟨a, b, hR⟩, hsize, hb⟩
        case round =>
          obtain ⟨s2, j, rfl, hj, hM, ho2, hA2, ⟨a2, b2, hR2⟩, hsz2, hb2⟩ := hrel
          have hT2 := hT.below hb2 (Nat.le_refl _)
          obtain ⟨y0, y1, y2, y3⟩ := id hA2
          by_cases hz3 : 0 < s2.size
          · have f2 : (s2.size : Int) > 0 := by omega
            have f3 : (0 : Int) < (s2.size : Int) := by omega
            obtain ⟨d, r2, hl2⟩ : ∃ d r2, bl s2 = d :: r2 := by
              match hbl : bl s2 with
              | [] => have := bl_length s2; rw [hbl] at this; simp at this; omega
              | d :: r2 => exact ⟨d, r2, rfl⟩
            have hd0 : s2[0] = d := by rw [get_bl]; simp [hl2]
            have hMM := hM.out
            rw [hl2] at hMM
            by_cases d10 : d.toNat = 10
            · have f10 : ((d.toNat : Int) != 10) = false := by simp; omega
              have hE := hMM.stop d10
              have hn : Hid (comb acc (wrds (runes (bl s2)) ln (co + (j : Int)) acc.length) = (X, (pL, pC), er)) := by
                have := hN.out
                rw [hE, ← hM.out.left] at this
                exact this
              clear hMM hl2 hT2 d10
              go_wp2
              go_roundw
              case rel => exact ⟨_, ln, co + j, acc, rfl, by omega, hn, by omega, by omega, by omega, by omega, hacc, ho2, hA2, ⟨a2, b2, hR2⟩, hsz2, hb2⟩
              case measure => simp [szOf]; omega
            · have f10 : ((d.toNat : Int) != 10) = true := by simp; omega
              have hst := hMM.step d10
              rw [← hl2] at hst
              have hne : bl s2 ≠ [] := by rw [hl2]; simp
              have h20 := refNext_any s2 _ hT2
              have hps := nx_pos hne
              have hnl := nx_le hne
              rw [bl_length] at hnl
              have hfr := bl_from s2 (nx (bl s2)).2
              obtain ⟨x, hx⟩ : ∃ x, (nx (bl s2)).1 = x := ⟨_, rfl⟩
              obtain ⟨q, hq⟩ : ∃ q, (nx (bl s2)).2 = q := ⟨_, rfl⟩
              rw [hx, hq] at h20
              rw [hq] at hps hnl hfr hst
              have hq0 : (0 : Int) ≤ (q : Int) := by omega
              have hq1 : (q : Int) ≤ (s2.size : Int) := by omega
              have hsx : (s2.extract q s2.size).size = s2.size - q := by rw [ByteArray.size_extract]; omega
              have hn : Hid (Rem R (j + 1) (bl (s2.extract q s2.size))) := by rw [hfr]; exact hst
              have hw1 : IntKind.i64.wrap (co + (j : Int) + 1) = co + j + 1 := by rw [IntKind.wrap_i64]; omega
              clear hMM hl2 hT2 d10 hst hne hfr hx hq
              go_wp2_with (first
                | (go_at_call 76; refine h20.mono ?_; rintro e w1 ⟨rfl, b1⟩; have hA3 := hA2.keep b1; have hR3 := hR2.keep b1; have ho3 := ho2.below b1 (Nat.le_refl _); obtain ⟨v0, v1, v2, v3⟩ := id hA3; have bb := hb2.trans (b1.mono hb2.size); have hsz3 : w.heap.size + 2 ≤ w1.heap.size := Nat.le_trans hsz2 b1.size; clear h20 hA2 hR2 hb2 ho2 y0 y1 y2 y3))
              go_roundw
              case rel => exact ⟨_, j + 1, rfl, by omega, hn, ho3.set (by simp) _, by have := hA3.set1 (.int .i64 (co + (j : Int) + 1)); rw [show co + ((j + 1 : Nat) : Int) = co + (j : Int) + 1 by omega]; exact this, ⟨a2, b2, hR3.far (by omega) _⟩, by simpa using hsz3, bb.setCell (by simp) _⟩
              case measure => simp [szOf]; omega
          · have f2 : ¬ (s2.size : Int) > 0 := by omega
            have hnil : bl s2 = [] := List.eq_nil_of_length_eq_zero (by rw [bl_length]; omega)
            have hMM := hM.out
            rw [hnil] at hMM
            have hE := hMM.stop_nil
            have hn : Hid (comb acc (wrds (runes (bl s2)) ln (co + (j : Int)) acc.length) = (X, (pL, pC), er)) := by
              have := hN.out
              rw [hE, ← hM.out.left] at this
              exact this
            clear hMM hnil hT2
            go_wp2
            go_roundw
            case rel => exact ⟨_, ln, co + j, acc, rfl, by omega, hn, by omega, by omega, by omega, by omega, hacc, ho2, hA2, ⟨a2, b2, hR2⟩, hsz2, hb2⟩
            case measure => simp [szOf]; omega
      have g35 : ((c.toNat : Int) == 35) = false := beq_eq_false_iff_ne.2 (by omega)
      have h23 := refFirst_any s' _ hTr (by omega) hz
      have hcs := runes_cons (l := c :: r) (by simp)
      have n10 : ¬ (nx (c :: r)).1 = 10 := fun e => c10 ((head_is c r (k := 10) (by omega)).1 e)
      have n32 : ¬ ((nx (c :: r)).1 = 32 ∨ (nx (c :: r)).1 = 9) := fun e => c32 (e.elim (fun e => .inl ((head_is c r (k := 32) (by omega)).1 e)) (fun e => .inr ((head_is c r (k := 9) (by omega)).1 e)))
      have n35 : ¬ (nx (c :: r)).1 = 35 := fun e => c35 ((head_is c r (k := 35) (by omega)).1 e)
      rw [hcs, wrds_cons, if_neg n10, if_neg n32, if_neg n35, ← hcs, ← hl] at hvv
      have hfl : (fst1 (runes (bl s'))).1 ≠ 0 → 1 ≤ (fst1 (runes (bl s'))).2 ∧ (fst1 (runes (bl s'))).2 ≤ (runes (bl s')).length := by rw [hl, hcs]; exact fst1_le _ _
      obtain ⟨K, hK⟩ : ∃ K, (fst1 (runes (bl s'))).1 = K := ⟨_, rfl⟩
      obtain ⟨m, hm⟩ : ∃ m, (fst1 (runes (bl s'))).2 = m := ⟨_, rfl⟩
      obtain ⟨n, hn⟩ : ∃ n, firstB (bl s') = n := ⟨_, rfl⟩
      have hn2 : (byt ((runes (bl s')).take m)).length = n := by rw [← hn, ← hm]; rfl
      rw [hK, hm] at hvv hfl h23
      rw [hn] at h23
      by_cases k0 : K = 0
      · rw [if_pos k0, comb_err _ _ _ (by decide)] at hvv
        simp only [Prod.mk.injEq] at hvv
        obtain ⟨rfl, ⟨rfl, rfl⟩, rfl⟩ := hvv
        subst k0
        clear hl hf1 hcs n10 n32 n35 hfl hK hm hn hn2 c10 c32 c35 hT hTr y0 y1 y2 y3 z0 z1 z2 z3
        go_wp2_with (first
          | (go_at_call 77; refine h23.mono ?_; rintro e w1 ⟨rfl, b1⟩; have hA3 := hA.keep b1; have hR3 := hR.keep b1; obtain ⟨y0, y1, y2, y3⟩ := id hA3; obtain ⟨z0, z1, z2, z3⟩ := id hR3; have bb := hb.trans (b1.mono hb.size); clear h23 hA hR hb ho))
        have hQ := (hR3.set0 (.int .i64 ln)).set1 (.int .i64 co)
        obtain ⟨q0, q1, q2, q3⟩ := id hQ
        have bq : Below w.heap.size w ((w1.setCell ⟨w.heap.size, 0, none⟩ (.int .i64 ln)).setCell ⟨w.heap.size, 1, none⟩ (.int .i64 co)).drew := ((bb.setCell (by simp) _).setCell (by simp) _).drew
        clear hQ hA3 hR3
        go_region
        all_goals go_wp2
        all_goals exact bodyPost_ret (v := .tuple #[.slice none 0 0, .agg #[.int .i64 ln, .int .i64 co], .int .i64 11]) (by simp [results, Tryz.results29, go_sem, q0, q1]) rfl ⟨_, rfl, ownW_nil _ _ _, bq⟩
      have hk0 : ((K : Int) == 0) = false := beq_eq_false_iff_ne.2 (by omega)
      obtain ⟨hm1, hm2⟩ := hfl k0
      rw [if_neg k0] at hvv
      by_cases a3 : acc.length = 3000
      · rw [if_pos a3, comb_err _ _ _ (by decide)] at hvv
        simp only [Prod.mk.injEq] at hvv
        obtain ⟨rfl, ⟨rfl, rfl⟩, rfl⟩ := hvv
        have hlen : ∃ ao ac, u5 = .slice ao acc.length ac := by
          rcases ho.2 with ⟨h, h2⟩ | ⟨g, cp, _, h, _⟩
          · exact ⟨none, 0, by rw [h, h2]⟩
          · exact ⟨_, _, h⟩
        obtain ⟨ao, ac, rfl⟩ := hlen
        have h3 : ((acc.length : Int) == 3000) = true := by simp; omega
        clear hl hf1 hcs n10 n32 n35 hfl hK hm hn hn2 c10 c32 c35 hT hTr y0 y1 y2 y3 z0 z1 z2 z3 k0 a3
        go_wp2_with (first
          | (go_at_call 77; refine h23.mono ?_; rintro e w1 ⟨rfl, b1⟩; have hA3 := hA.keep b1; have hR3 := hR.keep b1; obtain ⟨y0, y1, y2, y3⟩ := id hA3; obtain ⟨z0, z1, z2, z3⟩ := id hR3; have bb := hb.trans (b1.mono hb.size); clear h23 hA hR hb ho))
        have hQ := (hR3.set0 (.int .i64 ln)).set1 (.int .i64 co)
        obtain ⟨q0, q1, q2, q3⟩ := id hQ
        have bq : Below w.heap.size w ((w1.setCell ⟨w.heap.size, 0, none⟩ (.int .i64 ln)).setCell ⟨w.heap.size, 1, none⟩ (.int .i64 co)).drew := ((bb.setCell (by simp) _).setCell (by simp) _).drew
        clear hQ hA3 hR3
        go_region
        all_goals go_wp2
        all_goals exact bodyPost_ret (v := .tuple #[.slice none 0 0, .agg #[.int .i64 ln, .int .i64 co], .int .i64 4]) (by simp [results, Tryz.results29, go_sem, q0, q1]) rfl ⟨_, rfl, ownW_nil _ _ _, bq⟩
      rw [if_neg a3, comb_pre] at hvv
      have hge := byt_ge (l := bl s') ((runes (bl s')).take m) (fun v hv => List.mem_of_mem_take hv)
      rw [List.length_take, Nat.min_eq_left hm2, hn2] at hge
      have hspl := byt_split (runes (bl s')) m
      rw [byt_runes _ _ (Nat.le_refl _), hn2, bl_length] at hspl
      have hrd := runes_drop m (bl s') hm2
      rw [hn2, ← bl_from] at hrd
      have htx := txt_eq s' m
      rw [hn2] at htx
      obtain ⟨seg, hseg⟩ : ∃ seg, (runes (bl s')).take m = seg := ⟨_, rfl⟩
      rw [hseg] at hvv htx
      have hN : Hid (comb (acc ++ [(K, seg, ln, co)]) (wrds (runes (bl (s'.extract n s'.size))) ln (co + (m : Int)) (acc ++ [((K, seg, ln, co) : Wd)]).length) = (X, (pL, pC), er)) := by
        rw [hrd, List.length_append]; exact hvv
      have hq0 : (0 : Int) ≤ (n : Int) := by omega
      have hq1 : (n : Int) ≤ (s'.size : Int) := by omega
      have hsx : (s'.extract n s'.size).size = s'.size - n := by rw [ByteArray.size_extract]; omega
      have hw1 : IntKind.i64.wrap (co + (m : Int)) = co + m := by rw [IntKind.wrap_i64]; omega
      have hlen : ∃ ao ac, u5 = .slice ao acc.length ac := by
        rcases ho.2 with ⟨h, h2⟩ | ⟨g, cp, _, h, _⟩
        · exact ⟨none, 0, by rw [h, h2]⟩
        · exact ⟨_, _, h⟩
      obtain ⟨ao, ac, hu5⟩ := hlen
      have h3 : ((acc.length : Int) == 3000) = false := beq_eq_false_iff_ne.2 (by omega)
      have hac : acc.length < 3000 := by omega
      clear hl hf1 hcs n10 n32 n35 hfl hK hm hn hn2 c10 c32 c35 hT hTr y0 y1 y2 y3 z0 z1 z2 z3 k0 a3 hvv hrd hseg hspl
      subst hu5
      go_wp2_with (first
        | (go_at_call 77; refine h23.mono ?_; rintro e w1 ⟨rfl, b1⟩; have hA3 := hA.keep b1; have hR3 := hR.keep b1; have ho3 := ho.below b1 (Nat.le_refl _); obtain ⟨y0, y1, y2, y3⟩ := id hA3; have bb := hb.trans (b1.mono hb.size); have hsz3 : w.heap.size + 2 ≤ w1.heap.size := Nat.le_trans hsize b1.size; clear h23 hA hR hb ho))
      go_region_held_law (fun w' => w'.cell? ⟨w.heap.size + 1, 0, none⟩ = some (.int .i64 ln) ∧ w'.cell? ⟨w.heap.size + 1, 1, none⟩ = some (.int .i64 co))
        (first | exact ⟨y0, y1⟩ | exact ⟨p0, p1⟩ | go_keep)
        ((refine step_append_both _ (by rfl) (.tmp 74) (.tmp 81) 62 62 (by rfl) (w.heap.size + 2) 127 i0 (.agg #[.int .i64 0, .string ⟨#[]⟩, .int .i64 0, .int .i64 0]) 4 40 Tryz.underlying62 hi hz0 hz1 hz2 rfl _ acc.length _ (by rfl) ((World.ownsRow.alloc ho3 _).drew) _ 1 (celW (K, seg, ln, co)) (by rfl) (src_word_drew Tryz.underlying62 w1 (K, seg, ln, co)) 1 (.inr (by omega)) (Nat.le_refl _) (by unfold maxLen; omega) (by simp; omega) ?_; intro v4 w4 ho4 hg4 _; have bel4 : Below (w.heap.size + 2) w1 w4 := (((Below.refl _ _).alloc hsz3 _).drew).grown hg4 (by simp; omega) (fun k hk => (World.ownsRow.lt ho3 k hk).1); obtain ⟨p0, p1, p2, p3⟩ := hA3.keepB bel4 (by omega)))
      have hA4 : At w4 (w.heap.size + 1) (.int .i64 ln) (.int .i64 co) := ⟨p0, p1, p2, p3⟩
      have hR4 := hR3.keepB bel4 (by omega)
      have b4 := bb.trans (bel4.mono (by omega))
      have ho5 := ownW_snoc ho4
      have hsz4 : w.heap.size + 2 ≤ w4.heap.size := Nat.le_trans hsz3 bel4.size
      clear ho4 hg4 ho3 hA3 hR3 bel4 bb y0 y1 y2 y3 htx
      go_wp2
      go_roundw
      case rel =>
        exact ⟨_, ln, co + m, acc ++ [(K, seg, ln, co)], rfl, by omega, hN, by omega, by omega, by omega, by omega, by simp; omega, ho5.set (by simp) _, hA4.set1 _, ⟨a, b, hR4.far (by omega) _⟩, by simpa using hsz4, b4.setCell (by simp) _⟩
      case measure => simp [szOf]; omega
    · have e2 : ¬ (s'.size : Int) > 0 := by omega
      have hnil : bl s' = [] := List.eq_nil_of_length_eq_zero (by rw [bl_length]; omega)
      have hvv := hv.out
      rw [hnil, runes_nil, comb_end] at hvv
      simp only [Prod.mk.injEq] at hvv
      obtain ⟨rfl, ⟨rfl, rfl⟩, rfl⟩ := hvv
      have hA2 := (hR.set0 (.int .i64 0)).set1 (.int .i64 0)
      obtain ⟨q0, q1, q2, q3⟩ := id hA2
      have b2 : Below w.heap.size w ((wr.setCell ⟨w.heap.size, 0, none⟩ (.int .i64 0)).setCell ⟨w.heap.size, 1, none⟩ (.int .i64 0)) := (hb.setCell (by simp) _).setCell (by simp) _
      have o2 := (ho.set (a := ⟨w.heap.size, 0, none⟩) (by simp) (.int .i64 0)).set (a := ⟨w.heap.size, 1, none⟩) (by simp) (.int .i64 0)
      clear hnil hT hTr hA hR hA2 hv HE ho
      go_wp2
      exact bodyPost_ret (v := .tuple #[u5, .agg #[.int .i64 0, .int .i64 0], .int .i64 0]) (by simp [results, Tryz.results29, go_sem, q0, q1]) rfl ⟨_, rfl, o2.base (by omega), b2⟩
end Go.Proofs.YtccmmkhcacglhaaGreatDoor
