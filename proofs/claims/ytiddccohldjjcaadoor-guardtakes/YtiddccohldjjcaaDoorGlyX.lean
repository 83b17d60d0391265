
/- What the document's run and Name do. -/
import Derived.Test.YtiddccohldjjcaaDoorGlyW
namespace Go.Proofs.YtiddccohldjjcaaDoor
open Go.RowKit Go.Lib
set_option linter.unusedSimpArgs false
set_option linter.unusedVariables false

set_option maxHeartbeats 400000 in
theorem refRun_any (s : ByteArray) (w : World) (hT : Tabs w) (hs : s.size ≤ 140737488351232) :
    Calls Tryd.prog 31 #[.string s] w fun e w' => e = .returned (.tuple #[.int .i64 (spb (bl s) : Int), .int .i64 (spn (runes (bl s)) : Int)]) ∧ Below w.heap.size w w' := by
  go_enter Tryd.func31, Tryd.ntmps31
  go_wp2
  go_loopw [4, 5] (fun a b wr => ∃ (m k : Nat), a = .int .i64 (k : Int) ∧ b = .int .i64 (m : Int) ∧ Hid (Adv (bl s) m k) ∧ Below w.heap.size w wr) (fun a _ _ => s.size - (RowKit.intOf a).toNat)
  case atStart => exact ⟨0, 0, rfl, rfl, Adv.zero _, Below.refl _ _⟩
  case round =>
    obtain ⟨m, k, rfl, rfl, ha, hb⟩ := hrel
    have hle := ha.out.le
    have hfw := ha.out.few
    rw [bl_length] at hle
    have hTr := hT.below hb (Nat.le_refl _)
    by_cases hk : k < s.size
    · have hk' : (k : Int) < (s.size : Int) := by omega
      have hk0 : (0 : Int) ≤ (k : Int) := by omega
      have h20 := refNext_any (s.extract k s.size) _ hTr
      rw [bl_from] at h20
      have hne := drop_ne (l := bl s) (by rw [bl_length]; exact hk)
      have hps := nx_pos hne
      have hnl := nx_le hne
      rw [List.length_drop, bl_length] at hnl
      obtain ⟨r, hr⟩ : ∃ r, (nx ((bl s).drop k)).1 = r := ⟨_, rfl⟩
      obtain ⟨q, hq⟩ : ∃ q, (nx ((bl s).drop k)).2 = q := ⟨_, rfl⟩
      rw [hr, hq] at h20
      rw [hq] at hps hnl
      have hw : IntKind.i64.wrap ((k : Int) + (q : Int)) = (k : Int) + q := by rw [IntKind.wrap_i64]; omega
      have hw1 : IntKind.i64.wrap ((m : Int) + 1) = (m : Int) + 1 := by rw [IntKind.wrap_i64]; omega
      have h26 := fun w1 => refInside_any r w1
      cases hi : insd r with
      | true =>
        rw [hi] at h26
        have hA : Hid (Adv (bl s) (m + 1) (k + q)) := by have := ha.out.step (by rw [bl_length]; exact hk) (by rw [hr]; exact hi); rw [hq] at this; exact this
        clear hr hq hne hi hT hTr
        go_wp2_with (first
          | (go_at_call 16; refine h20.mono ?_; rintro e w1 ⟨rfl, b1⟩)
          | (go_at_call 56; refine (h26 _).mono ?_; rintro e w' ⟨rfl, rfl⟩))
        go_roundw
        case rel => exact ⟨m + 1, k + q, by go_num, by go_num, hA, hb.trans (b1.mono hb.size)⟩
        case measure => simp [RowKit.intOf]; omega
      | false =>
        rw [hi] at h26
        have hE : Hid (spn (runes (bl s)) = m) := ha.out.stop (.inr (by rw [hr]; exact hi))
        have hZ : Hid (spb (bl s) = k) := by show spb (bl s) = k; unfold spb; rw [hE.out]; exact ha.out.size
        clear hr hq hne hi hT hTr
        go_wp2_with (first
          | (go_at_call 16; refine h20.mono ?_; rintro e w1 ⟨rfl, b1⟩)
          | (go_at_call 56; refine (h26 _).mono ?_; rintro e w' ⟨rfl, rfl⟩))
        go_ret2
        rw [hE.out, hZ.out]
        exact ⟨rfl, hb.trans (b1.mono hb.size)⟩
    · have hk' : ¬ (k : Int) < (s.size : Int) := by omega
      have hE : Hid (spn (runes (bl s)) = m) := ha.out.stop (.inl (by rw [bl_length]; omega))
      have hZ : Hid (spb (bl s) = k) := by show spb (bl s) = k; unfold spb; rw [hE.out]; exact ha.out.size
      clear hT hTr
      go_wp2
      go_ret2
      rw [hE.out, hZ.out]
      exact ⟨rfl, hb⟩

set_option maxHeartbeats 400000 in
theorem refName_any (s : ByteArray) (w : World) (hT : Tabs w) (hs : s.size ≤ 140737488351232) :
    Calls Tryd.prog 33 #[.string s] w fun e w' => e = .returned (.bool (nameS (bl s))) ∧ Below w.heap.size w w' := by
  have h1 := refNext_any s w hT
  have h2 := fun w1 (hb : Below w.heap.size w w1) => refRun_any s w1 (hT.below hb (Nat.le_refl _)) hs
  have h3 : nameS (bl s) = (letter (nx (bl s)).1 && ((spb (bl s) : Int) == (s.size : Int)) && decide (spn (runes (bl s)) ≤ 24)) := rfl
  rw [h3]
  have h12 := fun w1 => refLetter_any (nx (bl s)).1 w1
  obtain ⟨r, hr⟩ : ∃ r, (nx (bl s)).1 = r := ⟨_, rfl⟩
  obtain ⟨q, hq⟩ : ∃ q, (nx (bl s)).2 = q := ⟨_, rfl⟩
  obtain ⟨k, hk⟩ : ∃ k, spb (bl s) = k := ⟨_, rfl⟩
  obtain ⟨m, hm⟩ : ∃ m, spn (runes (bl s)) = m := ⟨_, rfl⟩
  rw [hr] at h1 h12 ⊢
  rw [hq] at h1
  simp only [hk, hm] at h2 ⊢
  obtain ⟨a, ha⟩ : ∃ a, letter r = a := ⟨_, rfl⟩
  rw [ha] at h12 ⊢
  have e3 : decide (m ≤ 24) = decide ((m : Int) ≤ 24) := by rw [Bool.eq_iff_iff]; simp; omega
  rw [e3]
  clear h3 hr hq hk hm ha e3
  cases a
  · go_enter Tryd.func33, Tryd.ntmps33
    go_wp2_with (first
      | (go_at_call 16; refine h1.mono ?_; rintro e w1 ⟨rfl, b1⟩; have h2' := h2 w1 b1; clear h1 h2)
      | (go_at_call 31; refine h2'.mono ?_; rintro e w2 ⟨rfl, b2⟩; have b3 := b1.trans (b2.mono b1.size); clear h2' b1 b2)
      | (go_at_call 32; refine (h12 _).mono ?_; rintro e w' ⟨rfl, rfl⟩; clear h12))
    go_ret
    exact ⟨ret_bool (by simp), b3⟩
  · cases hkl : ((k : Int) == (s.size : Int))
    · go_enter Tryd.func33, Tryd.ntmps33
      go_wp2_with (first
        | (go_at_call 16; refine h1.mono ?_; rintro e w1 ⟨rfl, b1⟩; have h2' := h2 w1 b1; clear h1 h2)
        | (go_at_call 31; refine h2'.mono ?_; rintro e w2 ⟨rfl, b2⟩; have b3 := b1.trans (b2.mono b1.size); clear h2' b1 b2)
        | (go_at_call 32; refine (h12 _).mono ?_; rintro e w' ⟨rfl, rfl⟩; clear h12))
      go_ret
      exact ⟨ret_bool (by simp), b3⟩
    · go_enter Tryd.func33, Tryd.ntmps33
      go_wp2_with (first
        | (go_at_call 16; refine h1.mono ?_; rintro e w1 ⟨rfl, b1⟩; have h2' := h2 w1 b1; clear h1 h2)
        | (go_at_call 31; refine h2'.mono ?_; rintro e w2 ⟨rfl, b2⟩; have b3 := b1.trans (b2.mono b1.size); clear h2' b1 b2)
        | (go_at_call 32; refine (h12 _).mono ?_; rintro e w' ⟨rfl, rfl⟩; clear h12))
      all_goals go_ret
      all_goals exact ⟨ret_bool (by simp), b3⟩
end Go.Proofs.YtiddccohldjjcaaDoor
