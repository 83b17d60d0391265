
/- The walk of the document's first. -/
import Derived.Test.YtiddccohldjjcaaDoorGlyN
namespace Go.Proofs.YtiddccohldjjcaaDoor
open Go.RowKit Go.Lib
set_option linter.unusedSimpArgs false
set_option linter.unusedVariables false

set_option maxHeartbeats 2000000 in
theorem refFirst_any (s : ByteArray) (w : World) (hT : Tabs w) (hs : s.size ≤ 140737488351232) (h0 : 0 < s.size) :
    Calls Tryd.prog 17 #[.string s] w fun e w' => e = .returned (tup3 (fst1 (runes (bl s))).1 (firstB (bl s)) (fst1 (runes (bl s))).2) ∧ Below w.heap.size w w' := by
  have hlen : (bl s).length = s.size := rfl
  have hne : bl s ≠ [] := by intro e; rw [e] at hlen; simp at hlen; omega
  have hc := runes_cons hne
  have hsp := spb_le (bl s)
  rw [hlen] at hsp
  have h20 := refNext_any s w hT
  have h21 := fun w1 (b1 : Below w.heap.size w w1) => refRun_any s w1 (hT.below b1 (Nat.le_refl _)) hs
  obtain ⟨r, hr⟩ : ∃ r, (nx (bl s)).1 = r := ⟨_, rfl⟩
  obtain ⟨q, hq⟩ : ∃ q, (nx (bl s)).2 = q := ⟨_, rfl⟩
  obtain ⟨k, hk⟩ : ∃ k, spb (bl s) = k := ⟨_, rfl⟩
  obtain ⟨m, hm⟩ : ∃ m, spn (runes (bl s)) = m := ⟨_, rfl⟩
  have hf : fst1 (runes (bl s)) = if letter r = true then (if m ≤ 24 then (1, m) else (0, 0)) else if dgt r = true then (if numb ((runes (bl s)).take m) = true then (2, m) else (0, 0)) else if sgn (runes (bl s)) = 0 then (0, 0) else (3, sgn (runes (bl s))) := by
    rw [← hr, ← hm]
    have := fst1_cons ((nx (bl s)).1, (bl s).take (nx (bl s)).2) (runes ((bl s).drop (nx (bl s)).2))
    rw [← hc] at this
    exact this
  have h12 := fun w1 => refLetter_any r w1
  have h30 := fun w1 => refDigit_any r w1
  have hkb : (byt ((runes (bl s)).take m)).length = k := by rw [← hm]; exact hk
  have h10 := fun w1 (b1 : Below w.heap.size w w1) => refName_any (s.extract 0 k) w1 (hT.below b1 (Nat.le_refl _)) (by rw [ByteArray.size_extract]; omega)
  rw [bl_to] at h10
  have h31 := fun w1 => refNumber_any (s.extract 0 k) w1 (by rw [ByteArray.size_extract]; omega)
  rw [bl_to] at h31
  have hkt : (bl s).take k = byt ((runes (bl s)).take m) := by rw [← hk, ← hm]; exact take_spb _
  have h32 := fun w1 => refSign_any s w1 h0
  rw [hr, hq] at h20
  simp only [hk, hm] at h21
  rw [hk] at hsp
  have hk0 : (0 : Int) ≤ (k : Int) := by omega
  have hk1 : (k : Int) ≤ (s.size : Int) := by omega
  unfold firstB
  by_cases hL : letter r = true
  · have hn := name_spb hne (by rw [hr]; exact hL)
    rw [hk, hm] at hn
    rw [hn] at h10
    rw [hL] at h12
    rw [if_pos hL] at hf
    by_cases h24 : m ≤ 24
    · rw [if_pos h24] at hf
      rw [decide_eq_true h24] at h10
      rw [hf]
      simp only [hkb]
      clear hr hq hk hm hf hkb hkt h31 h30 h32 hn hc hL
      go_enter Tryd.func17, Tryd.ntmps17
      go_wp2_with (first
        | (go_at_call 16; refine h20.mono ?_; rintro e w1 ⟨rfl, b1⟩; have h21' := h21 w1 b1; clear h20 h21)
        | (go_at_call 31; refine h21'.mono ?_; rintro e w2 ⟨rfl, b2⟩; have b3 := b1.trans (b2.mono b1.size); have h10' := h10 w2 b3; clear h21' b1 b2 h10)
        | (go_at_call 32; refine (h12 _).mono ?_; rintro e w' ⟨rfl, rfl⟩; clear h12)
        | (go_at_call 33; refine h10'.mono ?_; rintro e w4 ⟨rfl, b4⟩; have b5 := b3.trans (b4.mono b3.size); clear h10' b3 b4))
      go_ret3
      exact ⟨rfl, b5⟩
    · rw [if_neg h24] at hf
      rw [decide_eq_false h24] at h10
      rw [hf]
      clear hr hq hk hm hf hkb hkt h31 h30 h32 hn hc hL
      go_enter Tryd.func17, Tryd.ntmps17
      go_wp2_with (first
        | (go_at_call 16; refine h20.mono ?_; rintro e w1 ⟨rfl, b1⟩; have h21' := h21 w1 b1; clear h20 h21)
        | (go_at_call 31; refine h21'.mono ?_; rintro e w2 ⟨rfl, b2⟩; have b3 := b1.trans (b2.mono b1.size); have h10' := h10 w2 b3; clear h21' b1 b2 h10)
        | (go_at_call 32; refine (h12 _).mono ?_; rintro e w' ⟨rfl, rfl⟩; clear h12)
        | (go_at_call 33; refine h10'.mono ?_; rintro e w4 ⟨rfl, b4⟩; have b5 := b3.trans (b4.mono b3.size); clear h10' b3 b4))
      go_ret3
      exact ⟨rfl, b5⟩
  rw [if_neg hL] at hf
  rw [Bool.not_eq_true] at hL
  rw [hL] at h12
  by_cases hD : dgt r = true
  · have hn : numB ((bl s).take k) = numb ((runes (bl s)).take m) := by rw [hkt]; exact numB_numb _ (fun v hv => List.mem_of_mem_take hv)
    rw [hn] at h31
    rw [hD] at h30
    rw [if_pos hD] at hf
    cases hb : numb ((runes (bl s)).take m) with
    | true =>
      rw [hb] at h31
      rw [if_pos hb] at hf
      rw [hf]
      simp only [hkb]
      clear hr hq hk hm hf hkb hkt h10 h32 hn hc hL hD hb
      go_enter Tryd.func17, Tryd.ntmps17
      go_wp2_with (first
        | (go_at_call 16; refine h20.mono ?_; rintro e w1 ⟨rfl, b1⟩; have h21' := h21 w1 b1; clear h20 h21)
        | (go_at_call 31; refine h21'.mono ?_; rintro e w2 ⟨rfl, b2⟩; have b3 := b1.trans (b2.mono b1.size); clear h21' b1 b2)
        | (go_at_call 32; refine (h12 _).mono ?_; rintro e w' ⟨rfl, rfl⟩; clear h12)
        | (go_at_call 34; refine (h30 _).mono ?_; rintro e w' ⟨rfl, rfl⟩; clear h30)
        | (go_at_call 35; refine (h31 _).mono ?_; rintro e w' ⟨⟨x, rfl⟩, rfl⟩; clear h31))
      go_ret3
      exact ⟨rfl, b3⟩
    | false =>
      rw [hb] at h31
      rw [if_neg (by rw [hb]; decide)] at hf
      rw [hf]
      clear hr hq hk hm hf hkb hkt h10 h32 hn hc hL hD hb
      go_enter Tryd.func17, Tryd.ntmps17
      go_wp2_with (first
        | (go_at_call 16; refine h20.mono ?_; rintro e w1 ⟨rfl, b1⟩; have h21' := h21 w1 b1; clear h20 h21)
        | (go_at_call 31; refine h21'.mono ?_; rintro e w2 ⟨rfl, b2⟩; have b3 := b1.trans (b2.mono b1.size); clear h21' b1 b2)
        | (go_at_call 32; refine (h12 _).mono ?_; rintro e w' ⟨rfl, rfl⟩; clear h12)
        | (go_at_call 34; refine (h30 _).mono ?_; rintro e w' ⟨rfl, rfl⟩; clear h30)
        | (go_at_call 35; refine (h31 _).mono ?_; rintro e w' ⟨⟨x, rfl⟩, rfl⟩; clear h31))
      go_ret3
      exact ⟨rfl, b3⟩
  rw [if_neg hD] at hf
  rw [Bool.not_eq_true] at hD
  rw [hD] at h30
  have hsb := sgn_bytes (bl s)
  obtain ⟨g, hg⟩ : ∃ g, sgn (runes (bl s)) = g := ⟨_, rfl⟩
  rw [hg] at hf hsb
  simp only [hg] at h32
  by_cases h00 : g = 0
  · rw [if_pos h00] at hf
    rw [hf]
    subst h00
    clear hr hq hk hm hf hkb hkt h10 h31 hc hL hD hsb hg
    go_enter Tryd.func17, Tryd.ntmps17
    go_wp2_with (first
      | (go_at_call 16; refine h20.mono ?_; rintro e w1 ⟨rfl, b1⟩; have h21' := h21 w1 b1; clear h20 h21)
      | (go_at_call 31; refine h21'.mono ?_; rintro e w2 ⟨rfl, b2⟩; have b3 := b1.trans (b2.mono b1.size); clear h21' b1 b2)
      | (go_at_call 32; refine (h12 _).mono ?_; rintro e w' ⟨rfl, rfl⟩; clear h12)
      | (go_at_call 34; refine (h30 _).mono ?_; rintro e w' ⟨rfl, rfl⟩; clear h30)
      | (go_at_call 36; refine (h32 _).mono ?_; rintro e w' ⟨rfl, rfl⟩; clear h32))
    go_ret3
    exact ⟨rfl, b3⟩
  · rw [if_neg h00] at hf
    have hg0 : ((g : Int) == 0) = false := beq_eq_false_iff_ne.2 (by omega)
    rw [hf]
    simp only [hsb]
    clear hr hq hk hm hf hkb hkt h10 h31 hc hL hD hsb hg h00
    go_enter Tryd.func17, Tryd.ntmps17
    go_wp2_with (first
      | (go_at_call 16; refine h20.mono ?_; rintro e w1 ⟨rfl, b1⟩; have h21' := h21 w1 b1; clear h20 h21)
      | (go_at_call 31; refine h21'.mono ?_; rintro e w2 ⟨rfl, b2⟩; have b3 := b1.trans (b2.mono b1.size); clear h21' b1 b2)
      | (go_at_call 32; refine (h12 _).mono ?_; rintro e w' ⟨rfl, rfl⟩; clear h12)
      | (go_at_call 34; refine (h30 _).mono ?_; rintro e w' ⟨rfl, rfl⟩; clear h30)
      | (go_at_call 36; refine (h32 _).mono ?_; rintro e w' ⟨rfl, rfl⟩; clear h32))
    go_ret3
    exact ⟨rfl, b3⟩
end Go.Proofs.YtiddccohldjjcaaDoor
