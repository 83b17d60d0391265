
/- What the document's Letter, digit, inside, next, run and Name do. -/
import Derived.Test.YtiddccohldjjcaaDoorUtf
import Derived.Test.YtiddccohldjjcaaDoorGlyB
namespace Go.Proofs.YtiddccohldjjcaaDoor
open Go.RowKit Go.Lib
set_option linter.unusedSimpArgs false
set_option linter.unusedVariables false

theorem refLetter_any (r : Int) (w : World) : Calls Tryd.prog 32 #[.int .i32 r] w fun e w' => e = .returned (.bool (letter r)) ∧ w = w' := by
  rw [letter_eq]
  go_enter Tryd.func32, Tryd.ntmps32
  go_wp2
  all_goals go_ret
  all_goals (refine ⟨ret_bool ?_, rfl⟩; first | rfl | (rw [Bool.eq_iff_iff]; simp; omega) | (rw [Bool.eq_iff_iff]; simp [*]; omega))
theorem refDigit_any (r : Int) (w : World) : Calls Tryd.prog 34 #[.int .i32 r] w fun e w' => e = .returned (.bool (dgt r)) ∧ w = w' := by
  rw [dgt_eq]
  go_enter Tryd.func34, Tryd.ntmps34
  go_wp2
  all_goals go_ret
  all_goals (refine ⟨ret_bool ?_, rfl⟩; first | rfl | (rw [Bool.eq_iff_iff]; simp; omega) | (rw [Bool.eq_iff_iff]; simp [*]; omega))
theorem refInside_any (r : Int) (w : World) : Calls Tryd.prog 56 #[.int .i32 r] w fun e w' => e = .returned (.bool (insd r)) ∧ w = w' := by
  have h1 := refLetter_any r w
  have h2 := refDigit_any r w
  have h3 : insd r = (letter r || dgt r || r == 95) := rfl
  rw [h3]
  cases ha : letter r <;> rw [ha] at h1
  · cases hb : dgt r <;> rw [hb] at h2
    · go_enter Tryd.func56, Tryd.ntmps56
      go_wp2_with (first
        | (go_at_call 32; refine h1.mono ?_; rintro e w' ⟨rfl, rfl⟩)
        | (go_at_call 34; refine h2.mono ?_; rintro e w' ⟨rfl, rfl⟩))
      go_ret
      exact ⟨ret_bool (by simp), rfl⟩
    · go_enter Tryd.func56, Tryd.ntmps56
      go_wp2_with (first
        | (go_at_call 32; refine h1.mono ?_; rintro e w' ⟨rfl, rfl⟩)
        | (go_at_call 34; refine h2.mono ?_; rintro e w' ⟨rfl, rfl⟩))
      go_ret
      exact ⟨ret_bool (by simp), rfl⟩
  · go_enter Tryd.func56, Tryd.ntmps56
    go_wp2_with (first
      | (go_at_call 32; refine h1.mono ?_; rintro e w' ⟨rfl, rfl⟩)
      | (go_at_call 34; refine h2.mono ?_; rintro e w' ⟨rfl, rfl⟩))
    go_ret
    exact ⟨ret_bool (by simp), rfl⟩

theorem decodeGo_nil {s : ByteArray} (h : bl s = []) : Lib.decodeGo s = (65533, 0) := by
  unfold Lib.decodeGo
  rw [if_pos]
  rw [← bl_length, h]; rfl
theorem decodeGo_eq {s : ByteArray} (h : bl s ≠ []) : Lib.decodeGo s = decodeL (bl s) := by
  unfold Lib.decodeGo
  rw [if_neg, ← decodeL_drop s 0, List.drop_zero]
  intro e
  exact h (List.eq_nil_of_length_eq_zero (by rw [bl_length]; exact e))

theorem refNext_any (s : ByteArray) (w : World) (hT : Tabs w) :
    Calls Tryd.prog 16 #[.string s] w fun e w' => e = .returned (tup2 (nx (bl s)).1 (nx (bl s)).2) ∧ Below w.heap.size w w' := by
  have h1 := decode_any s w hT
  obtain ⟨a, ha⟩ : ∃ a, (Lib.decodeGo s).1 = a := ⟨_, rfl⟩
  obtain ⟨b, hb⟩ : ∃ b, (Lib.decodeGo s).2 = b := ⟨_, rfl⟩
  rw [ha, hb] at h1
  have hn : nx (bl s) = if a = 65533 ∧ b ≤ 1 then (-1, b) else ((a : Int), b) := by
    by_cases hl : bl s = []
    · have := decodeGo_nil hl
      rw [this] at ha hb
      simp only at ha hb
      subst ha; subst hb
      rw [hl]; rfl
    · unfold nx
      rw [if_neg hl, ← decodeGo_eq hl, ha, hb]
  by_cases h1' : a = 65533
  · by_cases h2' : b ≤ 1
    · rw [hn, if_pos ⟨h1', h2'⟩]
      have e1 : ((a : Int) == 65533) = true := by simp; omega
      have e2 : (b : Int) ≤ 1 := by omega
      clear hn ha hb h1'
      go_enter Tryd.func16, Tryd.ntmps16
      go_wp2_with (first
        | (go_at_call 30; refine h1.mono ?_; rintro e w1 ⟨rfl, b1⟩))
      go_ret2
      exact ⟨rfl, b1⟩
    · rw [hn, if_neg (fun h => h2' h.2)]
      have e1 : ((a : Int) == 65533) = true := by simp; omega
      have e2 : ¬ (b : Int) ≤ 1 := by omega
      clear hn ha hb h1'
      go_enter Tryd.func16, Tryd.ntmps16
      go_wp2_with (first
        | (go_at_call 30; refine h1.mono ?_; rintro e w1 ⟨rfl, b1⟩))
      go_ret2
      exact ⟨rfl, b1⟩
  · rw [hn, if_neg (fun h => h1' h.1)]
    have e1 : ((a : Int) == 65533) = false := by simp; omega
    clear hn ha hb
    go_enter Tryd.func16, Tryd.ntmps16
    go_wp2_with (first
      | (go_at_call 30; refine h1.mono ?_; rintro e w1 ⟨rfl, b1⟩))
    go_ret2
    exact ⟨rfl, b1⟩
end Go.Proofs.YtiddccohldjjcaaDoor
