
/- What the program's Parse does. -/
import Derived.Test.YtiddccohldjjcaaDoorPgK
namespace Go.Proofs.YtiddccohldjjcaaDoor
open Go.RowKit Go.Lib
set_option linter.unusedSimpArgs false
set_option linter.unusedVariables false
attribute [local go_sem ↓] Go.wp_at_zero Go.wp_at_succ

theorem ret_two {a b c d : Value} (h1 : a = c) (h2 : b = d) : Ending.returned (.tuple #[a, b]) = .returned (.tuple #[c, d]) := by rw [h1, h2]
set_option maxRecDepth 100000 in
set_option maxHeartbeats 4000000 in
theorem pParse_any (s : ByteArray) (w : World) (hs : s.size ≤ 140737488351232) :
    Calls Tryd.prog 6 #[.string s] w fun e w' => e = .returned (.tuple #[exX (parseC (bl s)).1, .int .i64 (parseC (bl s)).2]) ∧ Below w.heap.size w w' := by
  have hW := pWords_any s w hs
  obtain ⟨P, hP⟩ : ∃ P, parseC (bl s) = P := ⟨_, rfl⟩
  rw [hP]
  unfold parseC at hP
  obtain ⟨⟨ws, ⟨pl, pc⟩, er⟩, hR⟩ : ∃ r, wordsS (bl s) = r := ⟨_, rfl⟩
  have h1 := fun h => words_one (l := bl s) h
  rw [hR] at hW hP h1
  simp only at hW hP h1
  by_cases he : er ≠ 0
  · rw [if_pos he] at hP
    subst hP
    have i1 : (er != 0) = true := by simpa using he
    clear h1 hR he
    go_enter Tryd.func6, Tryd.ntmps6
    go_wp2_with (first
      | (go_at_call 15; refine hW.mono ?_; rintro e w1 ⟨u, rfl, hown, b1⟩; obtain ⟨a, cap, rfl, _⟩ := own_form hown))
    go_ret2
    exact ⟨rfl, b1.alloc b1.size _⟩
  · rw [if_neg he] at hP
    have he0 : er = 0 := by simpa using he
    subst he0
    obtain ⟨h2, h3⟩ := h1 rfl
    have hT := fun w1 v (ho : OwnW w1 0 43 v ws) => pTake_any ho h2 h3
    obtain ⟨⟨x, n, f⟩, hX⟩ : ∃ r, takeC (ws.map tkW) = r := ⟨_, rfl⟩
    rw [hX] at hP
    simp only [hX] at hT hP
    clear h1 he hR h2 hX
    have hxf := exX_form x
    by_cases hf : f ≠ 0
    · rw [if_pos hf] at hP
      subst hP
      have i1 : (f != 0) = true := by simpa using hf
      obtain ⟨xv, hxv⟩ : ∃ xv, exX x = xv := ⟨_, rfl⟩
      simp only [hxv] at hT hxf
      clear hf hxv
      rcases hxf with rfl | ⟨xu, xy, rfl⟩
      all_goals (
        go_enter Tryd.func6, Tryd.ntmps6
        go_wp2_with (first
          | (go_at_call 15; refine hW.mono ?_; rintro e w1 ⟨u, rfl, hown, b1⟩; obtain ⟨a, cap, rfl, _⟩ := own_form hown; have hb1 := b1.alloc b1.size (.cells #[.int .i64 pl, .int .i64 pc] 38); have hT1 := hT _ _ ((hown.base (Nat.zero_le _)).below ((Below.refl w1.heap.size w1).alloc (Nat.le_refl _) (.cells #[.int .i64 pl, .int .i64 pc] 38)) (Nat.le_refl _)))
          | (go_at_call 12; refine hT1.mono ?_; rintro e w2 ⟨rfl, b2⟩; have hb2 := hb1.trans (b2.mono hb1.size)))
        go_ret2
        exact ⟨rfl, hb2⟩)
    · rw [if_neg hf] at hP
      have hf0 : f = 0 := by simpa using hf
      subst hf0
      by_cases hn : n < ws.length
      · rw [if_pos hn] at hP
        subst hP
        have i1 : (n : Int) < (ws.length : Int) := by omega
        obtain ⟨xv, hxv⟩ : ∃ xv, exX x = xv := ⟨_, rfl⟩
        simp only [hxv] at hT hxf
        clear hf hxv
        rcases hxf with rfl | ⟨xu, xy, rfl⟩
        all_goals (
          go_enter Tryd.func6, Tryd.ntmps6
          go_wp2_with (first
            | (go_at_call 15; refine hW.mono ?_; rintro e w1 ⟨u, rfl, hown, b1⟩; obtain ⟨a, cap, rfl, _⟩ := own_form hown; have hb1 := b1.alloc b1.size (.cells #[.int .i64 pl, .int .i64 pc] 38); have hT1 := hT _ _ ((hown.base (Nat.zero_le _)).below ((Below.refl w1.heap.size w1).alloc (Nat.le_refl _) (.cells #[.int .i64 pl, .int .i64 pc] 38)) (Nat.le_refl _)))
            | (go_at_call 12; refine hT1.mono ?_; rintro e w2 ⟨rfl, b2⟩; have hb2 := hb1.trans (b2.mono hb1.size)))
          go_ret2
          exact ⟨rfl, hb2⟩)
      · rw [if_neg hn] at hP
        subst hP
        have i1 : ¬ (n : Int) < (ws.length : Int) := by omega
        simp only
        obtain ⟨xv, hxv⟩ : ∃ xv, exX x = xv := ⟨_, rfl⟩
        simp only [hxv] at hT hxf ⊢
        clear hf hxv hn
        rcases hxf with rfl | ⟨xu, xy, rfl⟩
        all_goals (
          go_enter Tryd.func6, Tryd.ntmps6
          go_wp2_with (first
            | (go_at_call 15; refine hW.mono ?_; rintro e w1 ⟨u, rfl, hown, b1⟩; obtain ⟨a, cap, rfl, _⟩ := own_form hown; have hb1 := b1.alloc b1.size (.cells #[.int .i64 pl, .int .i64 pc] 38); have hT1 := hT _ _ ((hown.base (Nat.zero_le _)).below ((Below.refl w1.heap.size w1).alloc (Nat.le_refl _) (.cells #[.int .i64 pl, .int .i64 pc] 38)) (Nat.le_refl _)))
            | (go_at_call 12; refine hT1.mono ?_; rintro e w2 ⟨rfl, b2⟩; have hb2 := hb1.trans (b2.mono hb1.size)))
          go_ret2
          exact ⟨rfl, hb2⟩)
end Go.Proofs.YtiddccohldjjcaaDoor
