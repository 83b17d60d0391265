
/- What the document's Parse does. -/
import Derived.Test.YtiddccohldjjcaaDoorRgF
import Derived.Test.YtiddccohldjjcaaDoorGlyQ
namespace Go.Proofs.YtiddccohldjjcaaDoor
open Go.RowKit Go.Lib
set_option linter.unusedSimpArgs false
set_option linter.unusedVariables false
attribute [local go_sem ↓] Go.wp_at_zero Go.wp_at_succ

theorem parse_res {w4 : World} {R : Nat} {a b c e x3 : Value} {tmps : Array Value} (hB : B4 w4 R a b c e) (ht : tmps.getD 2 undef = .pointer (some ⟨R, 0, none⟩)) (h3 : tmps.getD 3 undef = x3) : (results Tryd.f7 tmps).run Tryd.prog w4 = .ok (.tuple #[.agg #[a, b, c, e], x3]) w4 := by
  obtain ⟨c0, c1, c2, c3, _, _, _, _⟩ := hB
  have ht' : tmps[2]?.getD undef = .pointer (some ⟨R, 0, none⟩) := by simpa using ht
  have h3' : tmps[3]?.getD undef = x3 := by simpa using h3
  simp [results, Tryd.results7, go_sem, ht', h3', c0, c1, c2, c3]
set_option maxRecDepth 100000 in
set_option maxHeartbeats 4000000 in
theorem rParse_any (s : ByteArray) (w : World) (hT : Tabs w) (hs : s.size ≤ 140737488351232) :
    Calls Tryd.prog 7 #[.string s] w fun e w' => ∃ u, e = .returned (.tuple #[u, .int .i64 (parseC (bl s)).2]) ∧ RdX (fun b => w.heap.size ≤ b) w' (parseC (bl s)).1 u ∧ Below w.heap.size w w' := by
  have hb0 := alN w
  have hW := refWords_any s (w.alloc zN) (hT.below hb0 (Nat.le_refl _)) hs
  have hR0 : B4 (w.alloc zN) w.heap.size (.int .i64 0) (.int .i64 0) (.string ⟨#[]⟩) (.slice none 0 0) := B4.new w _ _ _ _ _ _ rfl
  have hsz : (w.alloc zN).heap.size = w.heap.size + 1 := by simp
  obtain ⟨P, hP⟩ : ∃ P, parseC (bl s) = P := ⟨_, rfl⟩
  rw [hP]
  unfold parseC at hP
  obtain ⟨⟨ws, ⟨pl, pc⟩, er⟩, hR⟩ : ∃ r, wordsS (bl s) = r := ⟨_, rfl⟩
  have h1 := fun h => words_one (l := bl s) h
  rw [hR] at hW hP h1
  simp only at hW hP h1
  by_cases he : er ≠ 0
  · rw [if_pos he] at hP
    have HP : Hid ((noX, er) = P) := hP
    have i1 : (er != 0) = true := by simpa using he
    clear h1 hR he hP
    go_enter Tryd.func7, Tryd.ntmps7
    go_upto_region 2 with (first
      | (go_at_call 11; refine hW.mono ?_; rintro e w1 ⟨u, rfl, hown, b1⟩; obtain ⟨a, cap, rfl, _⟩ := ownW_rdR hown))
    have hR1 := (hR0.keep b1).keep ((Below.refl _ w1).alloc (Nat.le_refl _) (.cells #[.int .i64 pl, .int .i64 pc] 38))
    have hb1 := (hb0.trans (b1.mono hb0.size)).alloc (hb0.trans (b1.mono hb0.size)).size (.cells #[.int .i64 pl, .int .i64 pc] 38)
    generalize w1.alloc (.cells #[.int .i64 pl, .int .i64 pc] 38) = w2 at *
    obtain ⟨r0, r1, r2, r3, r4, r5, r6, r7⟩ := id hR1
    go_wp2
    have hv := HP.out
    subst hv
    exact bodyPost_ret (parse_res (hR1.put _ _ _ _) rfl rfl) rfl ⟨_, rfl, rdX_no _ _, below_put hb1 (Nat.le_refl _) _ _ _ _⟩
  · rw [if_neg he] at hP
    have he0 : er = 0 := by simpa using he
    subst he0
    obtain ⟨h2, h3⟩ := h1 rfl
    have hTk := fun w1 v (hT1 : Tabs w1) (ho : OwnW w1 0 44 v ws) => rTake_any hT1 ho h2 h3
    obtain ⟨⟨x, n, f⟩, hX⟩ : ∃ r, takeC (ws.map tkW) = r := ⟨_, rfl⟩
    rw [hX] at hP
    simp only [hX] at hTk hP
    have HP : Hid ((if f ≠ 0 then (noX, f) else if n < ws.length then (noX, 12) else (x, 0)) = P) := hP
    clear h1 he hR h2 hX hP
    go_enter Tryd.func7, Tryd.ntmps7
    go_upto_region 4 with (first
      | (go_at_call 11; refine hW.mono ?_; rintro e w1 ⟨u, rfl, hown, b1⟩; obtain ⟨a, cap, rfl, _⟩ := ownW_rdR hown))
    have ha2 := (Below.refl _ w1).alloc (Nat.le_refl _) (.cells #[.int .i64 pl, .int .i64 pc] 38)
    have hR1 := (hR0.keep b1).keep ha2
    have hb1 := (hb0.trans (b1.mono hb0.size)).alloc (hb0.trans (b1.mono hb0.size)).size (.cells #[.int .i64 pl, .int .i64 pc] 38)
    have ho2 := (hown.base (Nat.zero_le _)).below ha2 (Nat.le_refl _)
    clear hown b1 ha2 hW hR0
    generalize w1.alloc (.cells #[.int .i64 pl, .int .i64 pc] 38) = w2 at *
    have hTk2 := hTk w2 _ (hT.below hb1 (Nat.le_refl _)) ho2
    have hRl := hR1.lt
    go_upto_region 5 with (first
      | (go_at_call 13; refine hTk2.mono ?_; rintro e w3 ⟨u, rfl, hx3, b3⟩; obtain ⟨xk, xm, xs, xa, xl, xc, rfl⟩ := hx3.form))
    have ha4 := (Below.refl _ w3).alloc (Nat.le_refl _) (.cells #[.int .i64 xk, .int .i64 xm, .string xs, .slice xa xl xc] 30)
    have hR4 := (hR1.keep b3).keep ha4
    have hb4 := (hb1.trans (b3.mono hb1.size)).alloc (hb1.trans (b3.mono hb1.size)).size (.cells #[.int .i64 xk, .int .i64 xm, .string xs, .slice xa xl xc] 30)
    have hA4 := At4.new w3 (.int .i64 xk) (.int .i64 xm) (.string xs) (.slice xa xl xc) 30
    have hX4 : RdX (fun b => w.heap.size < b) (w3.alloc (.cells #[.int .i64 xk, .int .i64 xm, .string xs, .slice xa xl xc] 30)) x (.agg #[.int .i64 xk, .int .i64 xm, .string xs, .slice xa xl xc]) := hx3.keep (fun b hb hl => ⟨by omega, ha4.block b hl⟩)
    obtain ⟨XB, hXB⟩ : ∃ XB, w3.heap.size = XB := ⟨_, rfl⟩
    rw [hXB] at hA4 ⊢
    clear hR1 hx3 b3 hTk hTk2 ho2 hb1 ha4 hXB
    generalize w3.alloc (.cells #[.int .i64 xk, .int .i64 xm, .string xs, .slice xa xl xc] 30) = w4 at *
    obtain ⟨r0, r1, r2, r3, r4, r5, r6, r7⟩ := id hR4
    obtain ⟨a0, a1, a2, a3⟩ := id hA4
    by_cases hf : f ≠ 0
    · have hv := HP.out
      rw [if_pos hf] at hv
      subst hv
      have i1 : (f != 0) = true := by simpa using hf
      go_wp2
      exact bodyPost_ret (parse_res (hR4.put _ _ _ _) rfl rfl) rfl ⟨_, rfl, rdX_no _ _, below_put hb4 (Nat.le_refl _) _ _ _ _⟩
    · have hv := HP.out
      rw [if_neg hf] at hv
      have hf0 : f = 0 := by simpa using hf
      subst hf0
      by_cases hn : n < ws.length
      · rw [if_pos hn] at hv
        subst hv
        have i1 : (n : Int) < (ws.length : Int) := by omega
        go_wp2
        exact bodyPost_ret (parse_res (hR4.put _ _ _ _) rfl rfl) rfl ⟨_, rfl, rdX_no _ _, below_put hb4 (Nat.le_refl _) _ _ _ _⟩
      · rw [if_neg hn] at hv
        subst hv
        have i1 : ¬ (n : Int) < (ws.length : Int) := by omega
        go_wp2
        exact bodyPost_ret (parse_res (hR4.put _ _ _ _) rfl rfl) rfl ⟨_, rfl, hX4.keep (fun b hb hl => ⟨Nat.le_of_lt hb, heap_put (by omega) _ _ _ _⟩), below_put hb4 (Nat.le_refl _) _ _ _ _⟩
end Go.Proofs.YtiddccohldjjcaaDoor
