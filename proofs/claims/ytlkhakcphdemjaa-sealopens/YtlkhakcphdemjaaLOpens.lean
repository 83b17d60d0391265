/- The walk of SealOpens. -/
import Derived.Test.YtlkhakcphdemjaaOpenR
namespace Go.Proofs.Ytlkhakcphdemjaa
open Go.RowKit
set_option linter.unusedSimpArgs false
set_option linter.unusedVariables false

theorem sealS_one : sealS [97] = (rcd [97], 0) := sealS_ok (by simp) (by simp)
theorem rcd_one_bytes : ∀ x ∈ rcd [97], 0 ≤ x ∧ x ≤ 255 := by
  have h : ((rcd [97]).all fun x => decide (0 ≤ x) && decide (x ≤ 255)) = true := by kernel_rfl
  intro x hx
  have := List.all_eq_true.1 h x hx
  simpa using this
theorem openS_one : openS (rcd [97]) = ([97], 7, 0) := by kernel_rfl
theorem str_one : strOfNums [97] = ⟨#[97]⟩ := by decide

theorem refSeal_a (w : World) : Calls Try.prog 10 #[.slice (some ⟨w.heap.size, 0, none⟩) 1 1] (w.alloc (.cells #[.int .u8 97] 5 (1, 2))) fun e w' => ∃ u, e = .returned (.tuple #[u, .int .i64 0]) ∧ Rd w' u (rcd [97]) ∧ Below w.heap.size w w' := by
  have h := refSeal_any _ _ _ (rd_const w [97] (by simp [maxLen]) (1, 2))
  rw [sealS_one] at h
  refine Calls.mono h ?_
  rintro e w' ⟨u, rfl, ho, hb⟩
  exact ⟨u, rfl, ho.rd, ((Below.refl _ _).alloc (Nat.le_refl _) _).trans (hb.mono (by simp))⟩

theorem open_a (v : Value) (w : World) (hr : Rd w v (rcd [97])) : Calls Try.prog 11 #[v] w fun e w' => ∃ u, e = .returned (.tuple #[u, .int .i64 7, .int .i64 0]) ∧ Rd w' u [97] ∧ Below w.heap.size w w' := by
  have h := open_any v _ w hr rcd_one_bytes
  rw [openS_one] at h
  refine Calls.mono h ?_
  rintro e w' ⟨u, rfl, ho, hb⟩
  exact ⟨u, rfl, ho.rd, hb⟩

set_option maxHeartbeats 1000000 in
theorem sealOpens_walk {w : World} (bv : Value) (bs : List Int) (hb : Rd w bv bs) (hy : ∀ x ∈ bs, 0 ≤ x ∧ x ≤ 255) (_hl : bs.length ≤ 140737488351232) :
    Calls Try.prog 5 #[bv] w fun e w' => e = .returned (.bool true) ∧ Below w.heap.size w w' := by
  have h1 := open_any bv bs w hb hy
  have h2 := fun w1 (r1 : Rd w1 bv bs) => refOpen_any bv bs w1 r1 hy
  obtain ⟨⟨xs, n, er⟩, hx⟩ : ∃ x, x = openS bs := ⟨_, rfl⟩
  rw [← hx] at h1 h2
  have kc := conv_const
  clear hx
  go_enter Try.func5, Try.ntmps5
  go_wp2_with (first
    | (go_at_call 11; refine h1.mono ?_; rintro e w1 ⟨u1, rfl, o1, b1⟩; have h2' := h2 _ (hb.below b1 (Nat.le_refl _)); clear h1 h2)
    | (go_at_call 12; refine h2'.mono ?_; rintro e w2 ⟨u2, rfl, o2, hb2⟩; have r1 := o1.rd.below hb2 (Nat.le_refl _); have b2 := b1.trans (hb2.mono b1.size); have r2 := o2.rd; have h3 := refSeal_a w2; clear h2' b1 o1 hb2 o2)
    | (go_at_call 10; refine h3.mono ?_; rintro e w3 ⟨u3, rfl, r3, hb3⟩; have s1 := r1.below hb3 (Nat.le_refl _); have s2 := r2.below hb3 (Nat.le_refl _); have b3 := b2.trans (hb3.mono b2.size); have h4 := open_a _ _ r3; clear h3 hb3 r1 r2 r3 b2)
    | (go_at_call 11; refine h4.mono ?_; rintro e w4 ⟨u4, rfl, r4, hb4⟩; have c1 := rd_conv (s1.below hb4 (Nat.le_refl _)); have c2 := rd_conv (s2.below hb4 (Nat.le_refl _)); have c4 := rd_conv r4; rw [str_one] at c4; have b4 := b3.trans (hb4.mono b3.size); clear h4 hb4 s1 s2 r4 b3))
  go_ret
  exact ⟨by simp, b4⟩

end Go.Proofs.Ytlkhakcphdemjaa
