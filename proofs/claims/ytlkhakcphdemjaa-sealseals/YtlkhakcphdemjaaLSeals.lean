/- The walk of SealSeals. -/
import Derived.Test.YtlkhakcphdemjaaSealW
namespace Go.Proofs.Ytlkhakcphdemjaa
open Go.RowKit
set_option linter.unusedSimpArgs false
set_option linter.unusedVariables false

theorem sealS_a : sealS [97] = (rcd [97], 0) := sealS_ok (by simp) (by simp)

theorem seal_a (w : World) : Calls Try.prog 9 #[.slice (some ⟨w.heap.size, 0, none⟩) 1 1] (w.alloc (.cells #[.int .u8 97] 5 (1, 2))) fun e w' => ∃ g cap, e = .returned (.tuple #[.slice (some ⟨g, 0, none⟩) 7 cap, .int .i64 0]) ∧ Own w' (w.heap.size + 1) 5 (.slice (some ⟨g, 0, none⟩) 7 cap) (rcd [97]) ∧ Below w.heap.size w w' := by
  have h := seal_any _ _ _ (rd_const w [97] (by simp [maxLen]) (1, 2))
  rw [sealS_a] at h
  refine Calls.mono h ?_
  rintro e w' ⟨u, rfl, ho, hb⟩
  have hb' : Below w.heap.size w w' := ((Below.refl _ _).alloc (Nat.le_refl _) _).trans (hb.mono (by simp))
  rcases ho.2 with ⟨_, hn⟩ | ⟨g, cap, _, rfl, _⟩
  · simp [rcd_length] at hn
  · exact ⟨g, cap, rfl, by simpa [rcd_length] using ho, hb'⟩

set_option maxHeartbeats 1000000 in
theorem sealSeals_walk {w : World} (bv : Value) (bs : List Int) (hb : Rd w bv bs) (_hy : ∀ x ∈ bs, 0 ≤ x ∧ x ≤ 255) (_hl : bs.length ≤ 140737488351232) :
    Calls Try.prog 4 #[bv] w fun e w' => e = .returned (.bool true) ∧ Below w.heap.size w w' := by
  have h1 := seal_any bv bs w hb
  obtain ⟨⟨xs, er⟩, hx⟩ : ∃ x, x = sealS bs := ⟨_, rfl⟩
  rw [← hx] at h1
  have kc := conv_const
  go_enter Try.func4, Try.ntmps4
  go_wp2_with (first
    | (go_at_call 9; refine h1.mono ?_; rintro e w1 ⟨u1, rfl, o1, b1⟩; have h2 := refSeal_any bv bs w1 (hb.below b1 (Nat.le_refl _)); rw [← hx] at h2; clear h1)
    | (go_at_call 10; refine h2.mono ?_; rintro e w2 ⟨u2, rfl, o2, hb2⟩; have r1 := o1.rd.below hb2 (Nat.le_refl _); have b2 := b1.trans (hb2.mono b1.size); have r2 := o2.rd; have h3 := seal_a w2; clear h2 b1 o1 hb2 o2)
    | (go_at_call 9; refine h3.mono ?_; rintro e w3 ⟨g, cap, rfl, o3, hb3⟩; have c1 := rd_conv (r1.below hb3 (Nat.le_refl _)); have c2 := rd_conv (r2.below hb3 (Nat.le_refl _)); have b3 := b2.trans (hb3.mono b2.size); clear h3 hb3 r1 r2 b2 o3))
  go_ret
  exact ⟨by simp, b3⟩

end Go.Proofs.Ytlkhakcphdemjaa
