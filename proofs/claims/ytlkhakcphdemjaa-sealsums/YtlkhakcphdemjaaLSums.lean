/- The walk of SealSums. -/
import Derived.Test.YtlkhakcphdemjaaCrcW
namespace Go.Proofs.Ytlkhakcphdemjaa
open Go.RowKit
set_option linter.unusedSimpArgs false
set_option linter.unusedVariables false

theorem sm_known : sm [49, 50, 51, 52, 53, 54, 55, 56, 57] = 10673 := by kernel_rfl

set_option maxHeartbeats 1000000 in
theorem sealSums_walk {w : World} (bv : Value) (bs : List Int) (hb : Rd w bv bs) (_hy : ∀ x ∈ bs, 0 ≤ x ∧ x ≤ 255) (_hl : bs.length ≤ 140737488351232) :
    Calls Try.prog 3 #[bv] w fun e w' => e = .returned (.bool true) ∧ Below w.heap.size w w' := by
  have h1 := sum_any bv bs w hb
  have h2 := refSum_any bv bs w hb
  have h3 : Calls Try.prog 7 #[.slice (some ⟨w.heap.size, 0, none⟩) 9 9] (w.alloc (.cells #[.int .u8 49, .int .u8 50, .int .u8 51, .int .u8 52, .int .u8 53, .int .u8 54, .int .u8 55, .int .u8 56, .int .u8 57] 5 (9, 10))) fun e w' => e = .returned (.int .u16 10673) ∧ w.alloc (.cells #[.int .u8 49, .int .u8 50, .int .u8 51, .int .u8 52, .int .u8 53, .int .u8 54, .int .u8 55, .int .u8 56, .int .u8 57] 5 (9, 10)) = w' := by
    have := sum_any _ _ _ (rd_const w [49, 50, 51, 52, 53, 54, 55, 56, 57] (by simp [maxLen]) (9, 10))
    rw [sm_known] at this
    exact this
  obtain ⟨x, hx⟩ : ∃ x, x = sm bs := ⟨_, rfl⟩
  rw [← hx] at h1 h2
  clear hx hb _hy
  have kc := conv_const
  go_enter Try.func3, Try.ntmps3
  go_wp2_with (first
    | (go_at_call 7; refine h1.mono ?_; rintro e w' ⟨rfl, rfl⟩; clear h1)
    | (go_at_call 7; refine h3.mono ?_; rintro e w' ⟨rfl, rfl⟩)
    | (go_at_call 8; refine h2.mono ?_; rintro e w1 ⟨rfl, rfl⟩))
  go_ret
  exact ⟨rfl, (Below.refl _ _).alloc (Nat.le_refl _) _⟩

end Go.Proofs.Ytlkhakcphdemjaa
