/- What summed does. -/
import Derived.Test.YtlkhakcphdemjaaProg
import Derived.Test.YtlkhakcphdemjaaSl
import Derived.Test.YtlkhakcphdemjaaCrcM
namespace Go.Proofs.Ytlkhakcphdemjaa
open Go.RowKit
set_option linter.unusedSimpArgs false
set_option linter.unusedVariables false

theorem summed_any (s c : Int) (w : World) :
    Calls Try.prog 13 #[.int .u16 s, .int .u8 c] w fun e w' => e = .returned (.int .u16 (smd s c)) ∧ w = w' := by
  go_enter Try.func13, Try.ntmps13
  go_wp2
  go_loop [0, 11] (fun u t => ∃ (k : Nat) (s' : Int), k ≤ 8 ∧ t = .int .i64 k ∧ u = .int .u16 s' ∧ Hid (stps (8 - k) s' = smd s c)) (fun _ t => 8 - (intOf t).toNat)
  case atStart => exact ⟨0, _, by omega, rfl, rfl, smd_start s c⟩
  case round =>
    obtain ⟨k, s', hk8, rfl, rfl, hw⟩ := hrel
    go_wp2
    · go_round
      case rel => exact ⟨k + 1, _, by omega, by go_num, rfl, (stp_yes ‹_›) ▸ stps_next hw.out (by omega)⟩
      case measure => simp [intOf]; omega
    · go_round
      case rel => exact ⟨k + 1, _, by omega, by go_num, rfl, (stp_no ‹_›) ▸ stps_next hw.out (by omega)⟩
      case measure => simp [intOf]; omega
    · go_ret
      rw [stps_last hw.out (by omega)]
      exact ⟨rfl, rfl⟩

theorem sum_any (v : Value) (xs : List Int) (w : World) (hr : Rd w v xs) :
    Calls Try.prog 7 #[v] w fun e w' => e = .returned (.int .u16 (sm xs)) ∧ w = w' := by
  have hs : Hid (smF 65535 (xs.drop 0) = sm xs) := rfl
  have hS := summed_any
  have hN : ∀ (k : Nat) (s g c : Int), smF s (xs.drop k) = g → k < xs.length → xs.getD k 0 = c → smF (smd s c) (xs.drop (k + 1)) = g := fun k s g c => smF_next
  have hT := smd_start
  obtain ⟨F, hF⟩ : ∃ F, F = smd := ⟨_, rfl⟩
  rw [← hF] at hS hN hT
  obtain ⟨G, hG⟩ : ∃ G, G = smF := ⟨_, rfl⟩
  have hE : ∀ (k : Nat) (s g : Int), smF s (xs.drop k) = g → xs.length ≤ k → s = g := fun k s g => smF_last
  rw [← hG] at hs hN hE
  clear hF hG
  obtain ⟨a, cap, rfl, hc, hm, hnone, hcell⟩ := hr
  have hmx : (xs.length : Int) ≤ 9223372036854775807 := by unfold maxLen at hm; omega
  go_enter Try.func7, Try.ntmps7
  go_wp2
  go_loop [3, 8] (fun u t => ∃ (k : Nat) (s : Int), k ≤ xs.length ∧ t = .int .i64 k ∧ u = .int .u16 s ∧ Hid (G s (xs.drop k) = sm xs)) (fun _ t => xs.length - (intOf t).toNat)
  case atStart => exact ⟨0, _, by omega, rfl, rfl, hs⟩
  case round =>
    obtain ⟨k, s, hk, rfl, rfl, hw⟩ := hrel
    by_cases hlt : k < xs.length
    · cases a with
      | none => have := (hnone rfl).1; subst this; simp at hlt
      | some x =>
        have hx := hcell x rfl k hlt
        have hk' : (k : Int) < (xs.length : Int) := by omega
        have hk0 : (0 : Int) ≤ k := by omega
        go_wp2_with (first
          | (go_at_call 13; refine (hS _ _ _).mono ?_; rintro e w' ⟨rfl, rfl⟩))
        go_round
        case rel => exact ⟨k + 1, _, by omega, by go_num, rfl, hN _ _ _ _ hw.out hlt (by simp [List.getD, hlt])⟩
        case measure => simp [intOf]; omega
    · have hk' : ¬ (k : Int) < (xs.length : Int) := by omega
      go_wp2
      go_ret
      rw [hE _ _ _ hw.out (by omega)]
      exact ⟨rfl, rfl⟩

set_option maxHeartbeats 400000 in
theorem refSum_any (v : Value) (xs : List Int) (w : World) (hr : Rd w v xs) :
    Calls Try.prog 8 #[v] w fun e w' => e = .returned (.int .u16 (sm xs)) ∧ w = w' := by
  have hs : Hid (smF 65535 (xs.drop 0) = sm xs) := rfl
  have hS := summed_any
  have hN : ∀ (k : Nat) (s g c : Int), smF s (xs.drop k) = g → k < xs.length → xs.getD k 0 = c → smF (smd s c) (xs.drop (k + 1)) = g := fun k s g c => smF_next
  have hT := smd_start
  obtain ⟨F, hF⟩ : ∃ F, F = smd := ⟨_, rfl⟩
  rw [← hF] at hS hN hT
  obtain ⟨G, hG⟩ : ∃ G, G = smF := ⟨_, rfl⟩
  have hE : ∀ (k : Nat) (s g : Int), smF s (xs.drop k) = g → xs.length ≤ k → s = g := fun k s g => smF_last
  rw [← hG] at hs hN hE
  clear hF hG
  obtain ⟨a, cap, rfl, hc, hm, hnone, hcell⟩ := hr
  have hmx : (xs.length : Int) ≤ 9223372036854775807 := by unfold maxLen at hm; omega
  go_enter Try.func8, Try.ntmps8
  go_wp2
  go_loop [3, 7] (fun u t => ∃ (k : Nat) (s : Int), k ≤ xs.length ∧ t = .int .i64 k ∧ u = .int .u16 s ∧ Hid (G s (xs.drop k) = sm xs)) (fun _ t => xs.length - (intOf t).toNat)
  case atStart => exact ⟨0, _, by omega, rfl, rfl, hs⟩
  case round =>
    obtain ⟨k, s, hk, rfl, rfl, hw⟩ := hrel
    by_cases hlt : k < xs.length
    · cases a with
      | none => have := (hnone rfl).1; subst this; simp at hlt
      | some x =>
        have hx := hcell x rfl k hlt
        obtain ⟨c, hcc⟩ : ∃ c, xs.getD k 0 = c := ⟨_, rfl⟩
        rw [hcc] at hx
        clear hcell
        have hk' : (k : Int) < (xs.length : Int) := by omega
        have hk0 : (0 : Int) ≤ k := by omega
        go_wp2
        go_loop [3, 18] (fun u t => ∃ (j : Nat) (s' : Int), j ≤ 8 ∧ t = .int .i64 j ∧ u = .int .u16 s' ∧ Hid (stps (8 - j) s' = F s c)) (fun _ t => 8 - (intOf t).toNat)
        case atStart => exact ⟨0, _, by omega, rfl, rfl, hT s c⟩
        case round =>
          obtain ⟨j, s', hj8, rfl, rfl, hj⟩ := hrel
          go_wp2
          · go_round
            case rel => exact ⟨j + 1, _, by omega, by go_num, rfl, (stp_yes ‹_›) ▸ stps_next hj.out (by omega)⟩
            case measure => simp [intOf]; omega
          · go_round
            case rel => exact ⟨j + 1, _, by omega, by go_num, rfl, (stp_no ‹_›) ▸ stps_next hj.out (by omega)⟩
            case measure => simp [intOf]; omega
          · go_round
            case rel => exact ⟨k + 1, _, by omega, by go_num, rfl, by rw [stps_last hj.out (by omega)]; exact hN _ _ _ _ hw.out hlt hcc⟩
            case measure => simp [intOf]; omega
    · have hk' : ¬ (k : Int) < (xs.length : Int) := by omega
      go_wp2
      go_ret
      rw [hE _ _ _ hw.out (by omega)]
      exact ⟨rfl, rfl⟩
end Go.Proofs.Ytlkhakcphdemjaa
