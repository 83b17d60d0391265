
/- slices.IndexFunc, slices.ContainsFunc at the names of an expression and Reserved. -/
import Derived.Test.YtiddccohldjjcaaGreatDoorExJm
import Derived.Test.YtiddccohldjjcaaGreatDoorPgS
import Derived.Deep.LoopGhost
namespace Go.Proofs.YtiddccohldjjcaaGreatDoor
open Go.RowKit Go.Lib
set_option linter.unusedSimpArgs false
set_option linter.unusedVariables false
attribute [local go_sem ↓] Go.wp_at_zero Go.wp_at_succ
theorem RdS.at' {w : World} {v : Value} {ls : List ByteArray} (h : RdS w v ls) : ∃ a cap, v = .slice a ls.length cap ∧ ls.length ≤ maxLen ∧ ∀ (i : Nat) (hi : i < ls.length), ∃ g, a = some ⟨g, 0, none⟩ ∧ w.cell? ⟨g, i, none⟩ = some (.string ls[i]) := by
  rcases h.form with ⟨rfl, rfl⟩ | ⟨g, cap, rfl, h1, h2, h3⟩
  · exact ⟨none, 0, rfl, by simp [maxLen], fun i hi => by simp at hi⟩
  · exact ⟨_, _, rfl, by omega, fun i hi => ⟨g, rfl, h3 i hi⟩⟩
set_option maxRecDepth 100000 in
set_option maxHeartbeats 4000000 in
theorem idx_any {w : World} {v : Value} {ls : List ByteArray} (h : RdS w v ls) :
    Calls Tryz.prog 31 #[v, .func (.func 12) #[] #[]] w fun e w' => ∃ i : Int, e = .returned (.int .i64 i) ∧ decide (0 ≤ i) = ls.any (fun s => rsvB (bl s)) ∧ w' = w := by
  obtain ⟨a, cap, rfl, hm, hc⟩ := h.at'
  clear h
  unfold maxLen at hm
  obtain ⟨n, hn⟩ : ∃ n, ls.length = n := ⟨_, rfl⟩
  rw [hn] at hm ⊢
  go_enter Tryz.func31, Tryz.ntmps31
  go_wp2
  go_loopg [5, 8] n (fun gg _ s8 wr => ∃ kk : Nat, kk ≤ n ∧ n - kk ≤ gg ∧ s8 = .int .i64 (kk : Int) ∧ Hid (w = wr) ∧ Hid (∀ (j : Nat) (hj : j < ls.length), j < kk → rsvB (bl ls[j]) = false))
  case atStart => exact ⟨0, Nat.zero_le _, by omega, rfl, rfl, fun j _ hj => absurd hj (Nat.not_lt_zero _)⟩
  case round =>
    obtain ⟨kk, hkk, hg, rfl, hw, A⟩ := hrel
    obtain rfl : w = wr := hw
    by_cases hlt : kk < n
    · have hltz : (kk : Int) < (n : Int) := by omega
      obtain ⟨g, rfl, hcl⟩ := hc kk (by omega)
      have hcall := pReserved_any ls[kk] w
      obtain ⟨y, hy⟩ : ∃ y, ls[kk] = y := ⟨_, rfl⟩
      rw [hy] at hcl hcall
      cases hq : rsvB (bl y) with
      | true =>
        rw [hq] at hcall
        go_wp2_with (go_at_call 12; refine hcall.mono ?_; rintro e w' ⟨rfl, rfl⟩)
        go_ret
        refine ⟨_, rfl, ?_, rfl⟩
        rw [List.any_eq_true.2 ⟨y, hy ▸ List.getElem_mem _, hq⟩]
        simp
      | false =>
        rw [hq] at hcall
        go_wp2_with (go_at_call 12; refine hcall.mono ?_; rintro e w' ⟨rfl, rfl⟩)
        go_roundg (n - (kk + 1))
        case measure => omega
        case rel =>
          refine ⟨kk + 1, by omega, by omega, by go_num, rfl, (show Hid _ from fun j hj hj' => ?_)⟩
          by_cases e : j = kk
          · subst e; rw [hy]; exact hq
          · exact A j hj (by omega)
    · have hltz : ¬ (kk : Int) < (n : Int) := by omega
      go_wp2
      go_ret
      refine ⟨_, rfl, ?_, rfl⟩
      have : ls.any (fun s => rsvB (bl s)) = false := by
        rw [List.any_eq_false]
        intro x hx
        obtain ⟨j, hj, rfl⟩ := List.mem_iff_getElem.1 hx
        rw [A j hj (by omega)]; simp
      rw [this]; decide
set_option maxRecDepth 100000 in
set_option maxHeartbeats 4000000 in
theorem contains_any {w : World} {v : Value} {ls : List ByteArray} (h : RdS w v ls) :
    Calls Tryz.prog 19 #[v, .func (.func 12) #[] #[]] w fun e w' => e = .returned (.bool (ls.any (fun s => rsvB (bl s)))) ∧ w' = w := by
  have h1 := idx_any h
  obtain ⟨a, cap, rfl, hm, hc⟩ := h.at'
  clear h hc hm
  generalize ls.any (fun s => rsvB (bl s)) = z at h1 ⊢
  go_enter Tryz.func19, Tryz.ntmps19
  go_wp2_with (go_at_call 31; refine h1.mono ?_; rintro e w' ⟨i, rfl, hi, rfl⟩; have hi' : Hid (decide (0 ≤ i) = z) := hi; clear hi)
  go_ret
  have hi2 : decide (0 ≤ i) = z := hi'
  simp [← hi2]
end Go.Proofs.YtiddccohldjjcaaGreatDoor
