/- What the document's TakeText does. -/
import Derived.Test.YtdbfblkdjijmmabTakeT
import Derived.Test.YtdbfblkdjijmmabRefTakeN
namespace Go.Proofs.Ytdbfblkdjijmmab
open Go.RowKit
set_option linter.unusedSimpArgs false
set_option linter.unusedVariables false

set_option maxHeartbeats 1000000 in
theorem refTakeText_any (v : Value) (bs : List Int) (w : World) (h : Rd w v bs) (hb : ∀ x ∈ bs, 0 ≤ x ∧ x ≤ 255) :
    Calls Try.prog 14 #[v] w fun e w' => e = .returned (tupT (takeT bs)) ∧ Below w.heap.size w w' := by
  have h1 := refTakeNumber_any v bs w h hb
  obtain ⟨k0, k9, kl⟩ := takeN_facts bs
  obtain ⟨⟨n, k, er⟩, hx⟩ : ∃ x, x = takeN bs := ⟨_, rfl⟩
  rw [← hx] at h1 k0 k9 kl
  have HX : Hid ((n, k, er) = takeN bs) := hx
  clear hx hb
  dsimp only at k0 k9 kl
  by_cases he : er = 0
  · subst he
    have kl := kl rfl
    obtain ⟨b, off, cap, rfl, hc, hm, hcell⟩ := h.lies (by omega)
    by_cases hn : n < 0
    · rw [takeT_neg HX.out hn]
      go_enter Try.func14, Try.ntmps14
      go_wp2_with (first
        | (go_at_call 13; refine h1.mono ?_; rintro e w1 ⟨rfl, hb1⟩))
      go_ret3
      exact ⟨rfl, hb1⟩
    · by_cases hs : (bs.length : Int) - k < n
      · rw [takeT_short HX.out hn hs]
        have hm' := hm
        unfold maxLen at hm'
        go_enter Try.func14, Try.ntmps14
        go_wp2_with (first
          | (go_at_call 13; refine h1.mono ?_; rintro e w1 ⟨rfl, hb1⟩))
        go_ret3
        exact ⟨rfl, hb1⟩
      · obtain ⟨n, rfl⟩ := toNat_ex n hn
        obtain ⟨k, rfl⟩ := toNat_ex k (by omega)
        have hkn : k + n ≤ bs.length := by omega
        rw [takeT_ok HX.out hkn]
        have hcv : ∀ w1, Below w.heap.size w w1 → (convert 22 9 (.slice (if cap = k then some ⟨b, off, none⟩ else some ⟨b, off + k, none⟩) n (cap - k))).run Try.prog w1 = .ok (.string (strOfNums ((bs.drop k).take n))) w1 := fun w1 hb1 => rd_conv ((Rd.part rfl hcell hc hm hkn).below hb1 (Nat.le_refl _))
        have hm' := hm
        unfold maxLen at hm'
        have hi1 : (k : Int) + (n : Int) ≤ (cap : Int) := by omega
        clear hcell
        go_enter Try.func14, Try.ntmps14
        go_wp2_with (first
          | (go_at_call 13; refine h1.mono ?_; rintro e w1 ⟨rfl, hb1⟩; have hcv1 := hcv w1 hb1))
        all_goals
          go_ret3
          exact ⟨rfl, hb1⟩
  · rw [takeT_err HX.out he]
    have he' : ¬ er = 0 := he
    go_enter Try.func14, Try.ntmps14
    go_wp2_with (first
      | (go_at_call 13; refine h1.mono ?_; rintro e w1 ⟨rfl, hb1⟩))
    go_ret3
    exact ⟨rfl, hb1⟩

end Go.Proofs.Ytdbfblkdjijmmab
