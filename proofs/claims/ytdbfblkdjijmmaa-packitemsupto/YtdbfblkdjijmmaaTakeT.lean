/- What pack.TakeText does. -/
import Derived.Test.YtdbfblkdjijmmaaTakeN
namespace Go.Proofs.Ytdbfblkdjijmmaa
open Go.RowKit
set_option linter.unusedSimpArgs false
set_option linter.unusedVariables false

/-- What TakeText answers: the text's bytes, how many bytes it has, the error. -/
def takeT (bs : List Int) : List Int × Int × Int :=
  if ¬ (takeN bs).2.2 = 0 then ([], 0, (takeN bs).2.2) else if (takeN bs).1 < 0 then ([], 0, 2) else if (bs.length : Int) - (takeN bs).2.1 < (takeN bs).1 then ([], 0, 5)
  else ((bs.drop (takeN bs).2.1.toNat).take (takeN bs).1.toNat, (takeN bs).2.1 + (takeN bs).1, 0)

abbrev tupT (x : List Int × Int × Int) : Value := .tuple #[.string (strOfNums x.1), .int .i64 x.2.1, .int .i64 x.2.2]

theorem takeN_facts (bs : List Int) : 0 ≤ (takeN bs).2.1 ∧ (takeN bs).2.1 ≤ 9 ∧ ((takeN bs).2.2 = 0 → 1 ≤ (takeN bs).2.1 ∧ (takeN bs).2.1 ≤ (bs.length : Int)) := by
  cases bs with
  | nil => simp [takeN]
  | cons c r =>
    by_cases h8 : 8 < c
    · rw [takeN_big h8]; simp
    · by_cases hs : (r.length : Int) < c
      · rw [takeN_short h8 hs]; simp
      · by_cases h0 : c < 0
        · have hw : ¬ ((wd (sgn (r.take c.toNat)) : Nat) : Int) = c := by omega
          have e : takeN (c :: r) = (0, 0, 2) := by simp [takeN, h8, hs, hw]
          rw [e]; simp
        · obtain ⟨m, rfl⟩ : ∃ m : Nat, c = (m : Int) := ⟨c.toNat, by omega⟩
          by_cases hw : wd (sgn (r.take m)) = m
          · rw [takeN_ok (by omega) (by omega) hw]
            simp only [List.length_cons]
            omega
          · rw [takeN_not (by omega) (by omega) hw]; simp

theorem takeT_err {bs : List Int} {n k er : Int} (h : (n, k, er) = takeN bs) (he : ¬ er = 0) : takeT bs = ([], 0, er) := by
  unfold takeT; rw [← h]; simp [he]

theorem takeT_neg {bs : List Int} {n k : Int} (h : (n, k, 0) = takeN bs) (hn : n < 0) : takeT bs = ([], 0, 2) := by
  unfold takeT; rw [← h]; simp [hn]

theorem takeT_short {bs : List Int} {n k : Int} (h : (n, k, 0) = takeN bs) (hn : ¬ n < 0) (hs : (bs.length : Int) - k < n) : takeT bs = ([], 0, 5) := by
  unfold takeT; rw [← h]; simp [hn, hs]

theorem takeT_ok {bs : List Int} {n k : Nat} (h : ((n : Int), (k : Int), (0 : Int)) = takeN bs) (hs : k + n ≤ bs.length) : takeT bs = ((bs.drop k).take n, (k : Int) + n, 0) := by
  have h1 : ¬ (n : Int) < 0 := by omega
  have h2 : ¬ (bs.length : Int) - k < n := by omega
  unfold takeT; rw [← h]; simp [h1, h2]

set_option maxHeartbeats 1000000 in
theorem takeText_any (v : Value) (bs : List Int) (w : World) (h : Rd w v bs) (hb : ∀ x ∈ bs, 0 ≤ x ∧ x ≤ 255) :
    Calls Try.prog 15 #[v] w fun e w' => e = .returned (tupT (takeT bs)) ∧ w = w' := by
  have h1 := takeNumber_any v bs w h hb
  obtain ⟨k0, k9, kl⟩ := takeN_facts bs
  obtain ⟨⟨n, k, er⟩, hx⟩ : ∃ x, x = takeN bs := ⟨_, rfl⟩
  rw [← hx] at h1 k0 k9 kl
  have HX : Hid ((n, k, er) = takeN bs) := hx
  clear hx hb
  dsimp only at k0 k9 kl
  by_cases he : er = 0
  · subst he
    have kl := kl rfl
    obtain ⟨b, off, cap, rfl, hc, hm, hcell⟩ := h.lies (by omega)
    by_cases hn : n < 0
    · rw [takeT_neg HX.out hn]
      go_enter Try.func15, Try.ntmps15
      go_wp2_with (first
        | (go_at_call 13; refine h1.mono ?_; rintro e w' ⟨rfl, rfl⟩))
      go_ret3
      exact ⟨rfl, rfl⟩
    · by_cases hs : (bs.length : Int) - k < n
      · rw [takeT_short HX.out hn hs]
        have hm' := hm
        unfold maxLen at hm'
        go_enter Try.func15, Try.ntmps15
        go_wp2_with (first
          | (go_at_call 13; refine h1.mono ?_; rintro e w' ⟨rfl, rfl⟩))
        go_ret3
        exact ⟨rfl, rfl⟩
      · obtain ⟨n, rfl⟩ := toNat_ex n hn
        obtain ⟨k, rfl⟩ := toNat_ex k (by omega)
        have hkn : k + n ≤ bs.length := by omega
        rw [takeT_ok HX.out hkn]
        have hcv := rd_conv (Rd.part rfl hcell hc hm hkn)
        have hm' := hm
        unfold maxLen at hm'
        have hi1 : (k : Int) + (n : Int) ≤ (cap : Int) := by omega
        clear hcell
        go_enter Try.func15, Try.ntmps15
        go_wp2_with (first
          | (go_at_call 13; refine h1.mono ?_; rintro e w' ⟨rfl, rfl⟩))
        all_goals
          go_ret3
          exact ⟨rfl, rfl⟩
  · rw [takeT_err HX.out he]
    have he' : ¬ er = 0 := he
    go_enter Try.func15, Try.ntmps15
    go_wp2_with (first
      | (go_at_call 13; refine h1.mono ?_; rintro e w' ⟨rfl, rfl⟩))
    go_ret3
    exact ⟨rfl, rfl⟩

end Go.Proofs.Ytdbfblkdjijmmaa
