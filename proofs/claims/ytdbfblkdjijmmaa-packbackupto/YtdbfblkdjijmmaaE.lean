/- The walks of PackTakes and PackTakesTexts. -/
import Derived.Test.YtdbfblkdjijmmaaD
namespace Go.Proofs.Ytdbfblkdjijmmaa
open Go.RowKit
attribute [local go_sem ↓] Go.wp_at_zero Go.wp_at_succ

theorem takeN_one : takeN [1, 5] = (5, 2, 0) := by decide

theorem rd_lit (w : World) (zs : List Int) (h : zs.length ≤ maxLen) : Rd (w.alloc (.cells (zs.map (Value.int .u8)).toArray 5)) (.slice (some ⟨w.heap.size, 0, none⟩) zs.length zs.length) zs := by
  have h1 := World.ownsRow_lit (base := w.heap.size) (e := 5) (size := 1) w (zs.map (Value.int .u8)).toArray zs.length (Nat.le_refl _) h (by simp)
  have h2 : Own (w.alloc (.cells (zs.map (Value.int .u8)).toArray 5)) w.heap.size 5 (.slice (some ⟨w.heap.size, 0, none⟩) zs.length zs.length) zs := by simpa [Own] using h1
  exact h2.rd

set_option maxHeartbeats 1000000 in
theorem packTakes_walk {w : World} (bv : Value) (bs : List Int) (hb : Rd w bv bs) (hy : ∀ x ∈ bs, 0 ≤ x ∧ x ≤ 255) (_hl : bs.length ≤ 140737488351232) :
    Calls Try.prog 5 #[bv] w fun e w' => e = .returned (.bool true) ∧ Below w.heap.size w w' := by
  have hone : ∀ w' : World, Rd (w'.alloc (.cells #[.int .u8 1, .int .u8 5] 5)) (.slice (some ⟨w'.heap.size, 0, none⟩) 2 2) [1, 5] := fun w' => rd_lit w' [1, 5] (by simp [maxLen])
  have hyo : ∀ x ∈ [(1 : Int), 5], 0 ≤ x ∧ x ≤ 255 := by simp
  have h1 := takeNumber_any bv bs w hb hy
  have h2 := refTakeNumber_any bv bs w hb hy
  have h3 := fun w' => takeNumber_any _ [1, 5] _ (hone w') hyo
  rw [takeN_one] at h3
  obtain ⟨⟨n, k, er⟩, hx⟩ : ∃ x, x = takeN bs := ⟨_, rfl⟩
  rw [← hx] at h1 h2
  clear hx hone hyo hb hy
  go_enter Try.func5, Try.ntmps5
  go_wp2_with (first
    | (go_at_call 13; refine (h3 w1).mono ?_; rintro e w' ⟨rfl, rfl⟩)
    | (go_at_call 13; refine h1.mono ?_; rintro e w' ⟨rfl, rfl⟩)
    | (go_at_call 14; refine h2.mono ?_; rintro e w1 ⟨rfl, hb1⟩))
  go_ret
  exact ⟨rfl, hb1.alloc hb1.size _⟩

/-- What TakeText answers: the text's bytes, how many bytes it has, the error. -/
def takeT (bs : List Int) : List Int × Int × Int :=
  if ¬ (takeN bs).2.2 = 0 then ([], 0, (takeN bs).2.2) else if (takeN bs).1 < 0 then ([], 0, 2) else if (bs.length : Int) - (takeN bs).2.1 < (takeN bs).1 then ([], 0, 5)
  else ((bs.drop (takeN bs).2.1.toNat).take (takeN bs).1.toNat, (takeN bs).2.1 + (takeN bs).1, 0)
abbrev tupT (x : List Int × Int × Int) : Value := .tuple #[.string (strOfNums x.1), .int .i64 x.2.1, .int .i64 x.2.2]

theorem takeN_facts (bs : List Int) : 0 ≤ (takeN bs).2.1 ∧ (takeN bs).2.1 ≤ 9 ∧ ((takeN bs).2.2 = 0 → 1 ≤ (takeN bs).2.1 ∧ (takeN bs).2.1 ≤ (bs.length : Int)) := by
  cases bs with
  | nil => simp [takeN]
  | cons c r =>
    by_cases h8 : 8 < c
    · rw [takeN_big h8]; simp
    · by_cases hs : (r.length : Int) < c
      · rw [takeN_short h8 hs]; simp
      · by_cases h0 : c < 0
        · have hw : ¬ ((wd (sgn (r.take c.toNat)) : Nat) : Int) = c := by omega
          have e : takeN (c :: r) = (0, 0, 2) := by simp [takeN, h8, hs, hw]
          rw [e]; simp
        · obtain ⟨m, rfl⟩ : ∃ m : Nat, c = (m : Int) := ⟨c.toNat, by omega⟩
          by_cases hw : wd (sgn (r.take m)) = m
          · rw [takeN_ok (by omega) (by omega) hw]
            simp only [List.length_cons]
            omega
          · rw [takeN_not (by omega) (by omega) hw]; simp

theorem takeT_err {bs : List Int} {n k er : Int} (h : (n, k, er) = takeN bs) (he : ¬ er = 0) : takeT bs = ([], 0, er) := by
  unfold takeT; rw [← h]; simp [he]
theorem takeT_neg {bs : List Int} {n k : Int} (h : (n, k, 0) = takeN bs) (hn : n < 0) : takeT bs = ([], 0, 2) := by
  unfold takeT; rw [← h]; simp [hn]
theorem takeT_short {bs : List Int} {n k : Int} (h : (n, k, 0) = takeN bs) (hn : ¬ n < 0) (hs : (bs.length : Int) - k < n) : takeT bs = ([], 0, 5) := by
  unfold takeT; rw [← h]; simp [hn, hs]
theorem takeT_ok {bs : List Int} {n k : Nat} (h : ((n : Int), (k : Int), (0 : Int)) = takeN bs) (hs : k + n ≤ bs.length) : takeT bs = ((bs.drop k).take n, (k : Int) + n, 0) := by
  have h1 : ¬ (n : Int) < 0 := by omega
  have h2 : ¬ (bs.length : Int) - k < n := by omega
  unfold takeT; rw [← h]; simp [h1, h2]

/-- A part of a slice of bytes. -/
theorem Rd.part {w : World} {b off len cap k n : Nat} {bs : List Int} (hl : bs.length = len) (h : ∀ i, i < len → w.cell? ⟨b, off + i, none⟩ = some (.int .u8 (bs.getD i 0))) (hc : len ≤ cap) (hm : cap ≤ maxLen) (hkn : k + n ≤ len) :
    Rd w (.slice (if cap = k then some ⟨b, off, none⟩ else some ⟨b, off + k, none⟩) n (cap - k)) ((bs.drop k).take n) := by
  have hln : ((bs.drop k).take n).length = n := by rw [List.length_take, List.length_drop]; omega
  by_cases h1 : cap = k
  · rw [if_pos h1]
    have : n = 0 := by omega
    subst this
    exact Rd.of_lies (by simp) (by omega) (by omega) (fun i hi => by omega)
  · rw [if_neg h1]
    refine Rd.of_lies hln (by omega) (by omega) (fun i hi => ?_)
    rw [show off + k + i = off + (k + i) by omega, h (k + i) (by omega)]
    simp [List.getD, hi]

theorem toNat_ex (n : Int) (h : ¬ n < 0) : ∃ m : Nat, n = (m : Int) := ⟨n.toNat, by omega⟩

set_option maxHeartbeats 1000000 in
theorem takeText_any (v : Value) (bs : List Int) (w : World) (h : Rd w v bs) (hb : ∀ x ∈ bs, 0 ≤ x ∧ x ≤ 255) :
    Calls Try.prog 15 #[v] w fun e w' => e = .returned (tupT (takeT bs)) ∧ w = w' := by
  have h1 := takeNumber_any v bs w h hb
  obtain ⟨k0, k9, kl⟩ := takeN_facts bs
  obtain ⟨⟨n, k, er⟩, hx⟩ : ∃ x, x = takeN bs := ⟨_, rfl⟩
  rw [← hx] at h1 k0 k9 kl
  have HX : Hid ((n, k, er) = takeN bs) := hx
  clear hx hb
  dsimp only at k0 k9 kl
  by_cases he : er = 0
  · subst he
    have kl := kl rfl
    obtain ⟨b, off, cap, rfl, hc, hm, hcell⟩ := h.lies (by omega)
    by_cases hn : n < 0
    · rw [takeT_neg HX.out hn]
      go_enter Try.func15, Try.ntmps15
      go_wp2_with (first
        | (go_at_call 13; refine h1.mono ?_; rintro e w' ⟨rfl, rfl⟩))
      go_ret3
      exact ⟨rfl, rfl⟩
    · by_cases hs : (bs.length : Int) - k < n
      · rw [takeT_short HX.out hn hs]
        have hm' := hm
        unfold maxLen at hm'
        go_enter Try.func15, Try.ntmps15
        go_wp2_with (first
          | (go_at_call 13; refine h1.mono ?_; rintro e w' ⟨rfl, rfl⟩))
        go_ret3
        exact ⟨rfl, rfl⟩
      · obtain ⟨n, rfl⟩ := toNat_ex n hn
        obtain ⟨k, rfl⟩ := toNat_ex k (by omega)
        have hkn : k + n ≤ bs.length := by omega
        rw [takeT_ok HX.out hkn]
        have hcv := rd_conv (Rd.part rfl hcell hc hm hkn)
        have hm' := hm
        unfold maxLen at hm'
        have hi1 : (k : Int) + (n : Int) ≤ (cap : Int) := by omega
        clear hcell
        go_enter Try.func15, Try.ntmps15
        go_wp2_with (first
          | (go_at_call 13; refine h1.mono ?_; rintro e w' ⟨rfl, rfl⟩))
        all_goals
          go_ret3
          exact ⟨rfl, rfl⟩
  · rw [takeT_err HX.out he]
    have he' : ¬ er = 0 := he
    go_enter Try.func15, Try.ntmps15
    go_wp2_with (first
      | (go_at_call 13; refine h1.mono ?_; rintro e w' ⟨rfl, rfl⟩))
    go_ret3
    exact ⟨rfl, rfl⟩
set_option maxHeartbeats 1000000 in
theorem refTakeText_any (v : Value) (bs : List Int) (w : World) (h : Rd w v bs) (hb : ∀ x ∈ bs, 0 ≤ x ∧ x ≤ 255) :
    Calls Try.prog 16 #[v] w fun e w' => e = .returned (tupT (takeT bs)) ∧ Below w.heap.size w w' := by
  have h1 := refTakeNumber_any v bs w h hb
  obtain ⟨k0, k9, kl⟩ := takeN_facts bs
  obtain ⟨⟨n, k, er⟩, hx⟩ : ∃ x, x = takeN bs := ⟨_, rfl⟩
  rw [← hx] at h1 k0 k9 kl
  have HX : Hid ((n, k, er) = takeN bs) := hx
  clear hx hb
  dsimp only at k0 k9 kl
  by_cases he : er = 0
  · subst he
    have kl := kl rfl
    obtain ⟨b, off, cap, rfl, hc, hm, hcell⟩ := h.lies (by omega)
    by_cases hn : n < 0
    · rw [takeT_neg HX.out hn]
      go_enter Try.func16, Try.ntmps16
      go_wp2_with (first
        | (go_at_call 14; refine h1.mono ?_; rintro e w1 ⟨rfl, hb1⟩))
      go_ret3
      exact ⟨rfl, hb1⟩
    · by_cases hs : (bs.length : Int) - k < n
      · rw [takeT_short HX.out hn hs]
        have hm' := hm
        unfold maxLen at hm'
        go_enter Try.func16, Try.ntmps16
        go_wp2_with (first
          | (go_at_call 14; refine h1.mono ?_; rintro e w1 ⟨rfl, hb1⟩))
        go_ret3
        exact ⟨rfl, hb1⟩
      · obtain ⟨n, rfl⟩ := toNat_ex n hn
        obtain ⟨k, rfl⟩ := toNat_ex k (by omega)
        have hkn : k + n ≤ bs.length := by omega
        rw [takeT_ok HX.out hkn]
        have hcv : ∀ w1, Below w.heap.size w w1 → (convert 22 9 (.slice (if cap = k then some ⟨b, off, none⟩ else some ⟨b, off + k, none⟩) n (cap - k))).run Try.prog w1 = .ok (.string (strOfNums ((bs.drop k).take n))) w1 := fun w1 hb1 => rd_conv ((Rd.part rfl hcell hc hm hkn).below hb1 (Nat.le_refl _))
        have hm' := hm
        unfold maxLen at hm'
        have hi1 : (k : Int) + (n : Int) ≤ (cap : Int) := by omega
        clear hcell
        go_enter Try.func16, Try.ntmps16
        go_wp2_with (first
          | (go_at_call 14; refine h1.mono ?_; rintro e w1 ⟨rfl, hb1⟩; have hcv1 := hcv w1 hb1))
        all_goals
          go_ret3
          exact ⟨rfl, hb1⟩
  · rw [takeT_err HX.out he]
    have he' : ¬ er = 0 := he
    go_enter Try.func16, Try.ntmps16
    go_wp2_with (first
      | (go_at_call 14; refine h1.mono ?_; rintro e w1 ⟨rfl, hb1⟩))
    go_ret3
    exact ⟨rfl, hb1⟩

theorem takeT_one : takeT [1, 1, 120] = ([120], 3, 0) := by decide

set_option maxHeartbeats 1000000 in
theorem packTakesTexts_walk {w : World} (bv : Value) (bs : List Int) (hb : Rd w bv bs) (hy : ∀ x ∈ bs, 0 ≤ x ∧ x ≤ 255) (_hl : bs.length ≤ 140737488351232) :
    Calls Try.prog 6 #[bv] w fun e w' => e = .returned (.bool true) ∧ Below w.heap.size w w' := by
  have hone : ∀ w' : World, Rd (w'.alloc (.cells #[.int .u8 1, .int .u8 1, .int .u8 120] 5)) (.slice (some ⟨w'.heap.size, 0, none⟩) 3 3) [1, 1, 120] := fun w' => rd_lit w' [1, 1, 120] (by simp [maxLen])
  have hyo : ∀ x ∈ [(1 : Int), 1, 120], 0 ≤ x ∧ x ≤ 255 := by simp
  have h1 := takeText_any bv bs w hb hy
  have h2 := refTakeText_any bv bs w hb hy
  have h3 := fun w' => takeText_any _ [1, 1, 120] _ (hone w') hyo
  rw [takeT_one] at h3
  obtain ⟨⟨t, k, er⟩, hx⟩ : ∃ x, x = takeT bs := ⟨_, rfl⟩
  rw [← hx] at h1 h2
  have hs : (strOfNums [120]).toList = [120] := by rw [ByteArray.toList_eq]; rfl
  clear hx hone hyo hb hy
  go_enter Try.func6, Try.ntmps6
  go_wp2_with (first
    | (go_at_call 15; refine (h3 w1).mono ?_; rintro e w' ⟨rfl, rfl⟩)
    | (go_at_call 15; refine h1.mono ?_; rintro e w' ⟨rfl, rfl⟩)
    | (go_at_call 16; refine h2.mono ?_; rintro e w1 ⟨rfl, hb1⟩))
  go_ret
  exact ⟨rfl, hb1.alloc hb1.size _⟩

end Go.Proofs.Ytdbfblkdjijmmaa
