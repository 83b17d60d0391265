/- That the calls that take undo those that write, in plain lists and integers; and what is cut off lacks something. -/
import Derived.Test.YtdbfblkdjijmmaaTakeT
import Derived.Test.YtdbfblkdjijmmaaTxtW
namespace Go.Proofs.Ytdbfblkdjijmmaa
open Go.RowKit
set_option linter.unusedSimpArgs false
set_option linter.unusedVariables false

theorem emod_step (n P : Int) (hP : 0 < P) : n % (P * 256) = n / P % 256 * P + n % P := by
  have h1 : n = n % P + P * (n / P) := (Int.emod_add_mul_ediv n P).symm
  have h2 : n / P = n / P % 256 + 256 * (n / P / 256) := (Int.emod_add_mul_ediv (n / P) 256).symm
  have h3 : n = (n / P % 256 * P + n % P) + (P * 256) * (n / P / 256) := by
    generalize n / P / 256 = q at *
    generalize n / P % 256 = c at *
    rw [h2] at h1
    rw [Int.mul_add, ← Int.mul_assoc] at h1
    rw [Int.mul_comm c P]
    omega
  have h4 : (n / P % 256 * P + n % P) % (P * 256) = n / P % 256 * P + n % P := by
    have a := Int.emod_nonneg n (show P ≠ 0 by omega)
    have b := Int.emod_lt_of_pos n hP
    have c : 0 ≤ n / P % 256 := by omega
    have d : n / P % 256 ≤ 255 := by omega
    have e : 0 ≤ n / P % 256 * P := Int.mul_nonneg c (by omega)
    have f : n / P % 256 * P ≤ 255 * P := Int.mul_le_mul_of_nonneg_right d (by omega)
    exact Int.emod_eq_of_lt (by omega) (by omega)
  rw [← h4]
  conv => lhs; rw [h3]
  rw [Int.add_mul_emod_self_left]

theorem pow8_succ (k : Nat) : (2 : Int) ^ (8 * (k + 1)) = 2 ^ (8 * k) * 256 := by rw [show 8 * (k + 1) = 8 * k + 8 by omega, Int.pow_add]; rfl

theorem pow8_pos (k : Nat) : (0 : Int) < 2 ^ (8 * k) := Int.pow_pos (by omega)

theorem pow8_half (k : Nat) : (2 : Int) ^ (8 * (k + 1)) = 2 ^ (8 * (k + 1) - 1) * 2 := by rw [show 8 * (k + 1) = (8 * (k + 1) - 1) + 1 by omega, Int.pow_succ]; rfl

theorem sgnF_bts (n : Int) : ∀ (k : Nat) (s : Int), sgnF s (bts n k) = s * 2 ^ (8 * k) + n % 2 ^ (8 * k)
  | 0, s => by simp [bts, sgnF, Int.emod_one]
  | k + 1, s => by
    have ih := sgnF_bts n k (s * 256 + byt n k)
    have e : sgnF s (bts n (k + 1)) = sgnF (s * 256 + byt n k) (bts n k) := rfl
    rw [e, ih, pow8_succ, emod_step n _ (pow8_pos k)]
    unfold byt
    rw [Int.add_mul, Int.mul_assoc, Int.mul_comm 256]
    omega

/-- k bytes tell n just if it fits. -/
theorem tells_fits {n : Int} {k : Nat} (h : tells n k = true) : -(2 ^ (8 * k - 1)) ≤ n ∧ n < 2 ^ (8 * k - 1) := by
  have hp : (0 : Int) < 2 ^ (8 * k - 1) := Int.pow_pos (by omega)
  have h1 := Int.emod_add_mul_ediv n (2 ^ (8 * k - 1))
  have h2 := Int.emod_nonneg n (show (2 : Int) ^ (8 * k - 1) ≠ 0 by omega)
  have h3 := Int.emod_lt_of_pos n hp
  simp only [tells, Bool.or_eq_true, beq_iff_eq] at h
  rcases h with h | h <;> rw [h] at h1 <;> omega

theorem wdFrom_fits {n : Int} (h64 : -9223372036854775808 ≤ n ∧ n ≤ 9223372036854775807) : ∀ f k, k + f = 8 → -(2 ^ (8 * wdFrom n f k - 1)) ≤ n ∧ n < 2 ^ (8 * wdFrom n f k - 1)
  | 0, k, h => by
    have : k = 8 := by omega
    subst this
    simp only [wdFrom]
    omega
  | f + 1, k, h => by
    unfold wdFrom
    split
    · exact tells_fits ‹_›
    · exact wdFrom_fits h64 f (k + 1) (by omega)

theorem sgn_nb {n : Int} (h64 : -9223372036854775808 ≤ n ∧ n ≤ 9223372036854775807) : sgn (bts n (wd n)) = n := by
  by_cases h0 : n = 0
  · subst h0; rfl
  · have hf := wdFrom_fits h64 7 1 (by omega)
    have hw : wdFrom n 7 1 = wd n := by simp [wd, h0]
    rw [hw] at hf
    have hp := wd_pos h0
    obtain ⟨k, hk⟩ : ∃ k, wd n = k + 1 := ⟨wd n - 1, by omega⟩
    rw [hk] at hf ⊢
    have hhalf := pow8_half k
    have hs0 : sgn0 (bts n (k + 1)) = if n < 0 then -1 else 0 := by
      have e : sgn0 (bts n (k + 1)) = if 128 ≤ byt n k then -1 else 0 := rfl
      rw [e]
      have hb : (128 ≤ byt n k) ↔ n < 0 := by
        have h256 := pow8_succ k
        have hpos := pow8_pos k
        have h1 := Int.emod_add_mul_ediv n (2 ^ (8 * k))
        have h2 := Int.emod_nonneg n (show (2 : Int) ^ (8 * k) ≠ 0 by omega)
        have h3 := Int.emod_lt_of_pos n hpos
        unfold byt
        generalize (2 : Int) ^ (8 * k) = P at *
        generalize (2 : Int) ^ (8 * (k + 1) - 1) = Q at *
        generalize n / P = q at *
        generalize n % P = r at *
        have hQ : Q = P * 128 := by omega
        subst hQ
        have hq1 : -128 ≤ q := by
          rcases Int.lt_or_le q (-128) with h | h
          · have : P * q ≤ P * (-129) := Int.mul_le_mul_of_nonneg_left (by omega) (by omega)
            omega
          · exact h
        have hq2 : q ≤ 127 := by
          rcases Int.lt_or_le 127 q with h | h
          · have : P * 128 ≤ P * q := Int.mul_le_mul_of_nonneg_left (by omega) (by omega)
            omega
          · exact h
        have hneg : n < 0 ↔ q < 0 := by
          constructor
          · intro hn
            rcases Int.lt_or_le q 0 with h | h
            · exact h
            · have : 0 ≤ P * q := Int.mul_nonneg (by omega) h
              omega
          · intro hq
            have : P * q ≤ P * (-1) := Int.mul_le_mul_of_nonneg_left (by omega) (by omega)
            omega
        rw [hneg]
        omega
      by_cases hn : n < 0
      · rw [if_pos hn, if_pos (hb.2 hn)]
      · rw [if_neg hn, if_neg (fun h => hn (hb.1 h))]
    unfold sgn
    rw [sgnF_bts, hs0]
    by_cases hn : n < 0
    · rw [if_pos hn]
      have hm : n % 2 ^ (8 * (k + 1)) = n + 2 ^ (8 * (k + 1)) := by
        rw [← Int.add_emod_right]
        exact Int.emod_eq_of_lt (by omega) (by omega)
      rw [hm]
      omega
    · rw [if_neg hn]
      have hm : n % 2 ^ (8 * (k + 1)) = n := Int.emod_eq_of_lt (by omega) (by omega)
      rw [hm]
      omega

theorem takeN_nb {n : Int} (h64 : -9223372036854775808 ≤ n ∧ n ≤ 9223372036854775807) (z : List Int) : takeN (nb n ++ z) = (n, ((nb n).length : Int), 0) := by
  have hl := bts_length n (wd n)
  have ht : (bts n (wd n) ++ z).take (wd n) = bts n (wd n) := by
    conv => lhs; arg 1; rw [← hl]
    exact List.take_left
  have e : nb n ++ z = (wd n : Int) :: (bts n (wd n) ++ z) := rfl
  rw [e, takeN_ok (wd_le n) (by rw [List.length_append]; omega) (by rw [ht, sgn_nb h64]), ht, sgn_nb h64, nb_length]
  simp; omega

theorem takeN_cut {n : Int} {j : Nat} (hj : j < (nb n).length) (z : List Int) : takeN ((nb n ++ z).take j) = (0, 0, 5) := by
  rw [nb_length] at hj
  cases j with
  | zero => rfl
  | succ j =>
    have e : (nb n ++ z).take (j + 1) = (wd n : Int) :: (bts n (wd n) ++ z).take j := rfl
    have hw := wd_le n
    rw [e]
    exact takeN_short (by omega) (by rw [List.length_take]; omega)

theorem str_sb (s : ByteArray) : strOfNums (sb s) = s := by
  apply ByteArray.ext
  apply Array.ext'
  simp [strOfNums, sb, Function.comp_def]

theorem takeT_tb {s : ByteArray} (hs : s.size ≤ 9223372036854775807) (z : List Int) : takeT (tb s ++ z) = (sb s, ((tb s).length : Int), 0) := by
  have h := takeN_nb (n := s.size) (by omega) (sb s ++ z)
  have hl := sb_length s
  have e : tb s ++ z = nb s.size ++ (sb s ++ z) := by simp [tb]
  rw [e, takeT_ok h.symm (by simp; omega)]
  have e2 : (nb s.size ++ (sb s ++ z)).drop (nb s.size).length = sb s ++ z := List.drop_left
  have e3 : (sb s ++ z).take s.size = sb s := by rw [← hl]; exact List.take_left
  rw [e2, e3]
  simp [tb, hl]

theorem takeT_cut {s : ByteArray} (hs : s.size ≤ 9223372036854775807) {j : Nat} (hj : j < (tb s).length) : takeT ((tb s).take j) = ([], 0, 5) := by
  have hl := sb_length s
  have htl : (tb s).length = (nb s.size).length + s.size := by simp [tb, hl]
  by_cases h : j < (nb s.size).length
  · exact takeT_err (n := 0) (k := 0) (takeN_cut (n := s.size) h (sb s)).symm (by omega)
  · have e : (tb s).take j = nb s.size ++ (sb s).take (j - (nb s.size).length) := by
      unfold tb
      rw [List.take_append, List.take_of_length_le (by omega)]
    have h2 := takeN_nb (n := s.size) (by omega) ((sb s).take (j - (nb s.size).length))
    rw [e]
    exact takeT_short h2.symm (by omega) (by simp; omega)

theorem byt_all {l : List Int} {n : Int} {k : Nat} (h : l = bts n k) : ∀ x ∈ l, 0 ≤ x ∧ x ≤ 255 := by
  subst h
  induction k with
  | zero => simp [bts]
  | succ k ih =>
    intro x hx
    rcases List.mem_cons.1 hx with rfl | hx
    · exact byt_bd n k
    · exact ih x hx

theorem nb_bytes (n : Int) : ∀ x ∈ nb n, 0 ≤ x ∧ x ≤ 255 := by
  intro x hx
  rcases List.mem_cons.1 hx with rfl | hx
  · have := wd_le n; omega
  · exact byt_all rfl x hx

theorem sb_bytes (s : ByteArray) : ∀ x ∈ sb s, 0 ≤ x ∧ x ≤ 255 := by
  intro x hx
  obtain ⟨b, _, rfl⟩ := List.mem_map.1 hx
  have := b.toNat_lt
  omega

theorem tb_bytes (s : ByteArray) : ∀ x ∈ tb s, 0 ≤ x ∧ x ≤ 255 := by
  intro x hx
  rcases List.mem_append.1 hx with h | h
  · exact nb_bytes _ x h
  · exact sb_bytes s x h

end Go.Proofs.Ytdbfblkdjijmmaa
