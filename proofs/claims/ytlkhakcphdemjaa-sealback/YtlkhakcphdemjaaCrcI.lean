/- Sums are of 16 bits, and a byte that is another makes another sum. -/
import Derived.Test.YtlkhakcphdemjaaCrcM
namespace Go.Proofs.Ytlkhakcphdemjaa
open Go.RowKit
set_option linter.unusedSimpArgs false
set_option linter.unusedVariables false

def In16 (s : Int) : Prop := 0 ≤ s ∧ s < 65536

def fN (s : Nat) : Nat := if 32768 ≤ s then (2 * s - 65536) ^^^ 4129 else 2 * s

theorem xor_cancel {a b c : Nat} (h : a ^^^ c = b ^^^ c) : a = b := by
  have := congrArg (· ^^^ c) h
  simpa [Nat.xor_assoc] using this

theorem and_top (s : Nat) (h : s < 65536) : s &&& 32768 = if 32768 ≤ s then 32768 else 0 := by
  apply Nat.eq_of_testBit_eq
  intro i
  rw [Nat.testBit_and, show (32768 : Nat) = 2 ^ 15 by decide]
  by_cases hi : i = 15
  · subst hi
    rw [Nat.testBit_eq_decide_div_mod_eq]
    by_cases hs : 2 ^ 15 ≤ s
    · rw [if_pos hs]
      have : s / 2 ^ 15 % 2 = 1 := by omega
      rw [this]; simp
    · rw [if_neg hs]
      have : s / 2 ^ 15 % 2 = 0 := by omega
      rw [this]; simp
  · have e : Nat.testBit (2 ^ 15) i = false := by rw [Nat.testBit_two_pow]; simp; omega
    rw [e]
    by_cases hs : 2 ^ 15 ≤ s
    · rw [if_pos hs, e]; simp
    · rw [if_neg hs]; simp

theorem stp_nat (s : Nat) (h : s < 65536) : stp (s : Int) = (fN s : Nat) := by
  have ha : bits .and .u16 (s : Int) 32768 = ((s &&& 32768 : Nat) : Int) := u16_and_nat s 32768 h (by decide)
  have hw : IntKind.u16.wrap ((s : Int) * 2) = ((2 * s % 65536 : Nat) : Int) := by rw [IntKind.wrap_u16]; omega
  rw [and_top s h] at ha
  unfold fN
  by_cases ht : 32768 ≤ s
  · rw [if_pos ht] at ha ⊢
    rw [stp_yes (by rw [ha]; rfl), hw]
    have e : 2 * s % 65536 = 2 * s - 65536 := by omega
    rw [e]
    exact u16_xor_nat (2 * s - 65536) 4129 (by omega) (by decide)
  · rw [if_neg ht] at ha ⊢
    rw [stp_no (by rw [ha]; rfl), hw]
    congr 1
    omega

theorem fN_lt {s : Nat} (h : s < 65536) : fN s < 65536 := by
  unfold fN
  split
  · exact Nat.xor_lt_two_pow (n := 16) (by omega) (by decide)
  · omega

theorem odd_xor (a : Nat) (h : a % 2 = 0) : (a ^^^ 4129) % 2 = 1 := by
  have h0 : a.testBit 0 = false := by rw [Nat.testBit_zero]; simp; omega
  have h1 : Nat.testBit 4129 0 = true := by decide
  have t : (a ^^^ 4129).testBit 0 = true := by rw [Nat.testBit_xor, h0, h1]; rfl
  rw [Nat.testBit_zero] at t
  exact of_decide_eq_true t

theorem fN_inj {s t : Nat} (hs : s < 65536) (ht : t < 65536) (h : fN s = fN t) : s = t := by
  unfold fN at h
  by_cases h1 : 32768 ≤ s <;> by_cases h2 : 32768 ≤ t
  · rw [if_pos h1, if_pos h2] at h
    have := xor_cancel h
    omega
  · rw [if_pos h1, if_neg h2] at h
    have := odd_xor (2 * s - 65536) (by omega)
    omega
  · rw [if_neg h1, if_pos h2] at h
    have := odd_xor (2 * t - 65536) (by omega)
    omega
  · rw [if_neg h1, if_neg h2] at h
    omega

theorem nat_of {s : Int} (h : In16 s) : ∃ n : Nat, s = n ∧ n < 65536 := ⟨s.toNat, by have := h.1; omega, by have := h.2; have := h.1; omega⟩
theorem in_of {n : Nat} (h : n < 65536) : In16 (n : Int) := ⟨by omega, by omega⟩

theorem stp_in {s : Int} (h : In16 s) : In16 (stp s) := by
  obtain ⟨n, rfl, hn⟩ := nat_of h
  rw [stp_nat n hn]
  exact in_of (fN_lt hn)
theorem stp_inj {s t : Int} (hs : In16 s) (ht : In16 t) (h : stp s = stp t) : s = t := by
  obtain ⟨m, rfl, hm⟩ := nat_of hs
  obtain ⟨n, rfl, hn⟩ := nat_of ht
  rw [stp_nat m hm, stp_nat n hn] at h
  have := fN_inj hm hn (by omega)
  rw [this]
theorem stps_in : ∀ (k : Nat) {s : Int}, In16 s → In16 (stps k s)
  | 0, _, h => h
  | k + 1, _, h => stps_in k (stp_in h)
theorem stps_inj : ∀ (k : Nat) {s t : Int}, In16 s → In16 t → stps k s = stps k t → s = t
  | 0, _, _, _, _, h => h
  | k + 1, _, _, hs, ht, h => stp_inj hs ht (stps_inj k (stp_in hs) (stp_in ht) h)

/-- What a byte is xored into. -/
theorem mix_nat (s c : Nat) (hs : s < 65536) (hc : c < 256) : bits .xor .u16 (s : Int) (IntKind.u16.wrap (IntKind.u16.wrap (c : Int) * 256)) = ((s ^^^ c * 256 : Nat) : Int) := by
  have e : IntKind.u16.wrap (IntKind.u16.wrap (c : Int) * 256) = ((c * 256 : Nat) : Int) := by rw [IntKind.wrap_u16, IntKind.wrap_u16]; omega
  rw [e]
  exact u16_xor_nat s (c * 256) hs (by omega)
theorem smd_nat (s c : Nat) (hs : s < 65536) (hc : c < 256) : smd (s : Int) (c : Int) = stps 8 ((s ^^^ c * 256 : Nat) : Int) := by
  rw [← smd_start, mix_nat s c hs hc]
theorem mix_lt {s c : Nat} (hs : s < 65536) (hc : c < 256) : s ^^^ c * 256 < 65536 := Nat.xor_lt_two_pow (n := 16) hs (by omega)

theorem byte_nat {c : Int} (h : 0 ≤ c ∧ c ≤ 255) : ∃ n : Nat, c = n ∧ n < 256 := ⟨c.toNat, by omega, by omega⟩
theorem smd_in {s c : Int} (hs : In16 s) (hc : 0 ≤ c ∧ c ≤ 255) : In16 (smd s c) := by
  obtain ⟨m, rfl, hm⟩ := nat_of hs
  obtain ⟨n, rfl, hn⟩ := byte_nat hc
  rw [smd_nat m n hm hn]
  exact stps_in 8 (in_of (mix_lt hm hn))
theorem smd_inj {s t c : Int} (hs : In16 s) (ht : In16 t) (hc : 0 ≤ c ∧ c ≤ 255) (h : smd s c = smd t c) : s = t := by
  obtain ⟨m, rfl, hm⟩ := nat_of hs
  obtain ⟨k, rfl, hk⟩ := nat_of ht
  obtain ⟨n, rfl, hn⟩ := byte_nat hc
  rw [smd_nat m n hm hn, smd_nat k n hk hn] at h
  have := stps_inj 8 (in_of (mix_lt hm hn)) (in_of (mix_lt hk hn)) h
  have := xor_cancel (a := m) (b := k) (c := n * 256) (by omega)
  rw [this]
theorem smd_other {s c d : Int} (hs : In16 s) (hc : 0 ≤ c ∧ c ≤ 255) (hd : 0 ≤ d ∧ d ≤ 255) (h : smd s c = smd s d) : c = d := by
  obtain ⟨m, rfl, hm⟩ := nat_of hs
  obtain ⟨k, rfl, hk⟩ := byte_nat hc
  obtain ⟨n, rfl, hn⟩ := byte_nat hd
  rw [smd_nat m k hm hk, smd_nat m n hm hn] at h
  have h1 := stps_inj 8 (in_of (mix_lt hm hk)) (in_of (mix_lt hm hn)) h
  have h2 : m ^^^ k * 256 = m ^^^ n * 256 := by omega
  rw [Nat.xor_comm m, Nat.xor_comm m] at h2
  have := xor_cancel h2
  have : k = n := by omega
  rw [this]

theorem smF_in : ∀ (xs : List Int) {s : Int}, In16 s → (∀ x ∈ xs, 0 ≤ x ∧ x ≤ 255) → In16 (smF s xs)
  | [], _, h, _ => h
  | c :: r, _, h, hy => smF_in r (smd_in h (hy c (by simp))) (fun x hx => hy x (by simp [hx]))
theorem smF_inj : ∀ (xs : List Int) {s t : Int}, In16 s → In16 t → (∀ x ∈ xs, 0 ≤ x ∧ x ≤ 255) → smF s xs = smF t xs → s = t
  | [], _, _, _, _, _, h => h
  | c :: r, _, _, hs, ht, hy, h => by
    have hc := hy c (by simp)
    exact smd_inj hs ht hc (smF_inj r (smd_in hs hc) (smd_in ht hc) (fun x hx => hy x (by simp [hx])) h)
theorem smF_other {a b : List Int} {c d s : Int} (hs : In16 s) (ha : ∀ x ∈ a, 0 ≤ x ∧ x ≤ 255) (hb : ∀ x ∈ b, 0 ≤ x ∧ x ≤ 255) (hc : 0 ≤ c ∧ c ≤ 255) (hd : 0 ≤ d ∧ d ≤ 255) (h : smF s (a ++ c :: b) = smF s (a ++ d :: b)) : c = d := by
  have h1 := smF_in a hs ha
  have e : ∀ x, smF s (a ++ x :: b) = smF (smd (smF s a) x) b := fun x => by simp [smF]
  rw [e, e] at h
  exact smd_other h1 hc hd (smF_inj b (smd_in h1 hc) (smd_in h1 hd) hb h)
theorem sm_in {xs : List Int} (hy : ∀ x ∈ xs, 0 ≤ x ∧ x ≤ 255) : In16 (sm xs) := smF_in xs ⟨by decide, by decide⟩ hy
/-- A sum with one byte another is another. -/
theorem sm_other {a b : List Int} {c d : Int} (ha : ∀ x ∈ a, 0 ≤ x ∧ x ≤ 255) (hb : ∀ x ∈ b, 0 ≤ x ∧ x ≤ 255) (hc : 0 ≤ c ∧ c ≤ 255) (hd : 0 ≤ d ∧ d ≤ 255) (h : sm (a ++ c :: b) = sm (a ++ d :: b)) : c = d :=
  smF_other ⟨by decide, by decide⟩ ha hb hc hd h

end Go.Proofs.Ytlkhakcphdemjaa
