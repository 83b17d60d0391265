
/- Numbers' digits. Math alone. -/
import Derived.Test.YtdekboacjjpjeaaGdW
import Derived.Lib.ItoaNum
namespace Go.Proofs.Ytdekboacjjpjeaa
open Go.RowKit Go.Lib
set_option linter.unusedSimpArgs false
set_option linter.unusedVariables false

theorem valB_app : ∀ (a b : List UInt8) (n : Int), valB n (a ++ b) = valB (valB n a) b
  | [], b, n => rfl
  | c :: a, b, n => valB_app a b _
theorem dd_small {u : Nat} (h : u < 10) : decDigits u = [UInt8.ofNat (48 + u)] := by
  rw [decDigits]
  simp [h]
theorem dd_more {u : Nat} (h : ¬ u < 10) : decDigits u = decDigits (u / 10) ++ [UInt8.ofNat (48 + u % 10)] := by
  rw [decDigits]
  simp [h]
theorem dg_nat {u : Nat} (h : u < 10) : (UInt8.ofNat (48 + u)).toNat = 48 + u := by
  rw [UInt8.toNat_ofNat']
  omega
theorem dd_val : ∀ (n u : Nat), u ≤ n → valB 0 (decDigits u) = (u : Int)
  | n, u, h => by
    by_cases hu : u < 10
    · rw [dd_small hu]
      show 10 * 0 + (((UInt8.ofNat (48 + u)).toNat : Int) - 48) = (u : Int)
      rw [dg_nat hu]; omega
    · match n with
      | 0 => omega
      | n + 1 =>
        have ih := dd_val n (u / 10) (by omega)
        rw [dd_more hu, valB_app, ih]
        show 10 * ((u / 10 : Nat) : Int) + (((UInt8.ofNat (48 + u % 10)).toNat : Int) - 48) = (u : Int)
        rw [dg_nat (Nat.mod_lt u (by decide))]
        omega
theorem dd_all : ∀ (n u : Nat), u ≤ n → (decDigits u).all dB = true
  | n, u, h => by
    have h1 : ∀ v, v < 10 → dB (UInt8.ofNat (48 + v)) = true := fun v hv => by
      unfold dB; rw [dg_nat hv, decide_eq_true_eq]; omega
    by_cases hu : u < 10
    · rw [dd_small hu]
      show (dB (UInt8.ofNat (48 + u)) && true) = true
      rw [h1 u hu]; rfl
    · match n with
      | 0 => omega
      | n + 1 =>
        rw [dd_more hu, List.all_append, dd_all n (u / 10) (by omega)]
        show (true && (dB (UInt8.ofNat (48 + u % 10)) && true)) = true
        rw [h1 (u % 10) (Nat.mod_lt u (by decide))]; rfl
theorem dd_head : ∀ (n u : Nat), u ≤ n → 1 ≤ u → ((decDigits u).headD 0).toNat ≠ 48
  | n, u, h, h1 => by
    by_cases hu : u < 10
    · rw [dd_small hu]
      show (UInt8.ofNat (48 + u)).toNat ≠ 48
      rw [dg_nat hu]; omega
    · match n with
      | 0 => omega
      | n + 1 =>
        have ih := dd_head n (u / 10) (by omega) (by omega)
        rw [dd_more hu]
        cases hq : decDigits (u / 10) with
        | nil =>
          have := decDigits_length (u / 10)
          have h2 := nDigits_pos (u / 10)
          rw [hq] at this
          simp at this
          omega
        | cons c r => rw [hq] at ih; exact ih
theorem nd_le : ∀ (k u : Nat), 1 ≤ k → u < 10 ^ k → nDigits u ≤ k
  | 0, _, h, _ => by omega
  | 1, u, _, h => by rw [nDigits_small (by simpa using h)]; exact Nat.le_refl _
  | k + 2, u, _, h => by
    by_cases hu : u < 10
    · rw [nDigits_small hu]; omega
    · rw [nDigits_big hu]
      have : u / 10 < 10 ^ (k + 1) := by rw [Nat.pow_succ] at h; omega
      have := nd_le (k + 1) (u / 10) (by omega) this
      omega
/-- The digits of a number in range are a number's. -/
theorem dd_num {u : Nat} (h : u ≤ 1000000000) : numB (decDigits u) = true := by
  have hl := decDigits_length u
  have h1 := nDigits_pos u
  have h2 := nd_le 10 u (by decide) (by omega)
  unfold numB
  rw [dd_all u u (Nat.le_refl _), dd_val u u (Nat.le_refl _), decide_eq_true (by omega : 1 ≤ (decDigits u).length ∧ (decDigits u).length ≤ 10), decide_eq_true (by omega : (u : Int) ≤ 1000000000)]
  by_cases hu : u < 10
  · rw [dd_small hu]; simp
  · rw [decide_eq_false (dd_head u u (Nat.le_refl _) (by omega))]; rfl
end Go.Proofs.Ytdekboacjjpjeaa
