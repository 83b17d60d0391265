
/- The number that digits spell, as strconv.ParseInt tells it. Math alone. -/
import Derived.Test.YtiddccohldjjcaaDoorGdX
import Derived.Lib.ParseIntBCases
namespace Go.Proofs.YtiddccohldjjcaaDoor
open Go.RowKit Go.Lib
set_option linter.unusedSimpArgs false
set_option linter.unusedVariables false

theorem valB_ge : ∀ (l : List UInt8) (n : Int), 0 ≤ n → l.all dB = true → n ≤ valB n l
  | [], n, _, _ => Int.le_refl _
  | c :: r, n, hn, h => by
    simp only [List.all_cons, Bool.and_eq_true] at h
    have hd : 48 ≤ c.toNat ∧ c.toNat ≤ 57 := of_decide_eq_true h.1
    have := valB_ge r (10 * n + ((c.toNat : Int) - 48)) (by omega) h.2
    show n ≤ valB (10 * n + ((c.toNat : Int) - 48)) r
    omega
theorem parseM : ∀ (l : List UInt8) (acc : Nat), l.all dB = true → valB (acc : Int) l ≤ 1000000000 → parseUintM (2 ^ 64 - 1) acc l = .ok (valB (acc : Int) l).toNat
  | [], acc, _, _ => by
    show NumEnd.ok acc = .ok ((acc : Int)).toNat
    rw [Int.toNat_natCast]
  | c :: r, acc, h, hb => by
    simp only [List.all_cons, Bool.and_eq_true] at h
    have hd : 48 ≤ c.toNat ∧ c.toNat ≤ 57 := of_decide_eq_true h.1
    have e : valB (acc : Int) (c :: r) = valB ((acc * 10 + (c.toNat - 48) : Nat) : Int) r := by
      show valB (10 * (acc : Int) + ((c.toNat : Int) - 48)) r = _
      congr 1
      omega
    rw [e] at hb ⊢
    have hg := valB_ge r ((acc * 10 + (c.toNat - 48) : Nat) : Int) (by omega) h.2
    rw [parseUintM, if_pos hd, if_neg (by omega), if_neg (by omega)]
    exact parseM r _ h.2 hb
theorem parse_num {b : List UInt8} (h : numB b = true) : parseIntB 64 b = .ok (valB 0 b) := by
  obtain ⟨h1, h2, h3⟩ := num_len h
  have hall : b.all dB = true := by
    unfold numB at h
    simp only [Bool.and_eq_true] at h
    simp_all
  cases b with
  | nil => revert h; decide
  | cons c r =>
    have hc := hall
    simp only [List.all_cons, Bool.and_eq_true] at hc
    have hd : 48 ≤ c.toNat ∧ c.toNat ≤ 57 := of_decide_eq_true hc.1
    have hp := parseM (c :: r) 0 hall h3
    rw [parseIntB_plain 64 c r (by omega) (by omega)]
    unfold parseUintB
    rw [if_neg (by simp), hp]
    show signlessC (2 ^ (64 - 1)) (.ok (valB 0 (c :: r)).toNat) = _
    unfold signlessC
    simp only
    rw [if_neg (by omega), Int.toNat_of_nonneg h2]
end Go.Proofs.YtiddccohldjjcaaDoor
