
/- Nodes, by parents: what is met on the way up. Math alone. -/
import Derived.Test.YtdekboacjjpjeaaTrM
namespace Go.Proofs.Ytdekboacjjpjeaa
set_option linter.unusedVariables false

/-- Parents lie ahead. -/
def Ahd (n : Nat) (P : Nat → Int) : Prop := ∀ m < n, -1 ≤ P m ∧ P m < m
theorem okR_more {n : Nat} {P : Nat → Int} (hP : Ahd n P) (p : Int) : ∀ (f : Nat) (c : Int), -1 ≤ c → c < f → c < n → okR P p f c = okR P p (c + 1).toNat c
  | 0, c, h1, h2, h3 => by
    have : c = -1 := by omega
    subst this; rfl
  | f + 1, c, h1, h2, h3 => by
    by_cases h0 : c < 0
    · have : c = -1 := by omega
      subst this
      unfold okR; rw [if_pos (by omega)]; rfl
    have e : (c + 1).toNat = c.toNat + 1 := by omega
    rw [e]
    unfold okR
    rw [if_neg h0, if_neg h0]
    have hl := hP c.toNat (by omega)
    rw [okR_more hP p f (P c.toNat) (by omega) (by omega) (by omega), okR_more hP p c.toNat (P c.toNat) (by omega) (by omega) (by omega)]
theorem okR_step {n : Nat} {P : Nat → Int} (hP : Ahd n P) (p : Int) {k : Nat} (hk : k < n) : okR P p ((k : Int) + 1).toNat k = (decide (p = k) || okR P p (P k + 1).toNat (P k)) := by
  have e : ((k : Int) + 1).toNat = k + 1 := by omega
  have hl := hP k hk
  rw [e, okR, if_neg (by omega), Int.toNat_natCast, okR_more hP p k (P k) (by omega) (by omega) (by omega)]
  by_cases h : p = (k : Int)
  · rw [if_pos h, decide_eq_true h, Bool.true_or]
  · rw [if_neg h, decide_eq_false h, Bool.false_or]
theorem okR_le {n : Nat} {P : Nat → Int} (hP : Ahd n P) (p : Int) : ∀ (f : Nat) (c : Int), c < n → okR P p f c = true → 0 ≤ p ∧ p ≤ c
  | 0, c, h3, h => by simp [okR] at h
  | f + 1, c, h3, h => by
    unfold okR at h
    by_cases h0 : c < 0
    · rw [if_pos h0] at h; simp at h
    rw [if_neg h0] at h
    by_cases hp : p = c
    · omega
    · rw [if_neg hp] at h
      have hl := hP c.toNat (by omega)
      have := okR_le hP p f (P c.toNat) (by omega) h
      omega
theorem dpR_more {n : Nat} {P : Nat → Int} (hP : Ahd n P) : ∀ (f : Nat) (c : Int), -1 ≤ c → c < f → c < n → dpR P f c = dpR P (c + 1).toNat c
  | 0, c, h1, h2, h3 => by
    have : c = -1 := by omega
    subst this; rfl
  | f + 1, c, h1, h2, h3 => by
    by_cases h0 : c < 0
    · have : c = -1 := by omega
      subst this
      unfold dpR; rw [if_pos (by omega)]; rfl
    have e : (c + 1).toNat = c.toNat + 1 := by omega
    rw [e]
    unfold dpR
    rw [if_neg h0, if_neg h0]
    have hl := hP c.toNat (by omega)
    rw [dpR_more hP f (P c.toNat) (by omega) (by omega) (by omega), dpR_more hP c.toNat (P c.toNat) (by omega) (by omega) (by omega)]
theorem dpR_step {n : Nat} {P : Nat → Int} (hP : Ahd n P) {k : Nat} (hk : k < n) : dpR P ((k : Int) + 1).toNat k = 1 + dpR P (P k + 1).toNat (P k) := by
  have e : ((k : Int) + 1).toNat = k + 1 := by omega
  have hl := hP k hk
  rw [e, dpR, if_neg (by omega), Int.toNat_natCast, dpR_more hP k (P k) (by omega) (by omega) (by omega)]
theorem dpR_le {n : Nat} {P : Nat → Int} : ∀ (f : Nat) (c : Int), dpR P f c ≤ f
  | 0, c => by simp [dpR]
  | f + 1, c => by
    unfold dpR
    split
    · omega
    · have := dpR_le (n := n) (P := P) f (P c.toNat); omega
theorem bhR_le (P : Nat → Int) (i : Int) : ∀ f b : Nat, b ≤ bhR P i f b ∧ bhR P i f b ≤ b + f
  | 0, b => by unfold bhR; omega
  | f + 1, b => by
    have := bhR_le P i f (b + 1)
    unfold bhR
    split <;> omega
/-- One node, by its parents. -/
def FR (n : Nat) (D P B : Nat → Int) (L : Nat → Bool) (i : Nat) : Prop := (P i = -1 ∨ okR P (P i) i ((i : Int) - 1) = true) ∧ D i = (dpR P i (P i) : Nat) ∧ B i = (bhR P i (n - (i + 1)) (i + 1) : Nat) ∧ L i = decide (B i = (i : Int) + 1)
theorem fr_ahd {n : Nat} {P : Nat → Int} {i : Nat} (hA : Ahd i P) (h : P i = -1 ∨ okR P (P i) i ((i : Int) - 1) = true) : Ahd (i + 1) P := by
  intro m hm
  rcases Nat.lt_or_ge m i with h2 | h2
  · exact hA m h2
  · have : m = i := by omega
    subst this
    rcases h with h | h
    · omega
    · have := okR_le hA (P m) m ((m : Int) - 1) (by omega) h
      omega
end Go.Proofs.Ytdekboacjjpjeaa
