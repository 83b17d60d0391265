/- The bytes of a number as the document says them, in plain integers and lists: how few tell it, and which. -/
import Derived.WalkKit
namespace Go.Proofs.Ytdbfblkdjijmmaa

/-- k bytes tell n: all above them is the sign. -/
def tells (n : Int) (k : Nat) : Bool := n / 2 ^ (8 * k - 1) == 0 || n / 2 ^ (8 * k - 1) == -1
def wdFrom (n : Int) : Nat → Nat → Nat
  | 0, k => k
  | f + 1, k => if tells n k then k else wdFrom n f (k + 1)
/-- How many bytes tell n. -/
def wd (n : Int) : Nat := if n = 0 then 0 else wdFrom n 7 1
/-- n's byte with i behind it. -/
def byt (n : Int) (i : Nat) : Int := n / 2 ^ (8 * i) % 256
/-- n's last k bytes, the highest first. -/
def bts (n : Int) : Nat → List Int
  | 0 => []
  | k + 1 => byt n k :: bts n k
/-- A number's bytes. -/
def nb (n : Int) : List Int := (wd n : Int) :: bts n (wd n)

theorem wdFrom_bd (n : Int) : ∀ f k, k ≤ wdFrom n f k ∧ wdFrom n f k ≤ k + f
  | 0, k => by simp [wdFrom]
  | f + 1, k => by
    unfold wdFrom
    split
    · omega
    · have := wdFrom_bd n f (k + 1); omega
theorem wd_zero : wd 0 = 0 := rfl
theorem wd_start {n : Int} (h : n ≠ 0) : wdFrom n (8 - 1) 1 = wd n := by simp [wd, h]
theorem wd_le (n : Int) : wd n ≤ 8 := by
  unfold wd; split
  · omega
  · have := wdFrom_bd n 7 1; omega
theorem wd_pos {n : Int} (h : n ≠ 0) : 1 ≤ wd n := by
  have := wdFrom_bd n 7 1
  simp [wd, h]; omega
theorem wd_next {n : Int} {k : Nat} (hk : k < 8) (h : wdFrom n (8 - k) k = wd n) (ht : tells n k = false) : wdFrom n (8 - (k + 1)) (k + 1) = wd n := by
  obtain ⟨f, hf⟩ : ∃ f, 8 - k = f + 1 := ⟨8 - k - 1, by omega⟩
  rw [hf] at h
  rw [show 8 - (k + 1) = f from by omega, ← h]
  simp [wdFrom, ht]
theorem wd_stop {n : Int} {k : Nat} (h : wdFrom n (8 - k) k = wd n) (ht : tells n k = true) : k = wd n := by
  rw [← h]
  cases 8 - k <;> simp [wdFrom, ht]
theorem wd_last {n : Int} {k : Nat} (h : wdFrom n (8 - k) k = wd n) (hk : 8 ≤ k) : k = wd n := by
  rw [← h, show 8 - k = 0 from by omega]; rfl

theorem bts_length (n : Int) : ∀ k, (bts n k).length = k
  | 0 => rfl
  | k + 1 => by simp [bts, bts_length n k]
theorem nb_length (n : Int) : (nb n).length = wd n + 1 := by simp [nb, bts_length]
theorem nb_le (n : Int) : (nb n).length ≤ 9 := by have := wd_le n; rw [nb_length]; omega
theorem byt_bd (n : Int) (i : Nat) : 0 ≤ byt n i ∧ byt n i ≤ 255 := by unfold byt; omega

end Go.Proofs.Ytdbfblkdjijmmaa
