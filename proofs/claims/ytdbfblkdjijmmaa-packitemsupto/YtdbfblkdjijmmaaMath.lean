/- The bytes of a number as the document says them, in plain integers and lists: how few tell it, and which. -/
import Derived.WalkKit
import Derived.WalkLawsBesides
import Derived.Laws.BitsAllLaws
namespace Go.Proofs.Ytdbfblkdjijmmaa

/-- k bytes tell n: all above them is the sign. -/
def tells (n : Int) (k : Nat) : Bool := n / 2 ^ (8 * k - 1) == 0 || n / 2 ^ (8 * k - 1) == -1
def wdFrom (n : Int) : Nat → Nat → Nat
  | 0, k => k
  | f + 1, k => if tells n k then k else wdFrom n f (k + 1)
/-- How many bytes tell n. -/
def wd (n : Int) : Nat := if n = 0 then 0 else wdFrom n 7 1
/-- n's byte with i behind it. -/
def byt (n : Int) (i : Nat) : Int := n / 2 ^ (8 * i) % 256
/-- n's last k bytes, the highest first. -/
def bts (n : Int) : Nat → List Int
  | 0 => []
  | k + 1 => byt n k :: bts n k
/-- A number's bytes. -/
def nb (n : Int) : List Int := (wd n : Int) :: bts n (wd n)

theorem wdFrom_bd (n : Int) : ∀ f k, k ≤ wdFrom n f k ∧ wdFrom n f k ≤ k + f
  | 0, k => by simp [wdFrom]
  | f + 1, k => by
    unfold wdFrom
    split
    · omega
    · have := wdFrom_bd n f (k + 1); omega
theorem wd_zero : wd 0 = 0 := rfl
theorem wd_start {n : Int} (h : n ≠ 0) : wdFrom n (8 - 1) 1 = wd n := by simp [wd, h]
theorem wd_le (n : Int) : wd n ≤ 8 := by
  unfold wd; split
  · omega
  · have := wdFrom_bd n 7 1; omega
theorem wd_pos {n : Int} (h : n ≠ 0) : 1 ≤ wd n := by
  have := wdFrom_bd n 7 1
  simp [wd, h]; omega
theorem wd_next {n : Int} {k : Nat} (hk : k < 8) (h : wdFrom n (8 - k) k = wd n) (ht : tells n k = false) : wdFrom n (8 - (k + 1)) (k + 1) = wd n := by
  obtain ⟨f, hf⟩ : ∃ f, 8 - k = f + 1 := ⟨8 - k - 1, by omega⟩
  rw [hf] at h
  rw [show 8 - (k + 1) = f from by omega, ← h]
  simp [wdFrom, ht]
theorem wd_stop {n : Int} {k : Nat} (h : wdFrom n (8 - k) k = wd n) (ht : tells n k = true) : k = wd n := by
  rw [← h]
  cases 8 - k <;> simp [wdFrom, ht]
theorem wd_last {n : Int} {k : Nat} (h : wdFrom n (8 - k) k = wd n) (hk : 8 ≤ k) : k = wd n := by
  rw [← h, show 8 - k = 0 from by omega]; rfl

theorem bts_length (n : Int) : ∀ k, (bts n k).length = k
  | 0 => rfl
  | k + 1 => by simp [bts, bts_length n k]
theorem nb_length (n : Int) : (nb n).length = wd n + 1 := by simp [nb, bts_length]
theorem nb_le (n : Int) : (nb n).length ≤ 9 := by have := wd_le n; rw [nb_length]; omega
theorem byt_bd (n : Int) (i : Nat) : 0 ≤ byt n i ∧ byt n i ≤ 255 := by unfold byt; omega


/-- An or of a number whose last eight bits are empty and of a byte is their sum. -/
theorem or_low (m c : Int) (h0 : 0 ≤ c) (h1 : c < 256) : bits .or .i64 (m * 256) c = IntKind.i64.wrap (m * 256 + c) := by
  have key : (BitVec.ofInt 64 (m * 256) ||| BitVec.ofInt 64 c).toNat = ((m * 256) % ((2 ^ 64 : Nat) : Int)).toNat + c.toNat := by
    rw [BitVec.toNat_or, BitVec.toNat_ofInt, BitVec.toNat_ofInt]
    have e : (c % ((2 ^ 64 : Nat) : Int)).toNat = c.toNat := by omega
    rw [e]
    exact nat_join 8 _ _ (by omega) (by omega)
  show IntKind.i64.wrap ((BitVec.ofInt 64 (m * 256) ||| BitVec.ofInt 64 c).toNat : Nat) = _
  rw [key, IntKind.wrap_i64, IntKind.wrap_i64]
  omega

/-- The sign that the first byte tells. -/
def sgn0 : List Int → Int
  | [] => 0
  | c :: _ => if 128 ≤ c then -1 else 0
def sgnF (n : Int) (ds : List Int) : Int := ds.foldl (fun n c => n * 256 + c) n
/-- The number of bytes in two's complement. -/
def sgn (ds : List Int) : Int := sgnF (sgn0 ds) ds

theorem sgnF_snoc (n : Int) (ds : List Int) (c : Int) : sgnF n (ds ++ [c]) = sgnF n ds * 256 + c := by simp [sgnF]
theorem take_snoc {α : Type} (l : List α) (k : Nat) (h : k < l.length) : l.take (k + 1) = l.take k ++ [l[k]] := List.take_succ_eq_append_getElem h

theorem sgn_bd (ds : List Int) (hb : ∀ x ∈ ds, 0 ≤ x ∧ x ≤ 255) : ∀ k, k + 1 ≤ ds.length → -(2 ^ (8 * k + 7)) ≤ sgnF (sgn0 ds) (ds.take (k + 1)) ∧ sgnF (sgn0 ds) (ds.take (k + 1)) < 2 ^ (8 * k + 7)
  | 0, h => by
    cases ds with
    | nil => simp at h
    | cons c r =>
      have := hb c (by simp)
      simp only [sgnF, sgn0, List.take_succ_cons, List.take_zero, List.foldl_cons, List.foldl_nil]
      by_cases h128 : 128 ≤ c
      · rw [if_pos h128]; omega
      · rw [if_neg h128]; omega
  | k + 1, h => by
    have ih := sgn_bd ds hb k (by omega)
    have hc := hb (ds[k + 1]) (List.getElem_mem _)
    rw [take_snoc ds (k + 1) (by omega), sgnF_snoc]
    have e : (2 : Int) ^ (8 * (k + 1) + 7) = 2 ^ (8 * k + 7) * 256 := by rw [show 8 * (k + 1) + 7 = (8 * k + 7) + 8 by omega, Int.pow_add]; rfl
    omega

theorem getD_get (l : List Int) (k : Nat) (h : k < l.length) : l.getD k 0 = l[k] := by simp [List.getD, h]
theorem pow_small {k : Nat} (h : k < 8) : (2 : Int) ^ (8 * k + 7) ≤ 9223372036854775808 := by
  have h1 : (2 : Nat) ^ (8 * k + 7) ≤ 9223372036854775808 := Nat.le_trans (Nat.pow_le_pow_right (n := 2) (by omega) (show 8 * k + 7 ≤ 63 by omega)) (by decide)
  have h2 : (((2 : Nat) ^ (8 * k + 7) : Nat) : Int) = (2 : Int) ^ (8 * k + 7) := Int.natCast_pow 2 _
  rw [← h2]
  exact Int.ofNat_le.2 h1
theorem sgn_small (ds : List Int) (hb : ∀ x ∈ ds, 0 ≤ x ∧ x ≤ 255) (k : Nat) (h : k < ds.length) (h8 : ds.length ≤ 8) :
    -9223372036854775808 ≤ sgnF (sgn0 ds) (ds.take (k + 1)) ∧ sgnF (sgn0 ds) (ds.take (k + 1)) ≤ 9223372036854775807 := by
  have h1 := sgn_bd ds hb k h
  have h2 := pow_small (show k < 8 by omega)
  omega

theorem byt_low (n c : Int) (h0 : 0 ≤ c) (h1 : c ≤ 255) : byt (n * 256 + c) 0 = c := by simp [byt]; omega
theorem byt_up (n c : Int) (h0 : 0 ≤ c) (h1 : c ≤ 255) (i : Nat) : byt (n * 256 + c) (i + 1) = byt n i := by
  unfold byt
  have e : (2 : Int) ^ (8 * (i + 1)) = 256 * 2 ^ (8 * i) := by rw [show 8 * (i + 1) = 8 + 8 * i by omega, Int.pow_add]; rfl
  rw [e, ← Int.ediv_ediv_of_nonneg (by omega)]
  congr 2
  omega
theorem bts_snoc (n c : Int) (h0 : 0 ≤ c) (h1 : c ≤ 255) : ∀ k, bts (n * 256 + c) (k + 1) = bts n k ++ [c]
  | 0 => by simp [bts, byt_low n c h0 h1]
  | k + 1 => by
    rw [bts, byt_up n c h0 h1, bts_snoc n c h0 h1 k]
    rfl
theorem bts_sgn (n : Int) (ds : List Int) (hb : ∀ x ∈ ds, 0 ≤ x ∧ x ≤ 255) : ∀ k, k ≤ ds.length → bts (sgnF n (ds.take k)) k = ds.take k
  | 0, _ => by simp [bts]
  | k + 1, h => by
    have hc := hb (ds[k]) (List.getElem_mem _)
    rw [take_snoc ds k (by omega), sgnF_snoc, bts_snoc _ _ hc.1 hc.2, bts_sgn n ds hb k (by omega)]

/-- What TakeNumber answers: the number, how many bytes it has, the error. -/
def takeN : List Int → Int × Int × Int
  | [] => (0, 0, 5)
  | c :: r => if 8 < c then (0, 0, 2) else if (r.length : Int) < c then (0, 0, 5) else if (wd (sgn (r.take c.toNat)) : Int) = c then (sgn (r.take c.toNat), 1 + c, 0) else (0, 0, 2)

end Go.Proofs.Ytdbfblkdjijmmaa
