/- The sum of bytes, as numbers. -/
import Derived.WalkKit
import Derived.WalkLawsBesides
import Derived.Laws.BitsAllLaws
namespace Go.Proofs.Ytlkhakcphdemjaa
open Go.RowKit
set_option linter.unusedSimpArgs false
set_option linter.unusedVariables false

/-- One bit of a sum's step. -/
def stp (s : Int) : Int := if (bits .and .u16 s 32768 != 0) = true then bits .xor .u16 (IntKind.u16.wrap (s * 2)) 4129 else IntKind.u16.wrap (s * 2)
def stps : Nat → Int → Int
  | 0, s => s
  | k + 1, s => stps k (stp s)
/-- A byte more. -/
def smd (s c : Int) : Int := stps 8 (bits .xor .u16 s (IntKind.u16.wrap (IntKind.u16.wrap c * 256)))
/-- The sum of all bytes behind s. -/
def smF (s : Int) (xs : List Int) : Int := xs.foldl smd s
def sm (xs : List Int) : Int := smF 65535 xs

theorem smd_start (s c : Int) : stps (8 - 0) (bits .xor .u16 s (IntKind.u16.wrap (IntKind.u16.wrap c * 256))) = smd s c := by unfold smd; rfl
theorem stp_yes {s : Int} (h : (bits .and .u16 s 32768 != 0) = true) : stp s = bits .xor .u16 (IntKind.u16.wrap (s * 2)) 4129 := by unfold stp; rw [if_pos h]
theorem stp_no {s : Int} (h : (bits .and .u16 s 32768 != 0) = false) : stp s = IntKind.u16.wrap (s * 2) := by unfold stp; rw [h]; rfl
theorem stps_next {k : Nat} {s g : Int} (h : stps (8 - k) s = g) (hk : k < 8) : stps (8 - (k + 1)) (stp s) = g := by
  rw [← h, show 8 - k = (8 - (k + 1)) + 1 by omega]; rfl
theorem stps_last {k : Nat} {s g : Int} (h : stps (8 - k) s = g) (hk : 8 ≤ k) : s = g := by
  rw [← h, show 8 - k = 0 by omega]; rfl

theorem smF_next {xs : List Int} {k : Nat} {s g c : Int} (h : smF s (xs.drop k) = g) (hk : k < xs.length) (hc : xs.getD k 0 = c) : smF (smd s c) (xs.drop (k + 1)) = g := by
  have e : xs.getD k 0 = xs[k] := by simp [List.getD, hk]
  rw [← h, ← hc, e, List.drop_eq_getElem_cons (i := k) hk]
  rfl
theorem smF_last {xs : List Int} {k : Nat} {s g : Int} (h : smF s (xs.drop k) = g) (hk : xs.length ≤ k) : s = g := by
  rw [← h, List.drop_eq_nil_of_le hk]; rfl
end Go.Proofs.Ytlkhakcphdemjaa
