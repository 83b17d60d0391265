
/- Variables in memory; what an expression's value is. -/
import Derived.Test.YtiddccohldjjcaaGreatDoorExS
import Derived.Test.YtiddccohldjjcaaGreatDoorExR
namespace Go.Proofs.YtiddccohldjjcaaGreatDoor
open Go.RowKit Go.Lib
set_option linter.unusedSimpArgs false
set_option linter.unusedVariables false

abbrev Vr := ByteArray × Int
/-- The slice v reads as the variables vs. -/
def RdV (w : World) (v : Value) (vs : List Vr) : Prop :=
  ∃ a cap, v = .slice a vs.length cap ∧ vs.length ≤ cap ∧ cap ≤ maxLen ∧ (a = none → vs = []) ∧
    ∀ x, a = some x → ∀ (i : Nat) (h : i < vs.length), w.cell? (x.add (i * 2)) = some (.string (vs[i]).1) ∧ w.cell? (x.add (i * 2 + 1)) = some (.int .i64 (vs[i]).2)
theorem RdV.below {w w' : World} {v : Value} {vs : List Vr} {B : Nat} (h : RdV w v vs) (hb : Below B w w') (hB : w.heap.size ≤ B) : RdV w' v vs := by
  obtain ⟨a, cap, rfl, hc, hm, hn, hcell⟩ := h
  refine ⟨a, cap, rfl, hc, hm, hn, fun x hx i hi => ?_⟩
  obtain ⟨h1, h2⟩ := hcell x hx i hi
  have hk : ∀ p u, w.cell? p = some u → w'.cell? p = some u := fun p u hp => by rw [hb.cell (Nat.lt_of_lt_of_le (World.block_lt_of_cell? w _ hp) hB)]; exact hp
  exact ⟨hk _ _ h1, hk _ _ h2⟩
theorem RdV.form {w : World} {v : Value} {vs : List Vr} (h : RdV w v vs) : ∃ a cap, v = .slice a vs.length cap ∧ vs.length ≤ cap ∧ cap ≤ 9223372036854775807 ∧
    ∀ (i : Nat) (hi : i < vs.length), ∃ b off, a = some ⟨b, off, none⟩ ∧ b < w.heap.size ∧ w.cell? ⟨b, off + i * 2, none⟩ = some (.string (vs[i]).1) ∧ w.cell? ⟨b, off + i * 2 + 1, none⟩ = some (.int .i64 (vs[i]).2) := by
  obtain ⟨a, cap, rfl, hc, hm, hn, hcell⟩ := h
  refine ⟨a, cap, rfl, hc, by unfold maxLen at hm; omega, fun i hi => ?_⟩
  cases a with
  | none => have := hn rfl; subst this; simp at hi
  | some x =>
    obtain ⟨b, off, spot⟩ := x
    obtain ⟨h1, h2⟩ := hcell _ rfl i hi
    obtain ⟨z1, _⟩ := hcell _ rfl 0 (by omega)
    have hspot : spot = none := by simpa [Addr.add] using World.cell?_spot z1
    subst hspot
    rw [add_plain] at h1 h2
    exact ⟨b, off, rfl, World.block_lt_of_cell? w _ h1, h1, h2⟩

def wth (n : Int) : Int × Int := if n < -1000000000 ∨ 1000000000 < n then (0, 3) else (n, 0)
def tru (b : Bool) : Int := if b = true then 1 else 0
def look : List Vr → ByteArray → Int × Int
  | [], _ => (0, 5)
  | x :: r, s => if x.1 = s then wth x.2 else look r s
def bin (s : List UInt8) (x y : Int) : Int × Int :=
  if s = [43] then wth (x + y) else if s = [45] then wth (x - y) else if s = [42] then wth (x * y) else if s = [60] then (tru (decide (x < y)), 0) else if s = [60, 61] then (tru (decide (x ≤ y)), 0)
  else if s = [61, 61] then (tru (x == y), 0) else if s = [33, 61] then (tru (x != y), 0) else (tru (y != 0), 0)
/-- The value, and the error, of a formed expression. -/
def evC (vs : List Vr) : (d : Nat) → T d → Int × Int := fold (fun k n s l =>
  if k = 1 then (n, 0) else if k = 2 then look vs s else if (l.getD 0 (0, 0)).2 ≠ 0 then (0, (l.getD 0 (0, 0)).2) else if k = 3 then (tru ((l.getD 0 (0, 0)).1 == 0), 0) else if k = 4 then (-(l.getD 0 (0, 0)).1, 0)
  else if bl s = [38, 38] ∧ (l.getD 0 (0, 0)).1 = 0 then (0, 0) else if bl s = [124, 124] ∧ (l.getD 0 (0, 0)).1 ≠ 0 then (1, 0)
  else if (l.getD 1 (0, 0)).2 ≠ 0 then (0, (l.getD 1 (0, 0)).2) else bin (bl s) (l.getD 0 (0, 0)).1 (l.getD 1 (0, 0)).1)
theorem evC_1 (vs : List Vr) {d : Nat} (n : Int) (s : ByteArray) (ps : List (T d)) : evC vs (d + 1) (mkT 1 n s ps) = (n, 0) := rfl
theorem evC_2 (vs : List Vr) {d : Nat} (n : Int) (s : ByteArray) (ps : List (T d)) : evC vs (d + 1) (mkT 2 n s ps) = look vs s := rfl
theorem evC_3 (vs : List Vr) {d : Nat} (n : Int) (s : ByteArray) (p : T d) : evC vs (d + 1) (mkT 3 n s [p]) = if (evC vs d p).2 ≠ 0 then (0, (evC vs d p).2) else (tru ((evC vs d p).1 == 0), 0) := rfl
theorem evC_4 (vs : List Vr) {d : Nat} (n : Int) (s : ByteArray) (p : T d) : evC vs (d + 1) (mkT 4 n s [p]) = if (evC vs d p).2 ≠ 0 then (0, (evC vs d p).2) else (-(evC vs d p).1, 0) := rfl
theorem evC_5 (vs : List Vr) {d : Nat} (n : Int) (s : ByteArray) (p q : T d) : evC vs (d + 1) (mkT 5 n s [p, q]) = if (evC vs d p).2 ≠ 0 then (0, (evC vs d p).2)
    else if bl s = [38, 38] ∧ (evC vs d p).1 = 0 then (0, 0) else if bl s = [124, 124] ∧ (evC vs d p).1 ≠ 0 then (1, 0)
    else if (evC vs d q).2 ≠ 0 then (0, (evC vs d q).2) else bin (bl s) (evC vs d p).1 (evC vs d q).1 := rfl
theorem wth_bd (n : Int) : -1000000000 ≤ (wth n).1 ∧ (wth n).1 ≤ 1000000000 := by unfold wth; split <;> simp only <;> omega
theorem tru_bd (b : Bool) : 0 ≤ tru b ∧ tru b ≤ 1 := by unfold tru; split <;> omega
theorem look_bd : ∀ (vs : List Vr) (s : ByteArray), -1000000000 ≤ (look vs s).1 ∧ (look vs s).1 ≤ 1000000000
  | [], s => by simp [look]
  | x :: r, s => by
    unfold look
    split
    · exact wth_bd _
    · exact look_bd r s
theorem bin_bd (s : List UInt8) (x y : Int) : -1000000000 ≤ (bin s x y).1 ∧ (bin s x y).1 ≤ 1000000000 := by
  unfold bin
  have h1 := wth_bd (x + y)
  have h2 := wth_bd (x - y)
  have h3 := wth_bd (x * y)
  have h4 := tru_bd (decide (x < y))
  have h5 := tru_bd (decide (x ≤ y))
  have h6 := tru_bd (x == y)
  have h7 := tru_bd (x != y)
  have h8 := tru_bd (y != 0)
  repeat' split
  all_goals first | assumption | (simp only; omega)
theorem evC_bd (vs : List Vr) : ∀ (d : Nat) (t : T d), Cl d t → sdC d t = true → -1000000000 ≤ (evC vs d t).1 ∧ (evC vs d t).1 ≤ 1000000000
  | 0, t, _, _ => Empty.elim t
  | d + 1, t, hc, hs => by
    rcases hc.cases with ⟨n, rfl⟩ | ⟨s, rfl⟩ | ⟨k, p, hk, rfl, hp⟩ | ⟨s, p, q, rfl, hp, hq⟩ | rfl
    · rw [sdC_mk, if_pos rfl] at hs
      simp only [Bool.and_eq_true, decide_eq_true_eq] at hs
      rw [evC_1]; simp only; omega
    · rw [evC_2]; exact look_bd _ _
    · have hsp : sdC d p = true := by
        rw [sdC_mk, if_neg (by omega), if_neg (by omega), if_pos hk] at hs
        simpa using hs
      have ih := evC_bd vs d p hp hsp
      have ht := tru_bd ((evC vs d p).1 == 0)
      rcases hk with rfl | rfl
      · rw [evC_3]; split <;> simp only <;> omega
      · rw [evC_4]; split <;> simp only <;> omega
    · have hb := bin_bd (bl s) (evC vs d p).1 (evC vs d q).1
      rw [evC_5]
      repeat' split
      all_goals first | exact hb | (simp only; omega)
    · unfold none0 at hs
      rw [sdC_mk] at hs
      simp at hs
end Go.Proofs.YtiddccohldjjcaaGreatDoor
