
/- What the document says of expressions: how many, how deep, sound, formed. -/
import Derived.Test.YtdekboacjjpjeaaExM
import Derived.Test.YtdekboacjjpjeaaGlyB
namespace Go.Proofs.Ytdekboacjjpjeaa
open Go.RowKit Go.Lib
set_option linter.unusedSimpArgs false
set_option linter.unusedVariables false

def ndC : (d : Nat) → T d → Nat := fold (fun _ _ _ l => min (l.sum + 1) 41)
theorem ndC_mk {d : Nat} (k n : Int) (s : ByteArray) (ps : List (T d)) : ndC (d + 1) (mkT k n s ps) = min ((ps.map (ndC d)).sum + 1) 41 := rfl
def dpC : (d : Nat) → T d → Nat := fold (fun _ _ _ l => l.foldl max 0 + 1)
theorem dpC_mk {d : Nat} (k n : Int) (s : ByteArray) (ps : List (T d)) : dpC (d + 1) (mkT k n s ps) = (ps.map (dpC d)).foldl max 0 + 1 := rfl
def ops9 : List (List UInt8) := [[43], [45], [42], [60], [60, 61], [61, 61], [33, 61], [38, 38], [124, 124]]
def opr (s : ByteArray) : Bool := ops9.any (fun x => bl s == x)
def sdC : (d : Nat) → T d → Bool := fold (fun k n s l => if k = 1 then decide (0 ≤ n) && decide (n ≤ 1000000000) else if k = 2 then nameS (bl s) else if k = 3 ∨ k = 4 then l.all id else if k = 5 then opr s && l.all id else false)
theorem sdC_mk {d : Nat} (k n : Int) (s : ByteArray) (ps : List (T d)) : sdC (d + 1) (mkT k n s ps) =
    if k = 1 then decide (0 ≤ n) && decide (n ≤ 1000000000) else if k = 2 then nameS (bl s) else if k = 3 ∨ k = 4 then ps.all (sdC d) else if k = 5 then opr s && ps.all (sdC d) else false := by
  have e : (ps.map (sdC d)).all id = ps.all (sdC d) := by rw [List.all_map]; rfl
  rw [← e]
  rfl
def fmC (d : Nat) (t : T d) : Bool := decide (ndC d t ≤ 40) && decide (dpC d t ≤ 12) && sdC d t
theorem ndC_le (d : Nat) (t : T d) : ndC d t ≤ 41 := by
  match d, t with
  | 0, t => exact Empty.elim t
  | d + 1, t =>
    obtain ⟨k, n, s, ps, rfl⟩ := T.open t
    rw [ndC_mk]; omega
theorem sum_take_succ {α : Type} (f : α → Nat) (l : List α) (j : Nat) (h : j < l.length) : ((l.take (j + 1)).map f).sum = ((l.take j).map f).sum + f l[j] := by
  rw [List.take_succ_eq_append_getElem h, List.map_append, List.sum_append]; simp
theorem sum_take_le {α : Type} (f : α → Nat) (m : Nat) (hf : ∀ x, f x ≤ m) : ∀ (l : List α), (l.map f).sum ≤ m * l.length
  | [] => by simp
  | x :: r => by
    have := sum_take_le f m hf r
    have h1 := hf x
    simp only [List.map_cons, List.sum_cons, List.length_cons, Nat.mul_succ]
    omega
theorem max_take_succ {α : Type} (f : α → Nat) (l : List α) (j : Nat) (h : j < l.length) : ((l.take (j + 1)).map f).foldl max 0 = max (((l.take j).map f).foldl max 0) (f l[j]) := by
  rw [List.take_succ_eq_append_getElem h, List.map_append, List.foldl_append]; simp
theorem foldl_max_le {m : Nat} : ∀ (l : List Nat) (a : Nat), a ≤ m → (∀ x ∈ l, x ≤ m) → l.foldl max a ≤ m
  | [], a, ha, _ => ha
  | x :: r, a, ha, h => by
    have h1 := h x (by simp)
    exact foldl_max_le r (max a x) (by omega) (fun y hy => h y (by simp [hy]))
theorem dpC_le : ∀ (d : Nat) (t : T d), dpC d t ≤ cnt d t
  | 0, t => Empty.elim t
  | d + 1, t => by
    obtain ⟨k, n, s, ps, rfl⟩ := T.open t
    rw [dpC_mk, cnt_mk]
    have := foldl_max_le (m := (ps.map (cnt d)).sum) (ps.map (dpC d)) 0 (Nat.zero_le _) (fun x hx => by
      obtain ⟨p, hp, rfl⟩ := List.mem_map.1 hx
      exact Nat.le_trans (dpC_le d p) (cnt_part hp))
    omega
theorem all_take_succ {α : Type} (f : α → Bool) (l : List α) (j : Nat) (h : j < l.length) (h1 : (l.take j).all f = true) (h2 : f l[j] = true) : (l.take (j + 1)).all f = true := by
  rw [List.take_succ_eq_append_getElem h, List.all_append, h1]; simp [h2]
theorem all_not {α : Type} (f : α → Bool) (l : List α) (j : Nat) (h : j < l.length) (h2 : f l[j] = false) : l.all f = false := by
  rw [List.all_eq_false]; exact ⟨l[j], List.getElem_mem h, by rw [h2]; decide⟩
end Go.Proofs.Ytdekboacjjpjeaa
