/- The variables that an expression names: nothing else is anything to its value. -/
import Derived.Test.YtjbfhpgiobddoaaDoorRfM
import Derived.Test.YtjbfhpgiobddoaaDoorExP
import Derived.Test.YtjbfhpgiobddoaaDoorPxF
namespace Go.Proofs.YtjbfhpgiobddoaaDoor
open Go.RowKit Go.Lib
set_option linter.unusedSimpArgs false
set_option linter.unusedVariables false

/-- A variable, as often as its name is there. -/
def own1 (R : List ByteArray) (x : Vr) : List Vr := (R.filter (fun r => decide (r = x.1))).map (fun _ => x)
def ownV (R : List ByteArray) (vs : List Vr) : List Vr := (vs.map (own1 R)).flatten
theorem own1_mem {R : List ByteArray} {x y : Vr} (h : y ∈ own1 R x) : y = x := by
  obtain ⟨_, _, rfl⟩ := List.mem_map.1 h
  rfl
theorem look_skip : ∀ (a b : List Vr) (s : ByteArray), (∀ x ∈ a, x.1 ≠ s) → look (a ++ b) s = look b s
  | [], b, s, _ => rfl
  | x :: r, b, s, h => by
    show (if x.1 = s then wth x.2 else look (r ++ b) s) = _
    rw [if_neg (h x (by simp))]
    exact look_skip r b s (fun y hy => h y (by simp [hy]))
theorem look_own (R : List ByteArray) : ∀ (vs : List Vr) (s : ByteArray), s ∈ R → look (ownV R vs) s = look vs s
  | [], s, _ => rfl
  | x :: r, s, hs => by
    have ih := look_own R r s hs
    show look (own1 R x ++ ownV R r) s = if x.1 = s then wth x.2 else look r s
    by_cases h : x.1 = s
    · rw [if_pos h]
      have hm : s ∈ R.filter (fun r => decide (r = x.1)) := by simp [hs, h]
      unfold own1
      cases hq : R.filter (fun r => decide (r = x.1)) with
      | nil => rw [hq] at hm; simp at hm
      | cons a l =>
        show (if x.1 = s then wth x.2 else _) = _
        rw [if_pos h]
    · rw [if_neg h, look_skip _ _ _ (fun y hy => by rw [own1_mem hy]; exact h), ih]
theorem own1_len (R : List ByteArray) (x : Vr) : (own1 R x).length ≤ R.length := by
  unfold own1
  rw [List.length_map]
  exact List.length_filter_le _ _
theorem ownV_len (R : List ByteArray) : ∀ (vs : List Vr), (ownV R vs).length ≤ R.length * vs.length
  | [] => by simp [ownV]
  | x :: r => by
    have h1 := own1_len R x
    have h2 := ownV_len R r
    have e : ownV R (x :: r) = own1 R x ++ ownV R r := rfl
    rw [e, List.length_append, List.length_cons, Nat.mul_succ]
    omega
theorem ownV_step (R : List ByteArray) (vs : List Vr) (j : Nat) (h : j < vs.length) : ownV R (vs.take (j + 1)) = ownV R (vs.take j) ++ own1 R vs[j] := by
  unfold ownV
  rw [List.take_succ_eq_append_getElem h, List.map_append, List.flatten_append, List.map_singleton, List.flatten_singleton]
theorem own1_step (R : List ByteArray) (x : Vr) (k : Nat) (h : k < R.length) : own1 (R.take (k + 1)) x = own1 (R.take k) x ++ (if R[k] = x.1 then [x] else []) := by
  unfold own1
  rw [List.take_succ_eq_append_getElem h, List.filter_append, List.map_append]
  congr 1
  by_cases hq : R[k] = x.1
  · simp [hq]
  · simp [hq]
theorem ev_names (vs vs' : List Vr) : ∀ (d : Nat) (t : T d), (∀ s ∈ nmC d t, look vs s = look vs' s) → evC vs d t = evC vs' d t
  | 0, t, _ => Empty.elim t
  | d + 1, t, h => by
    obtain ⟨k, n, s, ps, rfl⟩ := T.open t
    rw [nmC_mk] at h
    have hm : ps.map (evC vs d) = ps.map (evC vs' d) := List.map_congr_left (fun p hp => ev_names vs vs' d p (fun x hx => h x (List.mem_append.2 (.inr (List.mem_flatten.2 ⟨_, List.mem_map.2 ⟨p, hp, rfl⟩, hx⟩)))))
    unfold evC at hm ⊢
    rw [fold_mk, fold_mk, hm]
    by_cases k1 : k = 1
    · simp only [if_pos k1]
    · simp only [if_neg k1]
      by_cases k2 : k = 2
      · simp only [if_pos k2]
        exact h s (by simp [k2])
      · simp only [if_neg k2]
theorem nm_rf {d : Nat} {t : T d} {s : ByteArray} (h : s ∈ nmC d t) : s ∈ rfC d t [] := by
  rw [rf_nm]
  have h1 := (fold_up (nmC d t) [] (by simp [Up])).2 (bl s)
  have h2 := h1.2 (.inr (List.mem_map.2 ⟨s, h, rfl⟩))
  obtain ⟨x, hx, e⟩ := List.mem_map.1 h2
  rw [← bl_inj e]
  exact hx
/-- No other variable is anything to it. -/
theorem evX_own (vs : List Vr) (d : Nat) (t : T d) : evX (ownV (rfT d t) vs) d t = evX vs d t := by
  unfold evX rfT
  by_cases hf : fmC d t = true
  · rw [if_pos hf, if_pos hf, if_pos hf]
    exact ev_names _ _ d t (fun s hs => look_own _ vs s (nm_rf hs))
  · rw [if_neg hf, if_neg hf]
theorem rfT_len (d : Nat) (t : T d) : (rfT d t).length ≤ 40 := by
  unfold rfT
  split
  · rename_i hf
    have h1 := rfC_len d t []
    have h2 : ndC d t ≤ 40 := by
      unfold fmC at hf
      simp only [Bool.and_eq_true, decide_eq_true_eq] at hf
      exact hf.1.1
    have h3 : cnt d t ≤ 40 := by
      have e := ndC_cnt d t
      omega
    simp only [List.length_nil] at h1
    omega
  · simp
/-- The cells of variables. -/
def celV (vs : List Vr) : List Value := (vs.map (fun x => [Value.string x.1, Value.int .i64 x.2])).flatten
theorem celV_len : ∀ (vs : List Vr), (celV vs).length = vs.length * 2
  | [] => rfl
  | x :: r => by
    have := celV_len r
    have e : celV (x :: r) = Value.string x.1 :: Value.int .i64 x.2 :: celV r := rfl
    rw [e]; simp only [List.length_cons]; omega
theorem celV_get : ∀ (vs : List Vr) (i : Nat) (h : i < vs.length), (celV vs)[i * 2]? = some (.string (vs[i]).1) ∧ (celV vs)[i * 2 + 1]? = some (.int .i64 (vs[i]).2)
  | [], i, h => by simp at h
  | x :: r, 0, _ => ⟨rfl, rfl⟩
  | x :: r, i + 1, h => by
    have e : celV (x :: r) = Value.string x.1 :: Value.int .i64 x.2 :: celV r := rfl
    have ih := celV_get r i (by simpa using h)
    rw [e, show (i + 1) * 2 = i * 2 + 1 + 1 by omega]
    simpa using ih
theorem celV_snoc (vs : List Vr) (x : Vr) : celV (vs ++ [x]) = celV vs ++ [.string x.1, .int .i64 x.2] := by unfold celV; simp
theorem rdV_own {w : World} {base : Nat} {v : Value} {vs : List Vr} (h : w.ownsRow base 46 2 v vs.length (celV vs)) : RdV w v vs := by
  have hc := fun g => World.ownsRow.cells h (g := g)
  rcases h.2 with ⟨rfl, hn⟩ | ⟨g, cap, cur, rfl, hb, hg, hnc, hcm, hcs, htake⟩
  · have hx : vs = [] := List.eq_nil_of_length_eq_zero hn
    subst hx
    exact rdV_nil w
  · refine ⟨some ⟨g, 0, none⟩, cap, rfl, hnc, hcm, by simp, ?_⟩
    intro x hx i hi
    obtain rfl := Option.some.inj hx
    obtain ⟨c1, c2⟩ := celV_get vs i hi
    exact ⟨hc g rfl _ _ c1, hc g rfl _ _ c2⟩
end Go.Proofs.YtjbfhpgiobddoaaDoor
