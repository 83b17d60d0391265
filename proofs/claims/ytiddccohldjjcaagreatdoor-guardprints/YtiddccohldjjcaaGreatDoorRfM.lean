
/- The names of an expression: in their order, sorted, each once. Math alone. -/
import Derived.Test.YtiddccohldjjcaaGreatDoorExJm
import Derived.Test.YtiddccohldjjcaaGreatDoorExLm
import Derived.Lib.SlicesCompact
import Derived.Sort.Walk0
namespace Go.Proofs.YtiddccohldjjcaaGreatDoor
open Go.RowKit Go.Lib
set_option linter.unusedSimpArgs false
set_option linter.unusedVariables false

/-- The names, from the left to the right. -/
def nmC : (d : Nat) → T d → List ByteArray := fold (fun k _ s l => (if k = 2 then [s] else []) ++ l.flatten)
theorem nmC_mk {d : Nat} (k n : Int) (s : ByteArray) (ps : List (T d)) : nmC (d + 1) (mkT k n s ps) = (if k = 2 then [s] else []) ++ (ps.map (nmC d)).flatten := rfl
theorem rf_nm : ∀ (d : Nat) (t : T d) (l : List ByteArray), rfC d t l = (nmC d t).foldl adS l
  | 0, t, _ => Empty.elim t
  | d + 1, t, l => by
    obtain ⟨k, n, s, ps, rfl⟩ := T.open t
    rw [rfC_mk, nmC_mk, List.foldl_append]
    have e1 : (if k = 2 then [s] else []).foldl adS l = if k = 2 then adS l s else l := by split <;> rfl
    rw [e1]
    generalize (if k = 2 then adS l s else l) = a
    induction ps generalizing a with
    | nil => rfl
    | cons p r ih =>
      simp only [List.foldl_cons, List.map_cons, List.flatten_cons, List.foldl_append]
      rw [rf_nm d p a]
      exact ih _
theorem nm_len : ∀ (d : Nat) (t : T d), (nmC d t).length ≤ cnt d t
  | 0, t => Empty.elim t
  | d + 1, t => by
    obtain ⟨k, n, s, ps, rfl⟩ := T.open t
    rw [nmC_mk, cnt_mk, List.length_append]
    have h1 : (if k = 2 then [s] else []).length ≤ 1 := by split <;> simp
    have h2 : ((ps.map (nmC d)).flatten).length ≤ (ps.map (cnt d)).sum := by
      induction ps with
      | nil => simp
      | cons p r ih =>
        have := nm_len d p
        simp only [List.map_cons, List.flatten_cons, List.length_append, List.sum_cons]
        omega
    omega
theorem nm_shrt (m : Nat) : ∀ (d : Nat) (t : T d), shrt m d t = true → ∀ s ∈ nmC d t, s.size ≤ m
  | 0, t, _ => Empty.elim t
  | d + 1, t, h => by
    obtain ⟨k, n, s, ps, rfl⟩ := T.open t
    rw [shrt_mk] at h
    simp only [Bool.and_eq_true, decide_eq_true_eq, List.all_eq_true] at h
    intro x hx
    rw [nmC_mk] at hx
    rcases List.mem_append.1 hx with hx | hx
    · split at hx
      · simp at hx; subst hx; exact h.1
      · simp at hx
    · obtain ⟨l, hl, hx⟩ := List.mem_flatten.1 hx
      obtain ⟨p, hp, rfl⟩ := List.mem_map.1 hl
      exact nm_shrt m d p (h.2 p hp) x hx

abbrev Bs := List UInt8
def Up (l : List Bs) : Prop := l.Pairwise (· < ·)
theorem up_eq : ∀ {a b : List Bs}, Up a → Up b → (∀ x, x ∈ a ↔ x ∈ b) → a = b
  | [], [], _, _, _ => rfl
  | [], y :: b, _, _, h => by have := (h y).2 (by simp); simp at this
  | x :: a, [], _, _, h => by have := (h x).1 (by simp); simp at this
  | x :: a, y :: b, ha, hb, h => by
    obtain ⟨ha1, ha2⟩ := List.pairwise_cons.1 ha
    obtain ⟨hb1, hb2⟩ := List.pairwise_cons.1 hb
    have hxy : x = y := by
      rcases List.mem_cons.1 ((h x).1 (by simp)) with e | e
      · exact e
      · rcases List.mem_cons.1 ((h y).2 (by simp)) with e' | e'
        · exact e'.symm
        · exact absurd (List.lt_trans (hb1 _ e) (ha1 _ e')) (List.lt_irrefl _)
    subst hxy
    have : a = b := up_eq ha2 hb2 (fun z => by
      constructor
      · intro hz
        rcases List.mem_cons.1 ((h z).1 (by simp [hz])) with e | e
        · subst e; exact absurd (ha1 _ hz) (List.lt_irrefl _)
        · exact e
      · intro hz
        rcases List.mem_cons.1 ((h z).2 (by simp [hz])) with e | e
        · subst e; exact absurd (hb1 _ hz) (List.lt_irrefl _)
        · exact e)
    rw [this]
theorem lss_lt (a b : ByteArray) : lss a b = decide (bl a < bl b) := by
  unfold lss
  rw [bytesLess_eq, ByteArray.toList_eq, ByteArray.toList_eq]
theorem bl_inj {a b : ByteArray} (h : bl a = bl b) : a = b := ByteArray.ext (Array.toList_inj.1 h)
/-- A name put into rising ones: they rise; it is there, and what was. -/
theorem adS_up {ls : List ByteArray} (s : ByteArray) (h : Up (ls.map bl)) : Up ((adS ls s).map bl) ∧ ∀ x, x ∈ (adS ls s).map bl ↔ x ∈ ls.map bl ∨ x = bl s := by
  induction ls with
  | nil =>
    have e : adS [] s = [s] := rfl
    rw [e]
    exact ⟨by simp [Up], fun x => by simp⟩
  | cons y r ih =>
    obtain ⟨h1, h2⟩ := List.pairwise_cons.1 h
    obtain ⟨i1, i2⟩ := ih h2
    by_cases hl : bl y < bl s
    · have e1 : lss y s = true := by rw [lss_lt]; exact decide_eq_true hl
      have e2 : lead (y :: r) s = lead r s + 1 := by unfold lead; rw [List.takeWhile_cons, if_pos e1]; rfl
      have e3 : adS (y :: r) s = y :: adS r s := by
        unfold adS
        rw [e2, List.getElem?_cons_succ]
        split
        · rfl
        · simp
      rw [e3]
      refine ⟨List.pairwise_cons.2 ⟨fun x hx => ?_, i1⟩, fun x => ?_⟩
      · rcases (i2 x).1 hx with e | e
        · exact h1 x e
        · rw [e]; exact hl
      · simp only [List.map_cons, List.mem_cons]
        rw [i2 x]
        constructor
        · rintro (e | e | e)
          · exact .inl (.inl e)
          · exact .inl (.inr e)
          · exact .inr e
        · rintro ((e | e) | e)
          · exact .inl e
          · exact .inr (.inl e)
          · exact .inr (.inr e)
    · have e1 : lss y s = false := by rw [lss_lt]; exact decide_eq_false hl
      have e2 : lead (y :: r) s = 0 := by unfold lead; rw [List.takeWhile_cons, if_neg (by rw [e1]; decide)]; rfl
      by_cases he : y = s
      · subst he
        have e3 : adS (y :: r) y = y :: r := by unfold adS; rw [e2]; simp
        rw [e3]
        exact ⟨h, fun x => ⟨.inl, fun e => e.elim id (fun e => by rw [e]; simp)⟩⟩
      · have e3 : adS (y :: r) s = s :: y :: r := by
          unfold adS
          rw [e2, if_neg (by simpa using he)]
          rfl
        rw [e3]
        have hlt : bl s < bl y := by
          rcases List.le_total (bl s) (bl y) with q | q
          · by_cases hq : bl s < bl y
            · exact hq
            · exact absurd (bl_inj (List.le_antisymm (List.not_lt.1 hq) q)) he
          · exact absurd (bl_inj (List.le_antisymm q (List.not_lt.1 hl))) he
        refine ⟨List.pairwise_cons.2 ⟨fun x hx => ?_, h⟩, fun x => ?_⟩
        · rcases List.mem_cons.1 hx with e | e
          · rw [e]; exact hlt
          · exact List.lt_trans hlt (h1 x e)
        · simp only [List.map_cons, List.mem_cons]
          constructor
          · rintro (e | e)
            · exact .inr e
            · exact .inl e
          · rintro (e | e)
            · exact .inr e
            · exact .inl e
theorem fold_up : ∀ (ns ls : List ByteArray), Up (ls.map bl) → Up ((ns.foldl adS ls).map bl) ∧ ∀ x, x ∈ (ns.foldl adS ls).map bl ↔ x ∈ ls.map bl ∨ x ∈ ns.map bl
  | [], ls, h => ⟨h, fun x => by simp⟩
  | s :: r, ls, h => by
    obtain ⟨a1, a2⟩ := adS_up s h
    obtain ⟨b1, b2⟩ := fold_up r (adS ls s) a1
    refine ⟨b1, fun x => ?_⟩
    rw [List.foldl_cons, b2 x, a2 x]
    simp only [List.map_cons, List.mem_cons]
    constructor
    · rintro ((e | e) | e)
      · exact .inl e
      · exact .inr (.inl e)
      · exact .inr (.inr e)
    · rintro (e | e | e)
      · exact .inl (.inl e)
      · exact .inl (.inr e)
      · exact .inr e
def lrB (x y : Bs) : Bool := decide (x ≤ y)
theorem comp_up (zs : List Bs) (h : zs.Pairwise (fun a b => lrB a b = true)) : ∀ m, m ≤ zs.length → Up (compactUpTo zs.toArray m) ∧ ∀ x, x ∈ compactUpTo zs.toArray m ↔ ∃ j, j < m ∧ zs.toArray[j]! = x
  | 0, _ => ⟨List.Pairwise.nil, fun x => by simp [compactUpTo]⟩
  | m + 1, hm => by
    obtain ⟨a1, a2⟩ := comp_up zs h m (by omega)
    have hle : ∀ i j, i < j → j < zs.length → zs.toArray[i]! ≤ zs.toArray[j]! := fun i j hij hj => by
      have := List.pairwise_iff_getElem.1 h i j (by omega) hj hij
      unfold lrB at this
      rw [decide_eq_true_eq] at this
      simpa [getElem!_pos, show i < zs.length by omega, hj] using this
    rw [compactUpTo_succ]
    by_cases hk : keeps zs.toArray m = true
    · rw [if_pos hk]
      refine ⟨List.pairwise_append.2 ⟨a1, by simp, fun x hx y hy => ?_⟩, fun x => ?_⟩
      · simp at hy
        subst hy
        obtain ⟨j, hj, rfl⟩ := (a2 x).1 hx
        have hm0 : m ≠ 0 := by omega
        have hne : zs.toArray[m]! ≠ zs.toArray[m - 1]! := by simpa [keeps, hm0] using hk
        have l1 := hle (m - 1) m (by omega) (by omega)
        have l2 : zs.toArray[m - 1]! < zs.toArray[m]! := by
          by_cases q : zs.toArray[m - 1]! < zs.toArray[m]!
          · exact q
          · exact absurd (List.le_antisymm (List.not_lt.1 q) l1) hne
        have l3 : zs.toArray[j]! ≤ zs.toArray[m - 1]! := by
          rcases Nat.lt_or_ge j (m - 1) with q | q
          · exact hle j (m - 1) q (by omega)
          · have : j = m - 1 := by omega
            subst this
            exact List.not_lt.1 (List.lt_irrefl _)
        have l4 := List.lt_of_le_of_lt l3 l2
        simpa using l4
      · rw [List.mem_append, a2 x]
        constructor
        · rintro (⟨j, hj, e⟩ | e)
          · exact ⟨j, by omega, e⟩
          · exact ⟨m, by omega, (List.mem_singleton.1 e).symm⟩
        · rintro ⟨j, hj, e⟩
          rcases Nat.lt_or_ge j m with q | q
          · exact .inl ⟨j, q, e⟩
          · have : j = m := by omega
            subst this
            exact .inr (by rw [e]; simp)
    · rw [if_neg hk, List.append_nil]
      refine ⟨a1, fun x => ?_⟩
      rw [a2 x]
      have hk' : m ≠ 0 ∧ zs.toArray[m]! = zs.toArray[m - 1]! := by
        simp only [keeps, decide_eq_true_eq] at hk
        exact ⟨fun e => hk (.inl e), Classical.byContradiction (fun q => hk (.inr q))⟩
      constructor
      · rintro ⟨j, hj, e⟩
        exact ⟨j, by omega, e⟩
      · rintro ⟨j, hj, e⟩
        rcases Nat.lt_or_ge j m with q | q
        · exact ⟨j, q, e⟩
        · have : j = m := by omega
          subst this
          exact ⟨j - 1, by omega, by rw [← hk'.2]; exact e⟩
theorem get_bang (zs : List Bs) (j : Nat) (hj : j < zs.length) : zs.toArray[j]! = zs[j] := by simp [getElem!_pos, hj]
/-- Sorted, and each once: what the document's names are. -/
theorem sort_names (ns : List ByteArray) : compact ((ns.map bl).mergeSort lrB) = (ns.foldl adS []).map bl := by
  have tr : ∀ a b c : Bs, lrB a b = true → lrB b c = true → lrB a c = true := fun a b c h1 h2 => by
    unfold lrB at *
    rw [decide_eq_true_eq] at *
    exact List.le_trans h1 h2
  have to : ∀ a b : Bs, (lrB a b || lrB b a) = true := fun a b => by
    unfold lrB
    rw [Bool.or_eq_true, decide_eq_true_eq, decide_eq_true_eq]
    exact List.le_total a b
  obtain ⟨a1, a2⟩ := comp_up ((ns.map bl).mergeSort lrB) (List.pairwise_mergeSort tr to _) _ (Nat.le_refl _)
  obtain ⟨b1, b2⟩ := fold_up ns [] (by simp [Up])
  refine up_eq a1 b1 (fun x => ?_)
  rw [show compact ((ns.map bl).mergeSort lrB) = compactUpTo ((ns.map bl).mergeSort lrB).toArray ((ns.map bl).mergeSort lrB).length from rfl, a2 x, b2 x]
  simp only [List.map_nil, List.not_mem_nil, false_or]
  rw [← List.mem_mergeSort (le := lrB) (l := ns.map bl)]
  constructor
  · rintro ⟨j, hj, e⟩
    rw [← e, get_bang _ j hj]
    exact List.getElem_mem hj
  · intro hx
    obtain ⟨j, hj, e⟩ := List.mem_iff_getElem.1 hx
    exact ⟨j, hj, by rw [get_bang _ j hj, e]⟩
end Go.Proofs.YtiddccohldjjcaaGreatDoor
