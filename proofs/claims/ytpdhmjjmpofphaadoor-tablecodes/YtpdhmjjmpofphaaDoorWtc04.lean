import Derived.Test.YtpdhmjjmpofphaaDoorWtc03
import Derived.Test.YtpdhmjjmpofphaaDoorWtc01
import Derived.Lib.SlicesCompact
import Derived.Sort.Walk0
import Derived.Shelf.Sort.Plain
import Derived.Shelf.Slices.In.SortNone
import Derived.Shelf.Slices.CompactS
import Derived.Test.YtpdhmjjmpofphaaDoorRows
import Derived.Test.YtpdhmjjmpofphaaDoorWtc02
import Derived.Sort.OwnSorted
import Derived.Lib.OwnBridge
import Derived.Deep.RegionHeld
import Derived.Deep.DrawnRows

/- The names of an expression. Math alone. -/
namespace Go.Proofs.YtpdhmjjmpofphaaDoor
open Go.RowKit Go.Lib
set_option linter.unusedSimpArgs false
set_option linter.unusedVariables false

/-- The names of an expression, behind those that are there. -/
def rfC : (d : Nat) → T d → List ByteArray → List ByteArray := fold (fun k _ s fs l => fs.foldl (fun a f => f a) (if k = 2 then adS l s else l))
theorem rfC_mk {d : Nat} (k n : Int) (s : ByteArray) (ps : List (T d)) (l : List ByteArray) : rfC (d + 1) (mkT k n s ps) l = ps.foldl (fun a p => rfC d p a) (if k = 2 then adS l s else l) := by
  show (ps.map (rfC d)).foldl (fun a f => f a) (if k = 2 then adS l s else l) = _
  rw [List.foldl_map]
theorem adS_len (l : List ByteArray) (s : ByteArray) : (adS l s).length ≤ l.length + 1 := by
  have := lead_le l s
  unfold adS
  split
  · omega
  · simp; omega
theorem foldl_len {d : Nat} (H : ∀ (p : T d) (l : List ByteArray), (rfC d p l).length ≤ l.length + cnt d p) : ∀ (ps : List (T d)) (l : List ByteArray), (ps.foldl (fun a p => rfC d p a) l).length ≤ l.length + (ps.map (cnt d)).sum
  | [], l => by simp
  | p :: r, l => by
    have h1 := H p l
    have h2 := foldl_len H r (rfC d p l)
    simp only [List.foldl_cons, List.map_cons, List.sum_cons]
    omega
theorem rfC_len : ∀ (d : Nat) (t : T d) (l : List ByteArray), (rfC d t l).length ≤ l.length + cnt d t
  | 0, t, _ => Empty.elim t
  | d + 1, t, l => by
    obtain ⟨k, n, s, ps, rfl⟩ := T.open t
    rw [rfC_mk, cnt_mk]
    have h1 := foldl_len (rfC_len d) ps (if k = 2 then adS l s else l)
    have h2 := adS_len l s
    split at h1 <;> rename_i hk
    · rw [if_pos hk]; omega
    · rw [if_neg hk]; omega
def rfT (d : Nat) (t : T d) : List ByteArray := if fmC d t = true then rfC d t [] else []

/-- The names, from the left to the right. -/
def nmC : (d : Nat) → T d → List ByteArray := fold (fun k _ s l => (if k = 2 then [s] else []) ++ l.flatten)
theorem nmC_mk {d : Nat} (k n : Int) (s : ByteArray) (ps : List (T d)) : nmC (d + 1) (mkT k n s ps) = (if k = 2 then [s] else []) ++ (ps.map (nmC d)).flatten := rfl
theorem rf_nm : ∀ (d : Nat) (t : T d) (l : List ByteArray), rfC d t l = (nmC d t).foldl adS l
  | 0, t, _ => Empty.elim t
  | d + 1, t, l => by
    obtain ⟨k, n, s, ps, rfl⟩ := T.open t
    rw [rfC_mk, nmC_mk, List.foldl_append]
    have e1 : (if k = 2 then [s] else []).foldl adS l = if k = 2 then adS l s else l := by split <;> rfl
    rw [e1]
    generalize (if k = 2 then adS l s else l) = a
    induction ps generalizing a with
    | nil => rfl
    | cons p r ih =>
      simp only [List.foldl_cons, List.map_cons, List.flatten_cons, List.foldl_append]
      rw [rf_nm d p a]
      exact ih _
theorem nm_len : ∀ (d : Nat) (t : T d), (nmC d t).length ≤ cnt d t
  | 0, t => Empty.elim t
  | d + 1, t => by
    obtain ⟨k, n, s, ps, rfl⟩ := T.open t
    rw [nmC_mk, cnt_mk, List.length_append]
    have h1 : (if k = 2 then [s] else []).length ≤ 1 := by split <;> simp
    have h2 : ((ps.map (nmC d)).flatten).length ≤ (ps.map (cnt d)).sum := by
      induction ps with
      | nil => simp
      | cons p r ih =>
        have := nm_len d p
        simp only [List.map_cons, List.flatten_cons, List.length_append, List.sum_cons]
        omega
    omega
abbrev Bs := List UInt8
def Up (l : List Bs) : Prop := l.Pairwise (· < ·)
theorem up_eq : ∀ {a b : List Bs}, Up a → Up b → (∀ x, x ∈ a ↔ x ∈ b) → a = b
  | [], [], _, _, _ => rfl
  | [], y :: b, _, _, h => by have := (h y).2 (by simp); simp at this
  | x :: a, [], _, _, h => by have := (h x).1 (by simp); simp at this
  | x :: a, y :: b, ha, hb, h => by
    obtain ⟨ha1, ha2⟩ := List.pairwise_cons.1 ha
    obtain ⟨hb1, hb2⟩ := List.pairwise_cons.1 hb
    have hxy : x = y := by
      rcases List.mem_cons.1 ((h x).1 (by simp)) with e | e
      · exact e
      · rcases List.mem_cons.1 ((h y).2 (by simp)) with e' | e'
        · exact e'.symm
        · exact absurd (List.lt_trans (hb1 _ e) (ha1 _ e')) (List.lt_irrefl _)
    subst hxy
    have : a = b := up_eq ha2 hb2 (fun z => by
      constructor
      · intro hz
        rcases List.mem_cons.1 ((h z).1 (by simp [hz])) with e | e
        · subst e; exact absurd (ha1 _ hz) (List.lt_irrefl _)
        · exact e
      · intro hz
        rcases List.mem_cons.1 ((h z).2 (by simp [hz])) with e | e
        · subst e; exact absurd (hb1 _ hz) (List.lt_irrefl _)
        · exact e)
    rw [this]
theorem lss_lt (a b : ByteArray) : lss a b = decide (bl a < bl b) := by
  unfold lss
  rw [bytesLess_eq, ByteArray.toList_eq, ByteArray.toList_eq]
theorem bl_inj {a b : ByteArray} (h : bl a = bl b) : a = b := ByteArray.ext (Array.toList_inj.1 h)
/-- A name put into rising ones: they rise; it is there, and what was. -/
theorem adS_up {ls : List ByteArray} (s : ByteArray) (h : Up (ls.map bl)) : Up ((adS ls s).map bl) ∧ ∀ x, x ∈ (adS ls s).map bl ↔ x ∈ ls.map bl ∨ x = bl s := by
  induction ls with
  | nil =>
    have e : adS [] s = [s] := rfl
    rw [e]
    exact ⟨by simp [Up], fun x => by simp⟩
  | cons y r ih =>
    obtain ⟨h1, h2⟩ := List.pairwise_cons.1 h
    obtain ⟨i1, i2⟩ := ih h2
    by_cases hl : bl y < bl s
    · have e1 : lss y s = true := by rw [lss_lt]; exact decide_eq_true hl
      have e2 : lead (y :: r) s = lead r s + 1 := by unfold lead; rw [List.takeWhile_cons, if_pos e1]; rfl
      have e3 : adS (y :: r) s = y :: adS r s := by
        unfold adS
        rw [e2, List.getElem?_cons_succ]
        split
        · rfl
        · simp
      rw [e3]
      refine ⟨List.pairwise_cons.2 ⟨fun x hx => ?_, i1⟩, fun x => ?_⟩
      · rcases (i2 x).1 hx with e | e
        · exact h1 x e
        · rw [e]; exact hl
      · simp only [List.map_cons, List.mem_cons]
        rw [i2 x]
        constructor
        · rintro (e | e | e)
          · exact .inl (.inl e)
          · exact .inl (.inr e)
          · exact .inr e
        · rintro ((e | e) | e)
          · exact .inl e
          · exact .inr (.inl e)
          · exact .inr (.inr e)
    · have e1 : lss y s = false := by rw [lss_lt]; exact decide_eq_false hl
      have e2 : lead (y :: r) s = 0 := by unfold lead; rw [List.takeWhile_cons, if_neg (by rw [e1]; decide)]; rfl
      by_cases he : y = s
      · subst he
        have e3 : adS (y :: r) y = y :: r := by unfold adS; rw [e2]; simp
        rw [e3]
        exact ⟨h, fun x => ⟨.inl, fun e => e.elim id (fun e => by rw [e]; simp)⟩⟩
      · have e3 : adS (y :: r) s = s :: y :: r := by
          unfold adS
          rw [e2, if_neg (by simpa using he)]
          rfl
        rw [e3]
        have hlt : bl s < bl y := by
          rcases List.le_total (bl s) (bl y) with q | q
          · by_cases hq : bl s < bl y
            · exact hq
            · exact absurd (bl_inj (List.le_antisymm (List.not_lt.1 hq) q)) he
          · exact absurd (bl_inj (List.le_antisymm q (List.not_lt.1 hl))) he
        refine ⟨List.pairwise_cons.2 ⟨fun x hx => ?_, h⟩, fun x => ?_⟩
        · rcases List.mem_cons.1 hx with e | e
          · rw [e]; exact hlt
          · exact List.lt_trans hlt (h1 x e)
        · simp only [List.map_cons, List.mem_cons]
          constructor
          · rintro (e | e)
            · exact .inr e
            · exact .inl e
          · rintro (e | e)
            · exact .inr e
            · exact .inl e
theorem fold_up : ∀ (ns ls : List ByteArray), Up (ls.map bl) → Up ((ns.foldl adS ls).map bl) ∧ ∀ x, x ∈ (ns.foldl adS ls).map bl ↔ x ∈ ls.map bl ∨ x ∈ ns.map bl
  | [], ls, h => ⟨h, fun x => by simp⟩
  | s :: r, ls, h => by
    obtain ⟨a1, a2⟩ := adS_up s h
    obtain ⟨b1, b2⟩ := fold_up r (adS ls s) a1
    refine ⟨b1, fun x => ?_⟩
    rw [List.foldl_cons, b2 x, a2 x]
    simp only [List.map_cons, List.mem_cons]
    constructor
    · rintro ((e | e) | e)
      · exact .inl e
      · exact .inr (.inl e)
      · exact .inr (.inr e)
    · rintro (e | e | e)
      · exact .inl (.inl e)
      · exact .inl (.inr e)
      · exact .inr e
def lrB (x y : Bs) : Bool := decide (x ≤ y)
theorem comp_up (zs : List Bs) (h : zs.Pairwise (fun a b => lrB a b = true)) : ∀ m, m ≤ zs.length → Up (compactUpTo zs.toArray m) ∧ ∀ x, x ∈ compactUpTo zs.toArray m ↔ ∃ j, j < m ∧ zs.toArray[j]! = x
  | 0, _ => ⟨List.Pairwise.nil, fun x => by simp [compactUpTo]⟩
  | m + 1, hm => by
    obtain ⟨a1, a2⟩ := comp_up zs h m (by omega)
    have hle : ∀ i j, i < j → j < zs.length → zs.toArray[i]! ≤ zs.toArray[j]! := fun i j hij hj => by
      have := List.pairwise_iff_getElem.1 h i j (by omega) hj hij
      unfold lrB at this
      rw [decide_eq_true_eq] at this
      simpa [getElem!_pos, show i < zs.length by omega, hj] using this
    rw [compactUpTo_succ]
    by_cases hk : keeps zs.toArray m = true
    · rw [if_pos hk]
      refine ⟨List.pairwise_append.2 ⟨a1, by simp, fun x hx y hy => ?_⟩, fun x => ?_⟩
      · simp at hy
        subst hy
        obtain ⟨j, hj, rfl⟩ := (a2 x).1 hx
        have hm0 : m ≠ 0 := by omega
        have hne : zs.toArray[m]! ≠ zs.toArray[m - 1]! := by simpa [keeps, hm0] using hk
        have l1 := hle (m - 1) m (by omega) (by omega)
        have l2 : zs.toArray[m - 1]! < zs.toArray[m]! := by
          by_cases q : zs.toArray[m - 1]! < zs.toArray[m]!
          · exact q
          · exact absurd (List.le_antisymm (List.not_lt.1 q) l1) hne
        have l3 : zs.toArray[j]! ≤ zs.toArray[m - 1]! := by
          rcases Nat.lt_or_ge j (m - 1) with q | q
          · exact hle j (m - 1) q (by omega)
          · have : j = m - 1 := by omega
            subst this
            exact List.not_lt.1 (List.lt_irrefl _)
        have l4 := List.lt_of_le_of_lt l3 l2
        simpa using l4
      · rw [List.mem_append, a2 x]
        constructor
        · rintro (⟨j, hj, e⟩ | e)
          · exact ⟨j, by omega, e⟩
          · exact ⟨m, by omega, (List.mem_singleton.1 e).symm⟩
        · rintro ⟨j, hj, e⟩
          rcases Nat.lt_or_ge j m with q | q
          · exact .inl ⟨j, q, e⟩
          · have : j = m := by omega
            subst this
            exact .inr (by rw [e]; simp)
    · rw [if_neg hk, List.append_nil]
      refine ⟨a1, fun x => ?_⟩
      rw [a2 x]
      have hk' : m ≠ 0 ∧ zs.toArray[m]! = zs.toArray[m - 1]! := by
        simp only [keeps, decide_eq_true_eq] at hk
        exact ⟨fun e => hk (.inl e), Classical.byContradiction (fun q => hk (.inr q))⟩
      constructor
      · rintro ⟨j, hj, e⟩
        exact ⟨j, by omega, e⟩
      · rintro ⟨j, hj, e⟩
        rcases Nat.lt_or_ge j m with q | q
        · exact ⟨j, q, e⟩
        · have : j = m := by omega
          subst this
          exact ⟨j - 1, by omega, by rw [← hk'.2]; exact e⟩
theorem get_bang (zs : List Bs) (j : Nat) (hj : j < zs.length) : zs.toArray[j]! = zs[j] := by simp [getElem!_pos, hj]
/-- Sorted, and each once: what the document's names are. -/
theorem sort_names (ns : List ByteArray) : compact ((ns.map bl).mergeSort lrB) = (ns.foldl adS []).map bl := by
  have tr : ∀ a b c : Bs, lrB a b = true → lrB b c = true → lrB a c = true := fun a b c h1 h2 => by
    unfold lrB at *
    rw [decide_eq_true_eq] at *
    exact List.le_trans h1 h2
  have tot : ∀ a b : Bs, (lrB a b || lrB b a) = true := fun a b => by
    unfold lrB
    rw [Bool.or_eq_true, decide_eq_true_eq, decide_eq_true_eq]
    exact List.le_total a b
  obtain ⟨a1, a2⟩ := comp_up ((ns.map bl).mergeSort lrB) (List.pairwise_mergeSort tr tot _) _ (Nat.le_refl _)
  obtain ⟨b1, b2⟩ := fold_up ns [] (by simp [Up])
  refine up_eq a1 b1 (fun x => ?_)
  rw [show compact ((ns.map bl).mergeSort lrB) = compactUpTo ((ns.map bl).mergeSort lrB).toArray ((ns.map bl).mergeSort lrB).length from rfl, a2 x, b2 x]
  simp only [List.map_nil, List.not_mem_nil, false_or]
  rw [← List.mem_mergeSort (le := lrB) (l := ns.map bl)]
  constructor
  · rintro ⟨j, hj, e⟩
    rw [← e, get_bang _ j hj]
    exact List.getElem_mem hj
  · intro hx
    obtain ⟨j, hj, e⟩ := List.mem_iff_getElem.1 hx
    exact ⟨j, hj, by rw [get_bang _ j hj, e]⟩
end Go.Proofs.YtpdhmjjmpofphaaDoor

/- Contracts of the library at this program. -/
namespace Go.Proofs.YtpdhmjjmpofphaaDoor
open Go.Shelf
set_option linter.unusedVariables false

def renS : Ren := { f := fun x => match x with | 190 => 25 | 125 => 38 | 258 => 37 | 128 => 55 | 129 => 56 | 302 => 46 | 303 => 47 | 304 => 48 | 305 => 49 | 306 => 50 | 307 => 51 | 308 => 52 | 309 => 53 | 310 => 54 | 333 => 62 | 329 => 63 | 330 => 64 | 334 => 65 | 335 => 66 | 336 => 67 | 344 => 71 | n => n, t := fun x => match x with | 31 => 50 | 9 => 9 | 3 => 3 | 46 => 83 | 0 => 0 | 51 => 101 | 53 => 103 | 4 => 4 | 183 => 93 | 182 => 92 | 131 => 98 | 5 => 5 | 218 => 111 | 222 => 115 | 228 => 117 | 229 => 106 | n => n, g := fun x => x }
theorem laysS : Lays.n190 Tryd.prog renS :=
  { mixed := by kernel_rfl, f125 := Tryd.func38.trans (congrArg some (by kernel_rfl)), f128 := Tryd.func55.trans (congrArg some (by kernel_rfl)), f129 := Tryd.func56.trans (congrArg some (by kernel_rfl)), f190 := Tryd.func25.trans (congrArg some (by kernel_rfl)), f258 := Tryd.func37.trans (congrArg some (by kernel_rfl)), f302 := Tryd.func46.trans (congrArg some (by kernel_rfl)), f303 := Tryd.func47.trans (congrArg some (by kernel_rfl)), f304 := Tryd.func48.trans (congrArg some (by kernel_rfl)), f305 := Tryd.func49.trans (congrArg some (by kernel_rfl)), f306 := Tryd.func50.trans (congrArg some (by kernel_rfl)), f307 := Tryd.func51.trans (congrArg some (by kernel_rfl)), f308 := Tryd.func52.trans (congrArg some (by kernel_rfl)), f309 := Tryd.func53.trans (congrArg some (by kernel_rfl)), f310 := Tryd.func54.trans (congrArg some (by kernel_rfl)), f329 := Tryd.func63.trans (congrArg some (by kernel_rfl)), f330 := Tryd.func64.trans (congrArg some (by kernel_rfl)), f333 := Tryd.func62.trans (congrArg some (by kernel_rfl)), f334 := Tryd.func65.trans (congrArg some (by kernel_rfl)), f335 := Tryd.func66.trans (congrArg some (by kernel_rfl)), f336 := Tryd.func67.trans (congrArg some (by kernel_rfl)), f344 := Tryd.func71.trans (congrArg some (by kernel_rfl)), t0 := Tryd.underlying0, a0 := Tryd.isAgg0, z0 := Tryd.sizeOf0, v0 := Tryd.zeroValue0, t3 := Tryd.underlying3, a3 := Tryd.isAgg3, z3 := Tryd.sizeOf3, v3 := Tryd.zeroValue3, t4 := Tryd.underlying4, a4 := Tryd.isAgg4, z4 := Tryd.sizeOf4, v4 := Tryd.zeroValue4, t5 := Tryd.underlying5, a5 := Tryd.isAgg5, z5 := Tryd.sizeOf5, v5 := Tryd.zeroValue5, t9 := Tryd.underlying9, a9 := Tryd.isAgg9, z9 := Tryd.sizeOf9, v9 := Tryd.zeroValue9, t31 := Tryd.underlying50, a31 := Tryd.isAgg50, z31 := Tryd.sizeOf50, v31 := Tryd.zeroValue50, t46 := Tryd.underlying83, a46 := Tryd.isAgg83, z46 := Tryd.sizeOf83, v46 := Tryd.zeroValue83, t51 := Tryd.underlying101, a51 := Tryd.isAgg101, z51 := Tryd.sizeOf101, v51 := Tryd.zeroValue101, t53 := Tryd.underlying103, a53 := Tryd.isAgg103, z53 := Tryd.sizeOf103, v53 := Tryd.zeroValue103, t131 := Tryd.underlying98, a131 := Tryd.isAgg98, z131 := Tryd.sizeOf98, v131 := Tryd.zeroValue98, t182 := Tryd.underlying92, a182 := Tryd.isAgg92, z182 := Tryd.sizeOf92, v182 := Tryd.zeroValue92, t183 := Tryd.underlying93, a183 := Tryd.isAgg93, z183 := Tryd.sizeOf93, v183 := Tryd.zeroValue93, t218 := Tryd.underlying111, a218 := Tryd.isAgg111, z218 := Tryd.sizeOf111, v218 := Tryd.zeroValue111, t222 := Tryd.underlying115, a222 := Tryd.isAgg115, z222 := Tryd.sizeOf115, v222 := Tryd.zeroValue115, t228 := Tryd.underlying117, a228 := Tryd.isAgg117, z228 := Tryd.sizeOf117, v228 := Tryd.zeroValue117, t229 := Tryd.underlying106, a229 := Tryd.isAgg106, z229 := Tryd.sizeOf106, v229 := Tryd.zeroValue106 }
def renK : Ren := { f := fun x => match x with | 194 => 26 | n => n, t := fun x => match x with | 31 => 50 | 9 => 9 | 3 => 3 | 4 => 4 | 0 => 0 | n => n, g := fun x => x }
theorem laysK : Lays.n194 Tryd.prog renK :=
  { mixed := by kernel_rfl, f194 := Tryd.func26.trans (congrArg some (by kernel_rfl)), t0 := Tryd.underlying0, a0 := Tryd.isAgg0, z0 := Tryd.sizeOf0, v0 := Tryd.zeroValue0, t3 := Tryd.underlying3, a3 := Tryd.isAgg3, z3 := Tryd.sizeOf3, v3 := Tryd.zeroValue3, t4 := Tryd.underlying4, a4 := Tryd.isAgg4, z4 := Tryd.sizeOf4, v4 := Tryd.zeroValue4, t9 := Tryd.underlying9, a9 := Tryd.isAgg9, z9 := Tryd.sizeOf9, v9 := Tryd.zeroValue9, t31 := Tryd.underlying50, a31 := Tryd.isAgg50, z31 := Tryd.sizeOf50, v31 := Tryd.zeroValue50 }
end Go.Proofs.YtpdhmjjmpofphaaDoor

/- What the program's addNames and Refs do. -/
namespace Go.Proofs.YtpdhmjjmpofphaaDoor
open Go.RowKit Go.Lib
set_option linter.unusedSimpArgs false
set_option linter.unusedVariables false
attribute [local go_sem ↓] Go.wp_at_zero Go.wp_at_succ

theorem cell_al2 {w : World} {p : Addr} {v : Value} {O : Obj} (h : w.cell? p = some v) : (w.alloc O).cell? p = some v := (((Below.refl w.heap.size w).alloc (Nat.le_refl _) O).cell (World.block_lt_of_cell? w _ h)).trans h
theorem cS_enc (ls : List ByteArray) : (ls.map bl).map encStr = cS ls := map_encStr ls
/-- Nothing has turned but the row of v, and new blocks; the row is where it was, or new. -/
structure Fr (w w' : World) (v u : Value) : Prop where
  grown : w.grownBy w' v.ownBlock
  lies : ∀ g, u.ownBlock = some g → v.ownBlock = some g ∨ w.heap.size ≤ g
theorem Fr.of {w w' : World} {B : Nat} (h : Below B w w') (hB : w.heap.size ≤ B) (v : Value) : Fr w w' v v := ⟨⟨h.os, h.tape, h.output, h.size, fun k hk _ => h.block k (by omega)⟩, fun g hg => .inl hg⟩
theorem Fr.trans {w w1 w2 : World} {v u t : Value} (h : Fr w w1 v u) (k : Fr w1 w2 u t) : Fr w w2 v t := by
  refine ⟨⟨k.grown.os.trans h.grown.os, k.grown.tape.trans h.grown.tape, k.grown.output.trans h.grown.output, Nat.le_trans h.grown.size k.grown.size, fun j hj hne => ?_⟩, fun g hg => ?_⟩
  · rw [k.grown.block j (Nat.lt_of_lt_of_le hj h.grown.size) (fun e => ?_), h.grown.block j hj hne]
    rcases h.lies j e.symm with q | q
    · exact hne q.symm
    · omega
  · rcases k.lies g hg with q | q
    · exact h.lies g q
    · exact .inr (Nat.le_trans h.grown.size q)
theorem Fr.below {w w' : World} {v u : Value} {B : Nat} (h : Fr w w' v u) (hB : B ≤ w.heap.size) (hv : ∀ g, v.ownBlock = some g → B ≤ g) : Below B w w' := (Below.refl B w).grown h.grown hB (fun k hk => hv k hk)
theorem Kids.fr {w w' : World} {v u sl : Value} {l : List Value} (h : Kids w sl l) (f : Fr w w' v u) (ho : ∀ g, v.ownBlock = some g → sl.ownBlock = some g → False) : Kids w' sl l := by
  rcases h with h | ⟨g, hv, hc⟩
  · exact .inl h
  · refine .inr ⟨g, hv, fun i hi => ?_⟩
    refine f.grown.cell (hc i hi) (fun e => ?_)
    subst hv
    exact ho g e.symm rfl
/-- Apart still, behind the row's growth. -/
theorem apart_fr {w w' : World} {v u sl : Value} {l : List Value} (h : Kids w sl l) (hl : l ≠ []) (f : Fr w w' v u) (ho : ∀ g, v.ownBlock = some g → sl.ownBlock = some g → False) : ∀ g, u.ownBlock = some g → sl.ownBlock = some g → False := by
  intro g h1 h2
  rcases f.lies g h1 with q | q
  · exact ho g q h2
  · rcases h with ⟨_, e⟩ | ⟨g', rfl, hc⟩
    · exact hl e
    · have e1 : g' = g := by simpa [Value.ownBlock] using h2
      subst e1
      cases l with
      | nil => exact hl rfl
      | cons x r =>
        have := World.block_lt_of_cell? w _ (hc 0 (by simp))
        simp only at this
        omega

theorem pSort_any {base : Nat} (ls : List ByteArray) (v : Value) (w : World) (h : w.ownsRow base 9 1 v ls.length (cS ls)) (hl : ls.length ≤ 1000) :
    Calls Tryd.prog 25 #[v] w fun e w' => e = .returned (.tuple #[]) ∧ w'.ownsRow base 9 1 v ((ls.map bl).mergeSort lrB).length (((ls.map bl).mergeSort lrB).map encStr) ∧ Fr w w' v v := by
  have hlen : ((ls.map bl).mergeSort lrB).length = ls.length := by simp
  rcases h.2 with ⟨rfl, h2⟩ | ⟨g, cap, cur, rfl, hbase, hb, h1, h2, h3, h4⟩
  · have hx : ls = [] := List.eq_nil_of_length_eq_zero h2
    subst hx
    refine (Any.slices_Sort_string_none laysS none 0 w).mono ?_
    rintro e w' ⟨rfl, rfl⟩
    exact ⟨rfl, by simpa using World.ownsRow_nil w' base 9 1, Fr.of (Below.refl _ _) (Nat.le_refl _) _⟩
  · have hh : Sort.Holds encStr w g 0 (ls.map bl).toArray := holds_of_block hb (by rw [cS_enc, List.length_map]; simpa using h4)
    have hc := Any.slices_Sort_string laysS g 0 cap (ls.map bl) w hh (Array.getElem?_eq_some_iff.1 hb).1 (by simp; omega)
    rw [List.length_map] at hc
    refine Calls.mono hc ?_
    rintro e w' ⟨rfl, n, os, rfl⟩
    refine ⟨rfl, ?_, grownBy_sorted _, fun g hg => .inl hg⟩
    have := ownsRow_sorted (n := n) (os := os) (ss := ls.map bl) (ts := (ls.map bl).mergeSort lrB) (by simp) hbase hb (by simpa using h1) h2 h3
    rw [List.length_map, ← hlen] at this
    rw [hlen]
    rw [hlen] at this
    exact this
theorem comp_len (zs : List Bs) : (compact zs).length ≤ zs.length := by
  unfold compact compactUpTo
  rw [List.length_map]
  have := List.length_filter_le (keeps zs.toArray) (List.range zs.length)
  simpa using this
theorem pCompact_any {base : Nat} (zs : List Bs) (v : Value) (w : World) (h : w.ownsRow base 9 1 v zs.length (zs.map encStr)) (hl : zs.length ≤ 1000) :
    Calls Tryd.prog 26 #[v] w fun e w' => ∃ u, e = .returned u ∧ w'.ownsRow base 9 1 u (compact zs).length ((compact zs).map encStr) ∧ Fr w w' v u := by
  by_cases hv : v = .slice none 0 0
  · subst hv
    have hz : zs = [] := by
      rcases h.2 with ⟨_, h2⟩ | ⟨g, cap, cur, h0, _⟩
      · exact List.eq_nil_of_length_eq_zero h2
      · cases h0
    subst hz
    refine (Any.slices_Compact_string_empty laysK none 0 w).mono ?_
    rintro e w' ⟨rfl, rfl⟩
    exact ⟨_, rfl, by simpa [compact, compactUpTo] using World.ownsRow_nil w' base 9 1, Fr.of (Below.refl _ _) (Nat.le_refl _) _⟩
  · obtain ⟨g, cap, rfl, hbase, hg, h1, h2, h3, hH⟩ := holds_of_ownsRow h hv
    refine (Any.slices_Compact_string laysK g 0 cap zs w hH (by omega) h1).mono ?_
    rintro e w' ⟨rfl, q, rfl⟩
    have hcl := comp_len zs
    have := ownsRow_putRow (q := q) (k := (compact zs).length) (ys := compact zs ++ List.replicate (zs.length - (compact zs).length) []) h (by simp; omega) hcl
    rw [List.take_left] at this
    refine ⟨_, rfl, this, ⟨rfl, rfl, rfl, by simp [Sort.putRow, Sort.mapBlock, Sort.ahead], fun k hk hne => ?_⟩, fun g hg => .inl hg⟩
    have : g ≠ k := fun e => hne (by rw [e]; rfl)
    simp [Sort.putRow, Sort.mapBlock, Sort.ahead, Array.getElem?_modify, this]

def AddC (d : Nat) : Prop := ∀ (base : Nat) (t : T d) (ls : List ByteArray) (v : Value) (w : World), Cl d t → shrt 1000 d t = true → w.ownsRow base 9 1 v ls.length (cS ls) → base ≤ w.heap.size → ls.length + cnt d t ≤ 1000 →
  Calls Tryd.prog 24 #[v, exV d t] w fun e w' => ∃ u, e = .returned u ∧ w'.ownsRow base 9 1 u (ls ++ nmC d t).length (cS (ls ++ nmC d t)) ∧ Fr w w' v u
set_option maxRecDepth 100000 in
set_option maxHeartbeats 4000000 in
theorem add_step (d : Nat) (IH : AddC d) : AddC (d + 1) := by
  intro base t ls v w hc hs hown hbase hlen
  obtain ⟨i0, hi, hz0, hz1, hz2⟩ := info_parts Tryd.infoStr
  obtain ⟨k, n, s, ps, rfl, htop⟩ := topN_any hc
  rw [shrt_mk] at hs
  simp only [Bool.and_eq_true, decide_eq_true_eq, List.all_eq_true] at hs
  obtain ⟨hs1, hs2⟩ := hs
  rw [cnt_mk] at hlen
  obtain ⟨x, hx⟩ : ∃ x, exV (d + 1) (mkT k n s ps) = x := ⟨_, rfl⟩
  obtain ⟨L, hL⟩ : ∃ L, ps.map (exV d) = L := ⟨_, rfl⟩
  rw [hx, hL] at htop
  rw [hx, nmC_mk]
  have hCl := fun w1 => pClone_any s w1 (by omega)
  have hLl : Hid (L.length = ps.length) := by rw [← hL]; show _ = _; simp
  by_cases k2 : k = 2
  · subst k2
    rw [if_pos rfl]
    have hps : ps = [] := by
      rcases hc with ⟨h1, _, _⟩ | ⟨_, _, h3⟩ | ⟨h1, _, _, _⟩ | ⟨h1, _⟩ | ⟨h1, _⟩
      · simp at h1
      · exact h3
      · simp at h1
      · simp at h1
      · simp at h1
    subst hps
    simp only [List.map_nil] at hL
    subst hL
    simp only [List.map_nil, List.flatten_nil, List.append_nil, List.sum_nil] at hlen ⊢
    have hbg : ∀ g, v.ownBlock = some g → g < w.heap.size := fun g hg => (World.ownsRow.lt hown g hg).2
    clear hc hs2 IH hLl
    go_enter Tryd.func24, Tryd.ntmps24
    go_wp2_with (first
      | (go_at_call 34; refine (htop _).mono ?_; rintro e w1 ⟨sl, rfl, hk1, b1⟩; obtain ⟨a1, rfl⟩ := hk1.1.form; have b2 := b1.alloc b1.size (.cells #[.int .i64 2, .int .i64 n, .string s, .slice a1 0 0] 77); have hA := At4.new w1 (.int .i64 2) (.int .i64 n) (.string s) (.slice a1 0 0) 77)
      | (go_at_call 36; refine (hCl _).mono ?_; rintro e w2 ⟨rfl, b3⟩; have b4 := b2.trans (b3.mono b2.size); have hA2 := hA.keepB b3 (by simp); have ho2 := own_on hown b4 (Nat.le_refl _))
      | (at_builtin; refine wpList_append_at _ rfl (.tmp 13) (.tmp 17) 50 50 rfl base 9 i0 (.string ⟨#[]⟩) 1 16 Tryd.underlying50 hi hz0 hz1 hz2 rfl v ls.length _ rfl (World.ownsRow.alloc ho2 _) _ 1 (cS [s]) rfl (src_texts Tryd.underlying50 rfl (fun i hi => by match i, hi with | 0, _ => simp [Addr.add])) 1 (.inr (by omega)) (Nat.le_refl _) (by unfold maxLen; omega) (by have := b4.size; simp; omega) ?_; intro v5 w5 ho5 hg5 hl5; have x3 := hg5.cell (cell_al2 hA2.2.2.2) (by intro e; have := hbg _ e.symm; have := b1.size; simp only at *; omega)))
    have hF : Fr w w5 v v5 := (Fr.of (b4.alloc b4.size (.cells #[.string s] 9)) (Nat.le_refl _) v).trans ⟨hg5, fun g hg => by
      rcases hl5 with q | q
      · exact .inl (by rw [← q]; exact hg)
      · rw [q] at hg; exact .inr (by simp at hg; simp; omega)⟩
    rw [← cS_append] at ho5
    clear hg5 hl5 ho2 hA2 hA b1 b2 b3 b4 hk1 htop hCl
    refine wp_loop_rounds 1 ?_
    rw [rounds_succ]
    go_wp2
    go_ret
    refine ⟨_, rfl, ?_, hF⟩
    rw [List.length_append]
    exact ho5
  · rw [if_neg k2, List.nil_append]
    have e2 : (k == 2) = false := beq_eq_false_iff_ne.2 k2
    have hkid : Hid (∀ (j : Nat) (h : j < L.length) (h' : j < ps.length) (cur : List ByteArray) (p : Value) (w1 : World), w1.ownsRow base 9 1 p cur.length (cS cur) → base ≤ w1.heap.size → cur.length + cnt d ps[j] ≤ 1000 →
        Calls Tryd.prog 24 #[p, L[j]] w1 fun e w' => ∃ u, e = .returned u ∧ w'.ownsRow base 9 1 u (cur ++ nmC d ps[j]).length (cS (cur ++ nmC d ps[j])) ∧ Fr w1 w' p u) :=
      fun j h h' cur p w1 q1 q2 q3 => by
        have := IH base ps[j] cur p w1 ((Cl.parts hc).2 _ (List.getElem_mem h')) (hs2 _ (List.getElem_mem h')) q1 q2 q3
        subst hL
        simpa using this
    have hL2 : L.length ≤ 2 := by rw [← hL]; simpa using (Cl.parts hc).1
    have HLE : Hid (ls.length + ((ps.drop 0).map (cnt d)).sum ≤ 1000) := by rw [List.drop_zero]; show _ ≤ _; omega
    have hbg : ∀ g, v.ownBlock = some g → g < w.heap.size := fun g hg => (World.ownsRow.lt hown g hg).2
    obtain ⟨R, hR⟩ : ∃ R, ls ++ (ps.map (nmC d)).flatten = R := ⟨_, rfl⟩
    rw [hR]
    have HR : Hid (ls ++ (ps.map (nmC d)).flatten = R) := hR
    clear hc hs2 IH hL hx hR hCl hlen
    go_enter Tryd.func24, Tryd.ntmps24
    go_wp2_with (first
      | (go_at_call 34; refine (htop _).mono ?_; rintro e w1 ⟨sl, rfl, hk1, b1⟩; obtain ⟨a1, rfl⟩ := hk1.1.form))
    have b2 := b1.alloc b1.size (.cells #[.int .i64 k, .int .i64 n, .string s, .slice a1 L.length L.length] 77)
    have hK0 := hk1.1.below ((Below.refl _ w1).alloc (Nat.le_refl _) (.cells #[.int .i64 k, .int .i64 n, .string s, .slice a1 L.length L.length] 77)) (Nat.le_refl _)
    go_loopw [0, 22] (fun p i wr => ∃ (j : Nat) (cur : List ByteArray), j ≤ L.length ∧ i = .int .i64 (j : Int) ∧ wr.ownsRow base 9 1 p cur.length (cS cur) ∧ Hid (cur = ls ++ ((ps.take j).map (nmC d)).flatten) ∧ Hid (cur.length + ((ps.drop j).map (cnt d)).sum ≤ 1000) ∧ Hid (Kids wr (.slice a1 L.length L.length) L) ∧ Hid (∀ g, p.ownBlock = some g → (Value.slice a1 L.length L.length).ownBlock = some g → False) ∧ Hid (Fr w wr v p)) (fun _ i _ => L.length - (RowKit.intOf i).toNat)
    case atStart =>
      refine ⟨0, ls, Nat.zero_le _, rfl, own_on hown b2 (Nat.le_refl _), by show _ = _; simp, HLE, hK0, fun g h1 h2 => ?_, Fr.of b2 (Nat.le_refl _) v⟩
      have q1 := hbg g h1
      have q2 := hk1.2 g h2
      omega
    case round =>
      obtain ⟨j, cur, hj, rfl, ho, hcur, hln, hK, hA, hF⟩ := hrel
      have i2 : (0 : Int) ≤ (j : Int) := by omega
      by_cases hlt : j < L.length
      · have i3 : (j : Int) < (L.length : Int) := by omega
        have hll := hLl.out
        have hjp : j < ps.length := by omega
        obtain ⟨gg, hgg, hcell⟩ := hK.out.at hlt
        have hl2 := hln.out
        rw [List.drop_eq_getElem_cons hjp, List.map_cons, List.sum_cons] at hl2
        have hc2 := hkid.out j hlt hjp cur u0 wr ho (Nat.le_trans hbase hF.out.grown.size) (by omega)
        have hnl := nm_len d ps[j]
        have hnx : Hid (cur ++ nmC d ps[j] = ls ++ ((ps.take (j + 1)).map (nmC d)).flatten) := by
          show _ = _
          rw [hcur.out, List.take_succ_eq_append_getElem hjp, List.map_append, List.flatten_append, List.map_singleton, List.flatten_singleton, List.append_assoc]
        have hln2 : Hid ((cur ++ nmC d ps[j]).length + ((ps.drop (j + 1)).map (cnt d)).sum ≤ 1000) := by
          show _ ≤ _; rw [List.length_append]; omega
        have hLne : Hid (L ≠ []) := fun e => by rw [e] at hlt; simp at hlt
        obtain ⟨z, hz⟩ : ∃ z, L[j] = z := ⟨_, rfl⟩
        obtain ⟨N, hN⟩ : ∃ N, cur ++ nmC d ps[j] = N := ⟨_, rfl⟩
        rw [hz] at hcell hc2
        simp only [hN] at hc2 hnx hln2
        subst hgg
        clear hz hN hll hl2 hnl
        go_wp2_with (first
          | (go_at_call 24; refine hc2.mono ?_; rintro e w3 ⟨u, rfl, ho3, hf3⟩))
        have hK3 : Hid _ := hK.out.fr hf3 hA.out
        have hA3 : Hid _ := apart_fr hK.out hLne.out hf3 hA.out
        have hF3 : Hid (Fr w w3 v u) := hF.out.trans hf3
        go_roundw
        case rel => exact ⟨j + 1, N, hlt, by go_num, ho3, hnx, hln2, hK3, hA3, hF3⟩
        case measure => simp [RowKit.intOf]; omega
      · have i3 : ¬ (j : Int) < (L.length : Int) := by omega
        have hE : cur = R := by
          have hll := hLl.out
          rw [hcur.out, ← HR.out, List.take_of_length_le (by omega)]
        subst hE
        go_wp2
        go_ret
        exact ⟨_, rfl, ho, hF.out⟩
theorem add_any2 : ∀ (d : Nat), AddC d
  | 0 => fun _ t => Empty.elim t
  | d + 1 => add_step d (add_any2 d)

set_option maxHeartbeats 2000000 in
theorem refs_anyP {d : Nat} {t : T d} (w : World) (hc : Cl d t) (hn : cnt d t ≤ 1000) (hs : shrt 1000 d t = true) :
    Calls Tryd.prog 14 #[exV d t] w fun e w' => ∃ u, e = .returned u ∧ RdS w' u (rfT d t) ∧ Below w.heap.size w w' := by
  have h1 := formedP d t w hc (by omega) hs
  have h2 := fun w1 (b : w.heap.size ≤ w1.heap.size) => add_any2 d w.heap.size t [] (.slice none 0 0) w1 hc hs (World.ownsRow_nil w1 _ 9 1) b (by simpa using hn)
  have hnl := nm_len d t
  have hnm := rf_nm d t []
  unfold rfT
  obtain ⟨x, hx⟩ : ∃ x, exV d t = x := ⟨_, rfl⟩
  rw [hx] at h1 ⊢
  simp only [hx, List.nil_append] at h2
  cases hf : fmC d t with
  | false =>
    rw [hf] at h1
    rw [if_neg (by decide)]
    clear h2 hc hn hs hf hx
    go_enter Tryd.func14, Tryd.ntmps14
    go_wp2_with (first
      | (go_at_call 13; refine h1.mono ?_; rintro e w1 ⟨rfl, b1⟩))
    go_ret
    exact ⟨_, rfl, rdS_nil _, b1⟩
  | true =>
    rw [hf] at h1
    rw [if_pos rfl, hnm]
    obtain ⟨N, hN⟩ : ∃ N, nmC d t = N := ⟨_, rfl⟩
    rw [hN] at hnl ⊢
    simp only [hN] at h2
    have hsn := sort_names N
    have h3 := fun v w1 q => pSort_any (base := w.heap.size) N v w1 q (by omega)
    obtain ⟨Z, hZ⟩ : ∃ Z, (N.map bl).mergeSort lrB = Z := ⟨_, rfl⟩
    have hZl : Z.length ≤ 1000 := by rw [← hZ]; simp; omega
    rw [hZ] at hsn
    simp only [hZ] at h3
    have h4 := fun v w1 q => pCompact_any (base := w.heap.size) Z v w1 q hZl
    clear hc hn hs hf hx hnm hN hZ hnl
    go_enter Tryd.func14, Tryd.ntmps14
    go_wp2_with (first
      | (go_at_call 13; refine h1.mono ?_; rintro e w1 ⟨rfl, b1⟩; have h2' := h2 w1 b1.size)
      | (go_at_call 24; refine h2'.mono ?_; rintro e w2 ⟨u2, rfl, ho2, hf2⟩; have h3' := h3 u2 w2 ho2)
      | (go_at_call 25; refine h3'.mono ?_; rintro e w3 ⟨rfl, ho3, hf3⟩; have h4' := h4 u2 w3 ho3)
      | (go_at_call 26; refine h4'.mono ?_; rintro e w4 ⟨u4, rfl, ho4, hf4⟩))
    go_ret
    have hF := (hf2.trans hf3).trans hf4
    refine ⟨_, rfl, ?_, b1.trans ((hF.below (B := w.heap.size) b1.size (fun g hg => by cases hg)))⟩
    rw [hsn, cS_enc, List.length_map] at ho4
    exact ownsRow_zero ho4
end Go.Proofs.YtpdhmjjmpofphaaDoor

/- What Theirs makes of a tree. -/
namespace Go.Proofs.YtpdhmjjmpofphaaDoor
open Go.RowKit
set_option linter.unusedSimpArgs false
set_option linter.unusedVariables false
attribute [local go_sem ↓] Go.wp_at_zero Go.wp_at_succ

def TheirsC (d : Nat) : Prop := ∀ (ok : Nat → Prop) (t : T d) (v : Value) (w : World), RdT ok w d t v → Calls Tryd.prog 7 #[v] w fun e w' => e = .returned (exV d t) ∧ Below w.heap.size w w'

theorem part_any {ok : Nat → Prop} {d : Nat} (IH : TheirsC d) (X i : Nat) (k n : Int) (s : ByteArray) (sl : Value) (ps : List (T d)) (w : World) (hA : At4 w X (.int .i64 k) (.int .i64 n) (.string s) sl) (hp : RdP ok w (RdT ok w d) ps sl) :
    Calls Tryd.prog 17 #[.int .i64 (i : Int), .pointer (some ⟨X, 0, none⟩)] w fun e w' => e = .returned (exP ps i) ∧ Below w.heap.size w w' := by
  obtain ⟨a, cap, rfl, hlc, hcm, hcell⟩ := hp.form
  obtain ⟨y0, y1, y2, y3⟩ := id hA
  by_cases hlt : i < ps.length
  · obtain ⟨b, off, c0, c1, c2, c3, rfl, hbl, hr, k0, k1, k2, k3⟩ := hcell i hlt
    have hcall := IH ok ps[i] _ w hr
    have he : exP ps i = exV d ps[i] := by unfold exP; rw [List.getD_eq_getElem?_getD, List.getElem?_map, List.getElem?_eq_getElem hlt]; rfl
    rw [he]
    have i1 : (i : Int) < (ps.length : Int) := by omega
    have i2 : (0 : Int) ≤ (i : Int) := by omega
    clear he hcell hr hp
    go_enter Tryd.func17, Tryd.ntmps17
    go_wp2_with (first
      | (go_at_call 7; refine hcall.mono ?_; rintro e w1 ⟨rfl, b1⟩))
    go_ret
    exact ⟨rfl, b1⟩
  · have he : exP ps i = .nilIface := by unfold exP; rw [List.getD_eq_getElem?_getD, List.getElem?_eq_none (by simp; omega)]; rfl
    rw [he]
    have i1 : ¬ (i : Int) < (ps.length : Int) := by omega
    clear he hcell hp
    go_enter Tryd.func17, Tryd.ntmps17
    go_wp2
    go_ret
    exact ⟨rfl, Below.refl _ _⟩

set_option maxRecDepth 100000 in
set_option maxHeartbeats 1000000 in
theorem theirs_step (d : Nat) (IH : TheirsC d) : TheirsC (d + 1) := by
  intro ok t v w h
  obtain ⟨k, n, s, ps, rfl⟩ := T.open t
  obtain ⟨sl, rfl, hp⟩ := rdT_mk.1 h
  rw [exV_mk]
  have hb0 := (Below.refl w.heap.size w).alloc (Nat.le_refl _) (.cells #[.int .i64 k, .int .i64 n, .string s, sl] 24)
  have hA := At4.new w (.int .i64 k) (.int .i64 n) (.string s) sl 24
  have hp0 : RdP ok (w.alloc (.cells #[.int .i64 k, .int .i64 n, .string s, sl] 24)) (RdT ok (w.alloc (.cells #[.int .i64 k, .int .i64 n, .string s, sl] 24)) d) ps sl := hp.below hb0 (Nat.le_refl _)
  have h0 := part_any IH w.heap.size 0 k n s sl ps _ hA hp0
  have h1 := fun w1 (b1 : Below (w.alloc (.cells #[.int .i64 k, .int .i64 n, .string s, sl] 24)).heap.size (w.alloc (.cells #[.int .i64 k, .int .i64 n, .string s, sl] 24)) w1) =>
    part_any IH w.heap.size 1 k n s sl ps w1 (hA.keepB b1 (by simp)) (hp0.below b1 (Nat.le_refl _))
  have hmf : ∀ (fn : Fn) (first cap : Array Value) (w : World), (Instr.makeFunc fn first cap).run Tryd.prog w = .ok (.func fn first cap) w := fun _ _ _ _ => rfl
  by_cases k1 : k = 1
  · subst k1
    rw [if_pos rfl]
    clear h0 h1 hp0 hA hp h
    go_enter Tryd.func7, Tryd.ntmps7
    go_wp2
    go_ret
    exact ⟨rfl, hb0⟩
  rw [if_neg k1]
  have e1 : (k == 1) = false := beq_eq_false_iff_ne.2 k1
  by_cases k2 : k = 2
  · subst k2
    rw [if_pos rfl]
    clear h0 h1 hp0 hA hp h k1 e1
    go_enter Tryd.func7, Tryd.ntmps7
    go_wp2
    go_ret
    exact ⟨rfl, hb0⟩
  rw [if_neg k2]
  have e2 : (k == 2) = false := beq_eq_false_iff_ne.2 k2
  by_cases k3 : k = 3
  · subst k3
    rw [if_pos rfl]
    have hf := exP_form ps 0
    obtain ⟨x0, hx0⟩ : ∃ x, exP ps 0 = x := ⟨_, rfl⟩
    rw [hx0] at h0 hf ⊢
    clear h1 hp0 hA hp h k1 k2 e1 e2 hx0
    rcases hf with rfl | ⟨u, x, rfl⟩
    · go_enter Tryd.func7, Tryd.ntmps7
      go_wp2_with (first
        | (go_at_call 17; refine h0.mono ?_; rintro e w1 ⟨rfl, b1⟩))
      go_ret
      exact ⟨rfl, hb0.trans (b1.mono hb0.size)⟩
    · go_enter Tryd.func7, Tryd.ntmps7
      go_wp2_with (first
        | (go_at_call 17; refine h0.mono ?_; rintro e w1 ⟨rfl, b1⟩))
      go_ret
      exact ⟨rfl, hb0.trans (b1.mono hb0.size)⟩
  rw [if_neg k3]
  have e3 : (k == 3) = false := beq_eq_false_iff_ne.2 k3
  by_cases k4 : k = 4
  · subst k4
    rw [if_pos rfl]
    have hf := exP_form ps 0
    obtain ⟨x0, hx0⟩ : ∃ x, exP ps 0 = x := ⟨_, rfl⟩
    rw [hx0] at h0 hf ⊢
    clear h1 hp0 hA hp h k1 k2 k3 e1 e2 e3 hx0
    rcases hf with rfl | ⟨u, x, rfl⟩
    · go_enter Tryd.func7, Tryd.ntmps7
      go_wp2_with (first
        | (go_at_call 17; refine h0.mono ?_; rintro e w1 ⟨rfl, b1⟩))
      go_ret
      exact ⟨rfl, hb0.trans (b1.mono hb0.size)⟩
    · go_enter Tryd.func7, Tryd.ntmps7
      go_wp2_with (first
        | (go_at_call 17; refine h0.mono ?_; rintro e w1 ⟨rfl, b1⟩))
      go_ret
      exact ⟨rfl, hb0.trans (b1.mono hb0.size)⟩
  rw [if_neg k4]
  have e4 : (k == 4) = false := beq_eq_false_iff_ne.2 k4
  by_cases k5 : k = 5
  · subst k5
    rw [if_pos rfl]
    have hf := exP_form ps 0
    have hg := exP_form ps 1
    have bd : Below (w.alloc (.cells #[.int .i64 5, .int .i64 n, .string s, sl] 24)).heap.size (w.alloc (.cells #[.int .i64 5, .int .i64 n, .string s, sl] 24)) (w.alloc (.cells #[.int .i64 5, .int .i64 n, .string s, sl] 24)).drew := (Below.refl _ _).drew
    have hA' := hA.keepB bd (by simp)
    have h0' := part_any IH w.heap.size 0 5 n s sl ps _ hA' (hp0.below bd (Nat.le_refl _))
    have c2 := hA'.2.2.1
    obtain ⟨x0, hx0⟩ : ∃ x, exP ps 0 = x := ⟨_, rfl⟩
    obtain ⟨x1, hx1⟩ : ∃ x, exP ps 1 = x := ⟨_, rfl⟩
    rw [hx0] at h0' hf ⊢
    rw [hx1] at hg ⊢
    simp only [hx1] at h1
    clear h0 hp0 hp h k1 k2 k3 k4 hx0 hx1 e1 e2 e3 e4
    rcases hf with rfl | ⟨u, x, rfl⟩
    · rcases hg with rfl | ⟨u', x', rfl⟩
      ·
        go_enter Tryd.func7, Tryd.ntmps7
        go_wp2
        go_region_held (fun w' => w'.cell? ⟨w.heap.size, 2, none⟩ = some (.string s)) (first | exact c2 | exact d2 | exact f2 | go_keep)
          (first
            | (go_at_call 17; refine h1'.mono ?_; rintro e w2 ⟨rfl, b2⟩; have bb := bx.trans (b2.mono bx.size); have f2 := (hA1.keepB b2 (World.block_lt_of_cell? w1 _ hA1.1)).2.2.1; clear h1')
            | (go_at_call 17; refine h0'.mono ?_; rintro e w1 ⟨rfl, b1⟩; have bx := (hb0.drew).trans (b1.mono (by simp)); have hA1 := hA'.keepB b1 (World.block_lt_of_cell? _ _ hA'.1); have d2 := hA1.2.2.1; have h1' := h1 w1 (bd.trans b1); clear h0'))
        go_wp2
        go_ret
        exact ⟨rfl, bb⟩
      ·
        go_enter Tryd.func7, Tryd.ntmps7
        go_wp2
        go_region_held (fun w' => w'.cell? ⟨w.heap.size, 2, none⟩ = some (.string s)) (first | exact c2 | exact d2 | exact f2 | go_keep)
          (first
            | (go_at_call 17; refine h1'.mono ?_; rintro e w2 ⟨rfl, b2⟩; have bb := bx.trans (b2.mono bx.size); have f2 := (hA1.keepB b2 (World.block_lt_of_cell? w1 _ hA1.1)).2.2.1; clear h1')
            | (go_at_call 17; refine h0'.mono ?_; rintro e w1 ⟨rfl, b1⟩; have bx := (hb0.drew).trans (b1.mono (by simp)); have hA1 := hA'.keepB b1 (World.block_lt_of_cell? _ _ hA'.1); have d2 := hA1.2.2.1; have h1' := h1 w1 (bd.trans b1); clear h0'))
        go_wp2
        go_ret
        exact ⟨rfl, bb⟩
    · rcases hg with rfl | ⟨u', x', rfl⟩
      ·
        go_enter Tryd.func7, Tryd.ntmps7
        go_wp2
        go_region_held (fun w' => w'.cell? ⟨w.heap.size, 2, none⟩ = some (.string s)) (first | exact c2 | exact d2 | exact f2 | go_keep)
          (first
            | (go_at_call 17; refine h1'.mono ?_; rintro e w2 ⟨rfl, b2⟩; have bb := bx.trans (b2.mono bx.size); have f2 := (hA1.keepB b2 (World.block_lt_of_cell? w1 _ hA1.1)).2.2.1; clear h1')
            | (go_at_call 17; refine h0'.mono ?_; rintro e w1 ⟨rfl, b1⟩; have bx := (hb0.drew).trans (b1.mono (by simp)); have hA1 := hA'.keepB b1 (World.block_lt_of_cell? _ _ hA'.1); have d2 := hA1.2.2.1; have h1' := h1 w1 (bd.trans b1); clear h0'))
        go_wp2
        go_ret
        exact ⟨rfl, bb⟩
      ·
        go_enter Tryd.func7, Tryd.ntmps7
        go_wp2
        go_region_held (fun w' => w'.cell? ⟨w.heap.size, 2, none⟩ = some (.string s)) (first | exact c2 | exact d2 | exact f2 | go_keep)
          (first
            | (go_at_call 17; refine h1'.mono ?_; rintro e w2 ⟨rfl, b2⟩; have bb := bx.trans (b2.mono bx.size); have f2 := (hA1.keepB b2 (World.block_lt_of_cell? w1 _ hA1.1)).2.2.1; clear h1')
            | (go_at_call 17; refine h0'.mono ?_; rintro e w1 ⟨rfl, b1⟩; have bx := (hb0.drew).trans (b1.mono (by simp)); have hA1 := hA'.keepB b1 (World.block_lt_of_cell? _ _ hA'.1); have d2 := hA1.2.2.1; have h1' := h1 w1 (bd.trans b1); clear h0'))
        go_wp2
        go_ret
        exact ⟨rfl, bb⟩
  rw [if_neg k5]
  have e5 : (k == 5) = false := beq_eq_false_iff_ne.2 k5
  clear h0 h1 hp0 hA hp h
  go_enter Tryd.func7, Tryd.ntmps7
  go_wp2
  go_ret
  exact ⟨rfl, hb0⟩
theorem theirs_any : ∀ (d : Nat), TheirsC d
  | 0 => fun _ t => Empty.elim t
  | d + 1 => theirs_step d (theirs_any d)

/-- An expression is that of its clean tree. -/
theorem exV_cln : ∀ (d : Nat) (t : T d), exV (d + 1) (cln d t) = exV d t
  | 0, t => Empty.elim t
  | d + 1, t => by
    obtain ⟨k, n, s, ps, rfl⟩ := T.open t
    have hp : ∀ i, exV (d + 1) (prt ps i) = exP ps i := fun i => by
      unfold prt exP
      rw [List.getD_eq_getElem?_getD, List.getElem?_map]
      cases ps[i]? with
      | none => rfl
      | some p => exact exV_cln d p
    rw [cln_mk, exV_mk]
    by_cases k1 : k = 1
    · rw [if_pos k1, if_pos k1]; rfl
    rw [if_neg k1, if_neg k1]
    by_cases k2 : k = 2
    · rw [if_pos k2, if_pos k2]; rfl
    rw [if_neg k2, if_neg k2]
    by_cases k3 : k = 3
    · rw [if_pos k3, if_pos k3, exV_mk, ← hp]; rfl
    rw [if_neg k3, if_neg k3]
    by_cases k4 : k = 4
    · rw [if_pos k4, if_pos k4, exV_mk, ← hp]; rfl
    rw [if_neg k4, if_neg k4]
    by_cases k5 : k = 5
    · rw [if_pos k5, if_pos k5, exV_mk, ← hp, ← hp]; rfl
    rw [if_neg k5, if_neg k5]
    rfl
end Go.Proofs.YtpdhmjjmpofphaaDoor
