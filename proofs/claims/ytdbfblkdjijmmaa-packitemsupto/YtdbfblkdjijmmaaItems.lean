/- Lists of items in memory, three cells each; what reading so many of them from bytes gives. -/
import Derived.Test.YtdbfblkdjijmmaaTakeI
namespace Go.Proofs.Ytdbfblkdjijmmaa
open Go.RowKit
set_option linter.unusedSimpArgs false
set_option linter.unusedVariables false

def cel (x : It) : List Value := [.bool x.1, .int .i64 x.2.1, .string x.2.2]
def cels (l : List It) : List Value := l.flatMap cel
theorem cels_length (l : List It) : (cels l).length = l.length * 3 := by
  induction l with
  | nil => rfl
  | cons x r ih => simp only [cels, List.flatMap_cons, List.length_append, List.length_cons] at ih ⊢; rw [ih]; simp [cel]; omega
theorem cels_snoc (l : List It) (x : It) : cels (l ++ [x]) = cels l ++ cel x := by simp [cels]
/-- The slice value v is the call's own, from block base on, and holds the items l. -/
def OwnI (w : World) (base e : Nat) (v : Value) (l : List It) : Prop := w.ownsRow base e 3 v l.length (cels l)
theorem ownI_nil (w : World) (base e : Nat) : OwnI w base e (.slice none 0 0) [] := World.ownsRow_nil w base e 3

theorem OwnI.below {w w' : World} {base e : Nat} {v : Value} {l : List It} {B : Nat} (h : OwnI w base e v l) (hb : Below B w w') (hB : w.heap.size ≤ B) : OwnI w' base e v l := by
  refine ⟨h.1, ?_⟩
  rcases h.2 with hn | ⟨g, cap, cur, rfl, hbg, hg, rest⟩
  · exact .inl hn
  · refine .inr ⟨g, cap, cur, rfl, hbg, ?_, rest⟩
    rw [hb.block g (by have := (Array.getElem?_eq_some_iff.1 hg).1; omega)]
    exact hg

theorem src_item {P : Program} {t e : TypeId} (ht : P.underlying t = some (.slice e)) (w : World) (x : It) {H : Nat} (hH : w.heap.size = H) :
    Src P 3 t (.slice (some ⟨H, 0, none⟩) 1 1) 1 (cel x) (w.alloc (.cells #[.bool x.1, .int .i64 x.2.1, .string x.2.2] e)) := by
  subst hH
  have h := World.ownsRow_lit (base := w.heap.size) (e := e) (size := 3) w #[.bool x.1, .int .i64 x.2.1, .string x.2.2] 1 (Nat.le_refl _) (by simp [maxLen]) (by simp)
  exact Src.ofSlice _ ht _ 1 1 _ (by simp [cel]) (h.cells (g := w.heap.size) rfl) (by simp [cel, Value.oneCell'])
theorem ownI_snoc {w : World} {base e : Nat} {v : Value} {l : List It} {x : It} (h : w.ownsRow base e 3 v (l.length + 1) (cels l ++ cel x)) : OwnI w base e v (l ++ [x]) := by
  unfold OwnI
  rw [List.length_append, cels_snoc]
  exact h

/-- So many items, one behind the other; and what is left. -/
def rdN : Nat → List Int → Option (List It × List Int)
  | 0, bs => some ([], bs)
  | n + 1, bs => if (takeI bs).2.2 = true then (rdN n (bs.drop (takeI bs).2.1.toNat)).map (fun p => ((takeI bs).1 :: p.1, p.2)) else none
/-- With l ahead. -/
def ahead (l : List It) (o : Option (List It × List Int)) : Option (List It × List Int) := o.map fun p => (l ++ p.1, p.2)
theorem ahead_nil (o : Option (List It × List Int)) : ahead [] o = o := by cases o <;> simp [ahead]
theorem rdN_ok {n : Nat} {bs : List Int} {l : List It} (h : (takeI bs).2.2 = true) : ahead l (rdN (n + 1) bs) = ahead (l ++ [(takeI bs).1]) (rdN n (bs.drop (takeI bs).2.1.toNat)) := by
  simp only [rdN, h, if_true, ahead, Option.map_map]
  congr 1
  funext p
  simp
theorem rdN_not {n : Nat} {bs : List Int} {l : List It} (h : (takeI bs).2.2 = false) : ahead l (rdN (n + 1) bs) = none := by simp [rdN, h, ahead]
theorem rdN_zero {bs : List Int} {l : List It} : ahead l (rdN 0 bs) = some (l, bs) := by simp [rdN, ahead]

/-- All of it read: nothing may be left. -/
def whole : Option (List It × List Int) → Option (List It)
  | some (l, []) => some l
  | _ => none
/-- The items whose bytes these are. -/
def readS (bs : List Int) : Option (List It) :=
  if (takeN bs).2.2 = 0 ∧ 0 ≤ (takeN bs).1 ∧ (takeN bs).1 ≤ 4000 then whole (rdN (takeN bs).1.toNat (bs.drop (takeN bs).2.1.toNat)) else none
theorem readS_bad {bs : List Int} {n k e : Int} (h : (n, k, e) = takeN bs) (hb : ¬ (e = 0 ∧ 0 ≤ n ∧ n ≤ 4000)) : readS bs = none := by
  unfold readS; rw [← h]; exact if_neg hb
theorem readS_good {bs : List Int} {n k : Nat} (h : ((n : Int), (k : Int), (0 : Int)) = takeN bs) (hb : n ≤ 4000) : readS bs = whole (rdN n (bs.drop k)) := by
  unfold readS; rw [← h]; dsimp only; rw [if_pos ⟨rfl, by omega, by omega⟩]; rfl

theorem takeI_facts (bs : List Int) : 0 ≤ (takeI bs).2.1 ∧ (takeI bs).2.1 ≤ (bs.length : Int) ∧ ((takeI bs).2.2 = true → 1 ≤ (takeI bs).2.1) := by
  cases bs with
  | nil => simp [takeI]
  | cons c r =>
    have f1 := takeN_facts r
    have f2 := takeT_facts r
    by_cases c1 : c = 1
    · subst c1
      by_cases he : (takeN r).2.2 = 0
      · have := f1.2.2 he
        rw [takeI_num (n := (takeN r).1) (k := (takeN r).2.1) (by rw [← he])]
        simp only [List.length_cons]; omega
      · rw [takeI_numNot (n := (takeN r).1) (k := (takeN r).2.1) rfl he]; simp; omega
    · by_cases c2 : c = 2
      · subst c2
        by_cases he : (takeT r).2.2 = 0
        · rw [takeI_txt (t := (takeT r).1) (k := (takeT r).2.1) (by rw [← he])]
          simp only [List.length_cons]; omega
        · rw [takeI_txtNot (t := (takeT r).1) (k := (takeT r).2.1) rfl he]; simp; omega
      · rw [takeI_not c1 c2]; simp; omega

end Go.Proofs.Ytdbfblkdjijmmaa
