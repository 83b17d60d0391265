import Derived.Test.YtbccdkhbplmknaaWoc01
import Derived.Lib.ItoaNum
import Derived.BigQuiet
import Derived.Deep.QuietTactic
import Derived.BigRegion
import Derived.Deep.RegionHeldLaw
import Derived.Deep.DeepCutAuto

/- What the walks share: a text's bytes, names, numbers, signs, places, words in memory. -/
namespace Go.Proofs.Ytbccdkhbplmknaa
open Go.RowKit Go.Lib
set_option linter.unusedSimpArgs false
set_option linter.unusedVariables false

/-- m runes that may stand in a name, of k bytes, lie behind us. -/
structure Adv (l : List UInt8) (m k : Nat) : Prop where
  le : k ≤ l.length
  left : runes (l.drop k) = (runes l).drop m
  cnt : spn (runes l) = m + spn (runes (l.drop k))
  size : (byt ((runes l).take m)).length = k
  few : m ≤ k

theorem Adv.zero (l : List UInt8) : Adv l 0 0 := ⟨by omega, rfl, by simp, rfl, by omega⟩

theorem drop_ne {l : List UInt8} {k : Nat} (h : k < l.length) : l.drop k ≠ [] := by
  intro e
  have := congrArg List.length e
  rw [List.length_drop] at this
  simp at this
  omega

theorem byt_split (rs : List Ru) (m : Nat) : (byt rs).length = (byt (rs.take m)).length + (byt (rs.drop m)).length := by
  rw [← List.length_append, ← byt_append, List.take_append_drop]

theorem Adv.step {l : List UInt8} {m k : Nat} (h : Adv l m k) (hk : k < l.length) (hi : insd (nx (l.drop k)).1 = true) : Adv l (m + 1) (k + (nx (l.drop k)).2) := by
  have hne := drop_ne hk
  have hc := runes_cons hne
  have hle := nx_le hne
  have hps := nx_pos hne
  rw [List.length_drop] at hle
  have hd : (runes l).drop m = ((nx (l.drop k)).1, (l.drop k).take (nx (l.drop k)).2) :: runes ((l.drop k).drop (nx (l.drop k)).2) := by rw [← h.left, hc]
  have hd1 : (runes l).drop (m + 1) = runes (l.drop (k + (nx (l.drop k)).2)) := by
    have := congrArg List.tail hd
    rw [List.tail_drop, List.tail_cons, List.drop_drop] at this
    exact this
  refine ⟨by omega, hd1.symm, ?_, ?_, by have := h.few; omega⟩
  · rw [h.cnt, hc, List.drop_drop]
    show m + (if insd (nx (l.drop k)).1 = true then spn _ + 1 else 0) = _
    rw [if_pos hi]
    omega
  · have e1 := byt_split (runes l) (m + 1)
    rw [hd1, byt_runes _ _ (Nat.le_refl _), byt_runes _ _ (Nat.le_refl _), List.length_drop] at e1
    omega

theorem Adv.stop {l : List UInt8} {m k : Nat} (h : Adv l m k) (hs : l.length ≤ k ∨ insd (nx (l.drop k)).1 = false) : spn (runes l) = m := by
  rw [h.cnt]
  rcases hs with hs | hs
  · rw [List.drop_eq_nil_of_le hs]; rfl
  · by_cases hk : l.length ≤ k
    · rw [List.drop_eq_nil_of_le hk]; rfl
    · rw [runes_cons (drop_ne (by omega))]
      show m + (if insd (nx (l.drop k)).1 = true then _ else 0) = m
      rw [if_neg (by rw [hs]; decide)]
      omega

/-- How many bytes the runes have that may stand in a name, ahead. -/
def spb (l : List UInt8) : Nat := (byt ((runes l).take (spn (runes l)))).length

/-- Is a text a name? -/
def nameS (l : List UInt8) : Bool := letter (nx l).1 && ((spb l : Int) == (l.length : Int)) && decide (spn (runes l) ≤ 24)

def dB (c : UInt8) : Bool := decide (48 ≤ c.toNat ∧ c.toNat ≤ 57)

def valB (n : Int) : List UInt8 → Int
  | [] => n
  | c :: r => valB (10 * n + ((c.toNat : Int) - 48)) r

def numB (l : List UInt8) : Bool := decide (1 ≤ l.length ∧ l.length ≤ 10) && !(decide ((l.headD 0).toNat = 48) && decide (1 < l.length)) && l.all dB && decide (valB 0 l ≤ 1000000000)

theorem numB_not {l : List UInt8} (h : l.all dB = false) : numB l = false := by unfold numB; rw [h]; simp

theorem dB_yes {c : UInt8} (h : 48 ≤ c.toNat ∧ c.toNat ≤ 57) : dB c = true := decide_eq_true h

theorem dB_no {c : UInt8} (h : ¬ (48 ≤ c.toNat ∧ c.toNat ≤ 57)) : dB c = false := decide_eq_false h

/-- A rune's first byte tells whether it is of ASCII. -/
theorem runes_form : ∀ (n : Nat) (l : List UInt8), l.length ≤ n → ∀ v ∈ runes l, ∃ c r, v.2 = c :: r ∧ (c.toNat < 128 → v.1 = (c.toNat : Int) ∧ r = []) ∧ (¬ c.toNat < 128 → v.1 = -1 ∨ 128 ≤ v.1)
  | 0, l, h, v, hv => by
    have : l = [] := List.eq_nil_of_length_eq_zero (by omega)
    subst this; cases hv
  | n + 1, [], h, v, hv => by cases hv
  | n + 1, c :: r, h, v, hv => by
    by_cases hc : c.toNat < 128
    · rw [runes_ascii hc] at hv
      rcases List.mem_cons.1 hv with rfl | hv
      · exact ⟨c, [], rfl, fun _ => ⟨rfl, rfl⟩, fun h => absurd hc h⟩
      · exact runes_form n r (by simp at h; omega) v hv
    · have hp := nx_pos (l := c :: r) (by simp)
      rw [runes_cons (by simp)] at hv
      rcases List.mem_cons.1 hv with rfl | hv
      · obtain ⟨m, hm⟩ : ∃ m, (nx (c :: r)).2 = m + 1 := ⟨(nx (c :: r)).2 - 1, by omega⟩
        exact ⟨c, r.take m, by rw [hm, List.take_succ_cons], fun h => absurd h hc, fun _ => nx_big hc r⟩
      · exact runes_form n _ (by rw [List.length_drop]; omega) v hv

theorem form (l : List UInt8) : ∀ v ∈ runes l, ∃ c r, v.2 = c :: r ∧ (c.toNat < 128 → v.1 = (c.toNat : Int) ∧ r = []) ∧ (¬ c.toNat < 128 → v.1 = -1 ∨ 128 ≤ v.1) := runes_form _ l (Nat.le_refl _)

/-- An ASCII rune has one byte. -/
theorem asc_one {l : List UInt8} {v : Ru} (hv : v ∈ runes l) (h : 0 ≤ v.1 ∧ v.1 < 128) : ∃ c, v.2 = [c] ∧ v.1 = (c.toNat : Int) := by
  obtain ⟨c, r, e, h1, h2⟩ := form l v hv
  by_cases hc : c.toNat < 128
  · obtain ⟨a, b⟩ := h1 hc
    exact ⟨c, by rw [e, b], a⟩
  · have := h2 hc; omega

theorem digits_bytes {l : List UInt8} : ∀ (vs : List Ru), (∀ v ∈ vs, v ∈ runes l) → vs.all (fun v => dgt v.1) = true → (byt vs).length = vs.length ∧ (byt vs).all dB = true ∧ (∀ n, valB n (byt vs) = val n vs) ∧ (vs ≠ [] → ((byt vs).headD 0).toNat = ((vs.headD (0, [])).1).toNat)
  | [], _, _ => ⟨rfl, rfl, fun _ => rfl, fun h => absurd rfl h⟩
  | v :: t, hm, ha => by
    simp only [List.all_cons, Bool.and_eq_true] at ha
    have hd : 48 ≤ v.1 ∧ v.1 ≤ 57 := of_decide_eq_true ha.1
    obtain ⟨c, e1, e2⟩ := asc_one (hm v (by simp)) (by omega)
    obtain ⟨i1, i2, i3, i4⟩ := digits_bytes t (fun x hx => hm x (by simp [hx])) ha.2
    have eb : byt (v :: t) = c :: byt t := by rw [byt_cons, e1]; rfl
    rw [eb]
    refine ⟨by simp [i1], ?_, fun n => ?_, fun _ => ?_⟩
    · simp only [List.all_cons, i2, Bool.and_true]
      exact dB_yes (by omega)
    · show valB (10 * n + ((c.toNat : Int) - 48)) (byt t) = val (10 * n + (v.1 - 48)) t
      rw [i3, e2]
    · simp [e2]

theorem not_digits {l : List UInt8} : ∀ (vs : List Ru), (∀ v ∈ vs, v ∈ runes l) → vs.all (fun v => dgt v.1) = false → (byt vs).all dB = false
  | [], _, h => by simp at h
  | v :: t, hm, ha => by
    rw [byt_cons, List.all_append]
    simp only [List.all_cons, Bool.and_eq_false_iff] at ha
    rw [Bool.and_eq_false_iff]
    rcases ha with ha | ha
    · left
      have hd : ¬ (48 ≤ v.1 ∧ v.1 ≤ 57) := of_decide_eq_false ha
      obtain ⟨c, r, e, h1, h2⟩ := form l v (hm v (by simp))
      rw [e, List.all_cons, Bool.and_eq_false_iff]
      left
      refine dB_no (fun h => hd ?_)
      have := (h1 (by omega)).1
      omega
    · right
      exact not_digits t (fun x hx => hm x (by simp [hx])) ha

theorem numB_numb {l : List UInt8} (vs : List Ru) (hm : ∀ v ∈ vs, v ∈ runes l) : numB (byt vs) = numb vs := by
  cases ha : vs.all (fun v => dgt v.1) with
  | false =>
    rw [numB_not (not_digits vs hm ha)]
    unfold numb
    rw [ha]; simp
  | true =>
    obtain ⟨i1, i2, i3, i4⟩ := digits_bytes vs hm ha
    unfold numB numb
    rw [i1, i2, i3, ha]
    by_cases hn : vs = []
    · subst hn; rfl
    · have h4 := i4 hn
      have h5 : decide (((byt vs).headD 0).toNat = 48) = decide ((vs.headD (0, [])).1 = 48) := by
        match vs, hn with
        | v :: t, _ =>
          simp only [List.all_cons, Bool.and_eq_true] at ha
          have hd : 48 ≤ v.1 ∧ v.1 ≤ 57 := of_decide_eq_true ha.1
          have h6 : ((byt (v :: t)).headD 0).toNat = v.1.toNat := h4
          show decide (((byt (v :: t)).headD 0).toNat = 48) = decide (v.1 = 48)
          by_cases hq : v.1 = 48
          · rw [decide_eq_true hq]; exact decide_eq_true (by omega)
          · rw [decide_eq_false hq]; exact decide_eq_false (by omega)
      rw [h5]

/-- Two cells of a block stay behind a call. -/
theorem keep2 {w w' : World} {X : Nat} {a b : Value} (hb : Below w.heap.size w w') (h0 : w.cell? ⟨X, 0, none⟩ = some a) (h1 : w.cell? ⟨X, 1, none⟩ = some b) (f0 : w.frozen? ⟨X, 0, none⟩ = false) (f1 : w.frozen? ⟨X, 1, none⟩ = false) :
    w'.cell? ⟨X, 0, none⟩ = some a ∧ w'.cell? ⟨X, 1, none⟩ = some b ∧ w'.frozen? ⟨X, 0, none⟩ = false ∧ w'.frozen? ⟨X, 1, none⟩ = false := by
  have hX := World.block_lt_of_cell? w _ h0
  have hX' : X < w.heap.size := hX
  refine ⟨?_, ?_, ?_, ?_⟩
  · rw [hb.cell (p := ⟨X, 0, none⟩) hX']; exact h0
  · rw [hb.cell (p := ⟨X, 1, none⟩) hX']; exact h1
  · rw [hb.frozen (p := ⟨X, 0, none⟩) hX']; exact f0
  · rw [hb.frozen (p := ⟨X, 1, none⟩) hX']; exact f1

theorem new2 (w : World) (a b : Value) (T : TypeId) (n : Nat) (hn : n = w.heap.size) : (w.alloc (.cells #[a, b] T)).cell? ⟨n, 0, none⟩ = some a ∧ (w.alloc (.cells #[a, b] T)).cell? ⟨n, 1, none⟩ = some b ∧ (w.alloc (.cells #[a, b] T)).frozen? ⟨n, 0, none⟩ = false ∧ (w.alloc (.cells #[a, b] T)).frozen? ⟨n, 1, none⟩ = false := by
  subst hn
  refine ⟨by simp, by simp, by simp, by simp⟩

/-- A block of two cells. -/
def At (w : World) (X : Nat) (a b : Value) : Prop := w.cell? ⟨X, 0, none⟩ = some a ∧ w.cell? ⟨X, 1, none⟩ = some b ∧ w.frozen? ⟨X, 0, none⟩ = false ∧ w.frozen? ⟨X, 1, none⟩ = false

theorem At.keep {w w' : World} {X : Nat} {a b : Value} (h : At w X a b) (hb : Below w.heap.size w w') : At w' X a b := keep2 hb h.1 h.2.1 h.2.2.1 h.2.2.2

theorem cell_same {w : World} {p : Addr} {u v : Value} (h : w.cell? p = some u) : (w.setCell p v).cell? p = some v := World.cell?_setCell_same' w _ v (by rw [h]; rfl)

theorem cell_far {w : World} {X i Y j : Nat} {u v : Value} (hne : ¬ (X = Y ∧ i = j)) (h : w.cell? ⟨Y, j, none⟩ = some u) : (w.setCell ⟨X, i, none⟩ v).cell? ⟨Y, j, none⟩ = some u :=
  (World.cell?_setCell_other w ⟨X, i, none⟩ ⟨Y, j, none⟩ v (by simp; intro h1 h2; exact hne ⟨h1, h2⟩)).trans h

theorem At.set0 {w : World} {X : Nat} {a b : Value} (h : At w X a b) (v : Value) : At (w.setCell ⟨X, 0, none⟩ v) X v b :=
  ⟨cell_same h.1, cell_far (by omega) h.2.1, (World.frozen?_setCell _ _ _ _).trans h.2.2.1, (World.frozen?_setCell _ _ _ _).trans h.2.2.2⟩

theorem At.set1 {w : World} {X : Nat} {a b : Value} (h : At w X a b) (v : Value) : At (w.setCell ⟨X, 1, none⟩ v) X a v :=
  ⟨cell_far (by omega) h.1, cell_same h.2.1, (World.frozen?_setCell _ _ _ _).trans h.2.2.1, (World.frozen?_setCell _ _ _ _).trans h.2.2.2⟩

theorem At.far {w : World} {X Y i : Nat} {a b : Value} (h : At w Y a b) (hne : X ≠ Y) (v : Value) : At (w.setCell ⟨X, i, none⟩ v) Y a b :=
  ⟨cell_far (by omega) h.1, cell_far (by omega) h.2.1, (World.frozen?_setCell _ _ _ _).trans h.2.2.1, (World.frozen?_setCell _ _ _ _).trans h.2.2.2⟩

theorem At.new (w : World) (a b : Value) (T : TypeId) (n : Nat) (hn : n = w.heap.size) : At (w.alloc (.cells #[a, b] T)) n a b := new2 w a b T n hn

/-- A word's text. -/
def txt (seg : List Ru) : ByteArray := ⟨(byt seg).toArray⟩

def celW (x : Wd) : List Value := [.int .i64 (x.1 : Int), .string (txt x.2.1), .int .i64 x.2.2.1, .int .i64 x.2.2.2]

def celsW (l : List Wd) : List Value := l.flatMap celW

/-- The slice value v is the call's own, from block base on, and holds the words l. -/
def OwnW (w : World) (base e : Nat) (v : Value) (l : List Wd) : Prop := w.ownsRow base e 4 v l.length (celsW l)

theorem OwnW.below {w w' : World} {base e : Nat} {v : Value} {l : List Wd} {B : Nat} (h : OwnW w base e v l) (hb : Below B w w') (hB : w.heap.size ≤ B) : OwnW w' base e v l := by
  refine ⟨h.1, ?_⟩
  rcases h.2 with hn | ⟨g, cap, cur, rfl, hbg, hg, rest⟩
  · exact .inl hn
  · refine .inr ⟨g, cap, cur, rfl, hbg, ?_, rest⟩
    rw [hb.block g (by have := (Array.getElem?_eq_some_iff.1 hg).1; omega)]
    exact hg

theorem OwnW.set {w : World} {base e : Nat} {v : Value} {l : List Wd} (h : OwnW w base e v l) {a : Addr} (ha : a.block < base) (u : Value) : OwnW (w.setCell a u) base e v l := ownsRow_setCell_below h ha u

theorem OwnW.base {w : World} {base base' e : Nat} {v : Value} {l : List Wd} (h : OwnW w base e v l) (hb : base' ≤ base) : OwnW w base' e v l :=
  ⟨h.1, h.2.elim Or.inl (fun ⟨g, cap, cur, hv, hg, r⟩ => Or.inr ⟨g, cap, cur, hv, Nat.le_trans hb hg, r⟩)⟩

/-- The first rune is an ASCII sign just if the first byte is. -/
theorem head_is (c : UInt8) (r : List UInt8) {k : Nat} (hk : k < 128) : (nx (c :: r)).1 = (k : Int) ↔ c.toNat = k := by
  by_cases h : c.toNat < 128
  · rw [nx_ascii h]; simp only; omega
  · have := nx_big h r
    constructor
    · intro e; omega
    · intro e; omega

theorem runes_small {c : UInt8} (r : List UInt8) {k : Nat} (hk : k < 128) (h : c.toNat = k) : runes (c :: r) = ((k : Int), [c]) :: runes r := by
  rw [runes_ascii (by omega), h]

theorem At.keepB {w w' : World} {X B : Nat} {a b : Value} (h : At w X a b) (hb : Below B w w') (hX : X < B) : At w' X a b := by
  refine ⟨?_, ?_, ?_, ?_⟩
  · rw [hb.cell (p := ⟨X, 0, none⟩) hX]; exact h.1
  · rw [hb.cell (p := ⟨X, 1, none⟩) hX]; exact h.2.1
  · rw [hb.frozen (p := ⟨X, 0, none⟩) hX]; exact h.2.2.1
  · rw [hb.frozen (p := ⟨X, 1, none⟩) hX]; exact h.2.2.2

/-- Runes up to the line's end that lie behind us: j of them. -/
structure Rem (R : List Ru) (j : Nat) (l : List UInt8) : Prop where
  left : runes l = R.drop j
  cnt : rest R = j + rest (runes l)

theorem Rem.zero {l : List UInt8} : Rem (runes l) 0 l := ⟨rfl, by omega⟩

theorem Rem.step {R : List Ru} {j : Nat} {c : UInt8} {r : List UInt8} (h : Rem R j (c :: r)) (hc : c.toNat ≠ 10) : Rem R (j + 1) ((c :: r).drop (nx (c :: r)).2) := by
  have hcs := runes_cons (l := c :: r) (by simp)
  have hd : R.drop (j + 1) = runes ((c :: r).drop (nx (c :: r)).2) := by
    have := congrArg List.tail (h.left.symm.trans hcs)
    rw [List.tail_drop, List.tail_cons] at this
    exact this
  refine ⟨hd.symm, ?_⟩
  have hne : ¬ (nx (c :: r)).1 = 10 := fun e => hc ((head_is c r (k := 10) (by omega)).1 e)
  rw [h.cnt, hcs]
  show j + (if (nx (c :: r)).1 = 10 then 0 else rest _ + 1) = _
  rw [if_neg hne]
  omega

theorem Rem.stop {R : List Ru} {j : Nat} {c : UInt8} {r : List UInt8} (h : Rem R j (c :: r)) (hc : c.toNat = 10) : rest R = j := by
  rw [h.cnt, runes_small r (k := 10) (by omega) hc]
  rfl


def allz {α β : Type} (f : α → β → Bool) : List α → List β → Bool
  | a :: x, b :: y => f a b && allz f x y
  | _, _ => true
/-- Is all of both alike? -/
def samC : (d e : Nat) → T d → T e → Bool
  | 0, _, t, _ => Empty.elim t
  | _ + 1, 0, _, u => Empty.elim u
  | d + 1, e + 1, t, u =>
    decide ((show Int × Int × ByteArray × List (T d) from t).1 = (show Int × Int × ByteArray × List (T e) from u).1) && decide ((show Int × Int × ByteArray × List (T d) from t).2.1 = (show Int × Int × ByteArray × List (T e) from u).2.1) &&
    decide ((show Int × Int × ByteArray × List (T d) from t).2.2.1 = (show Int × Int × ByteArray × List (T e) from u).2.2.1) && decide ((show Int × Int × ByteArray × List (T d) from t).2.2.2.length = (show Int × Int × ByteArray × List (T e) from u).2.2.2.length) &&
    allz (samC d e) (show Int × Int × ByteArray × List (T d) from t).2.2.2 (show Int × Int × ByteArray × List (T e) from u).2.2.2

/-- An expression, with its depth. -/
abbrev Sx := (d : Nat) × T d
/-- The same tree, k deeper. -/
def addl (d : Nat) (t : T d) : (k : Nat) → T (d + k)
  | 0 => t
  | k + 1 => lift (d + k) (addl d t k)
def turn {a b : Nat} (h : a = b) (t : T a) : T b := h ▸ t
/-- A function of expressions, by what it makes of a node and of its parts. -/
def foldS {α : Type} (f : Int → Int → ByteArray → List α → α) (x : Sx) : α := fold f x.1 x.2
def ClX (x : Sx) : Prop := Cl x.1 x.2
def mk1 (k : Int) (x : Sx) : Sx := ⟨x.1 + 1, mkT k 0 ⟨#[]⟩ [x.2]⟩
def mk2 (s : ByteArray) (x y : Sx) : Sx := ⟨x.1 + y.1 + 1, mkT 5 0 s [addl x.1 x.2 y.1, turn (Nat.add_comm y.1 x.1) (addl y.1 y.2 x.1)]⟩
/-- The nodes, each ahead of its parts, with their number. -/
def enc : (d : Nat) → T d → List (Int × Int × ByteArray × Nat) := fold (fun k n s l => (k, n, s, l.length) :: l.flatten)

/-- A word: its kind, and its bytes. -/
abbrev Tk := Nat × List UInt8
/-- How strongly an operator binds; 0: it is none. -/
def lv (s : List UInt8) : Nat := if s = [124, 124] then 1 else if s = [38, 38] then 2 else if s = [60] ∨ s = [60, 61] ∨ s = [61, 61] ∨ s = [33, 61] then 3 else if s = [43] ∨ s = [45] then 4 else if s = [42] then 5 else 0
section
variable (nb : List UInt8 → Int) (rsv : List UInt8 → Bool) (l : List Tk)
end

/-- All folds take it for the same. -/
def Alk (x : Sx) {d : Nat} (t : T d) : Prop := (∀ (α : Type) (g : Int → Int → ByteArray → List α → α), foldS g x = fold g d t) ∧ (Cl d t → ClX x)
theorem Alk.of {d : Nat} (t : T d) : Alk ⟨d, t⟩ t := ⟨fun _ _ => rfl, id⟩
section
variable {nb : List UInt8 → Int} {rsv : List UInt8 → Bool} {l : List Tk}
variable {dc : Int → List UInt8}
end

/-- A sign that waits: its bytes, and its level (0: a bracket, 6: ahead). -/
abbrev Sg2 := List UInt8 × Nat
/-- What a sign makes of the last operands. -/
def jn1 (V : List Sx) (s : Sg2) : List Sx :=
  if s.2 = 6 then (match V with | x :: r => mk1 (if s.1 = [33] then 3 else 4) x :: r | r => r)
  else (match V with | x :: y :: r => mk2 ⟨s.1.toArray⟩ y x :: r | r => r)
def jn (k : Nat) : List Sx → List Sg2 → List Sx × List Sg2
  | V, [] => (V, [])
  | V, s :: W => if k ≤ s.2 then jn k (jn1 V s) W else (V, s :: W)
section
variable (leaf : Tk → Option Sx)
end
section
variable {leaf : Tk → Option Sx} {l : List Tk}
end
section
variable {nb : List UInt8 → Int} {rsv : List UInt8 → Bool} {l : List Tk}
end

/-- What stands behind: nothing, a blank or a bracket. -/
def Post (post : List UInt8) : Prop := post = [] ∨ ∃ c r, post = c :: r ∧ (c = 32 ∨ c = 41 ∨ c = 10)
theorem Post.fst {a post : List UInt8} (ha : a ≠ []) (h : Post post) : runes (a ++ post) = runes a ++ runes post ∧ fst1 (runes a ++ runes post) = fst1 (runes a) := by
  rcases h with rfl | ⟨c, r, rfl, hc⟩
  · rw [List.append_nil, runes_nil, List.append_nil]; exact ⟨rfl, rfl⟩
  · have hc8 : c.toNat < 128 := by rcases hc with rfl | rfl | rfl <;> decide
    have hr := runes_stop a.length a (Nat.le_refl _) hc8 r
    have hne : runes a ≠ [] := by rw [runes_cons ha]; simp
    refine ⟨hr, ?_⟩
    rw [runes_ascii hc8]
    refine fst1_stop ?_ _ _ hne
    rcases hc with rfl | rfl | rfl
    · exact ⟨by decide, by decide, by decide, by decide⟩
    · exact ⟨by decide, by decide, by decide, by decide⟩
    · exact ⟨by decide, by decide, by decide, by decide⟩



/-- The runes are one word of this kind, and no more. -/
structure OneW (K : Nat) (seg : List Ru) : Prop where
  k : K ≠ 0
  f : fst1 seg = (K, seg.length)
  g : ∀ v ∈ seg, Good v
  h : ∃ v t, seg = v :: t ∧ v.1 ≠ 10 ∧ v.1 ≠ 32 ∧ v.1 ≠ 9 ∧ v.1 ≠ 35
  l : (byt seg).length ≤ 12000
theorem OneW.runes {K : Nat} {seg : List Ru} (h : OneW K seg) : runes (byt seg) = seg := by
  have := runes_goods seg [] h.g
  rw [List.append_nil, runes_nil, List.append_nil] at this
  exact this
/-- A word's text has that word alone. -/
theorem OneW.words {K : Nat} {seg : List Ru} (h : OneW K seg) : wordsS (byt seg) = ([(K, seg, 1, 1)], (0, 0), 0) := by
  have hr := h.runes
  have hl := h.l
  have hf := h.f
  have hk := h.k
  unfold wordsS
  rw [if_neg (by omega), hr]
  obtain ⟨v, t, e, h1, h2, h3, h4⟩ := h.h
  rw [e] at hf ⊢
  rw [wrds_cons, if_neg h1, if_neg (fun q => q.elim h2 h3), if_neg h4, hf, if_neg hk, if_neg (by decide), List.take_length, List.drop_length, wrds_nil]
  rfl
theorem OneW.kind {K : Nat} {seg : List Ru} (h : OneW K seg) : (K = 1 ∧ nameS (byt seg) = true) ∨ (K = 2 ∧ numB (byt seg) = true) ∨ (K = 3 ∧ ∃ v t, seg = v :: t ∧ letter v.1 = false ∧ dgt v.1 = false) := by
  have hr := h.runes
  have hf := h.f
  have hk := h.k
  obtain ⟨v, t, e, _⟩ := h.h
  have hbne : byt seg ≠ [] := fun e0 => by rw [e0, runes_nil] at hr; rw [← hr] at e; cases e
  have hnx : (nx (byt seg)).1 = v.1 := by
    have := runes_cons hbne
    rw [hr, e] at this
    injection this with h1 _
    rw [e]
    exact (congrArg Prod.fst h1).symm
  rw [e, fst1_cons, ← e] at hf
  by_cases a : letter v.1 = true
  · rw [if_pos a] at hf
    by_cases b : spn seg ≤ 24
    · rw [if_pos b] at hf
      injection hf with h1 h2
      left
      refine ⟨h1.symm, ?_⟩
      unfold nameS
      have hs : spb (byt seg) = (byt seg).length := by unfold spb; rw [hr, h2, List.take_length]
      rw [hnx, a, hs, hr, decide_eq_true b]; simp
    · rw [if_neg b] at hf
      injection hf with h1 _
      exact absurd h1.symm hk
  · rw [if_neg a] at hf
    by_cases d : dgt v.1 = true
    · rw [if_pos d] at hf
      by_cases b : numb (seg.take (spn seg)) = true
      · rw [if_pos b] at hf
        injection hf with h1 h2
        right; left
        refine ⟨h1.symm, ?_⟩
        rw [h2, List.take_length] at b
        rw [numB_numb (l := byt seg) seg (fun v hv => by rw [hr]; exact hv)]
        exact b
      · rw [if_neg b] at hf
        injection hf with h1 _
        exact absurd h1.symm hk
    · rw [if_neg d] at hf
      by_cases b : sgn seg = 0
      · rw [if_pos b] at hf
        injection hf with h1 _
        exact absurd h1.symm hk
      · rw [if_neg b] at hf
        injection hf with h1 _
        right; right
        exact ⟨h1.symm, v, t, e, by simpa using a, by simpa using d⟩
section
variable {nb : List UInt8 → Int} {rsv : List UInt8 → Bool} {l : List Tk} {Q : Nat → Nat → Sx → Prop}
end

/-- Nothing but block X has turned, and new blocks. -/
abbrev Fx (X : Nat) (w w' : World) : Prop := w.grownBy w' (some X)
theorem Fx.refl (X : Nat) (w : World) : Fx X w w := ⟨rfl, rfl, rfl, Nat.le_refl _, fun _ _ _ => rfl⟩
theorem Fx.trans {X : Nat} {a b c : World} (h : Fx X a b) (k : Fx X b c) : Fx X a c :=
  ⟨k.os.trans h.os, k.tape.trans h.tape, k.output.trans h.output, Nat.le_trans h.size k.size, fun j hj hne => (k.block j (Nat.lt_of_lt_of_le hj h.size) hne).trans (h.block j hj hne)⟩
theorem Fx.of {X B : Nat} {a b : World} (h : Below B a b) (hB : a.heap.size ≤ B) : Fx X a b := ⟨h.os, h.tape, h.output, h.size, fun k hk _ => h.block k (by omega)⟩
theorem Fx.setX {X i : Nat} {a b : World} (h : Fx X a b) (u : Value) : Fx X a (b.setCell ⟨X, i, none⟩ u) :=
  ⟨h.os, h.tape, h.output, by simpa using h.size, fun k hk hne => (Below.heap_setCell _ _ _ _ (fun e => hne (congrArg some e))).trans (h.block k hk hne)⟩
theorem Fx.drewN {X : Nat} {a b : World} (h : Fx X a b) (m : Nat) : Fx X a (b.drewN m) := ⟨h.os, h.tape, h.output, h.size, h.block⟩
theorem Fx.drew {X : Nat} {a b : World} (h : Fx X a b) : Fx X a b.drew := ⟨h.os, h.tape, h.output, h.size, h.block⟩
theorem Fx.alloc {X : Nat} {a b : World} (h : Fx X a b) (o : Obj) : Fx X a (b.alloc o) := h.trans (Fx.of ((Below.refl b.heap.size b).alloc (Nat.le_refl _) o) (Nat.le_refl _))
theorem Fx.below {X : Nat} {a b : World} (h : Fx X a b) {B : Nat} (hB : B ≤ X) (hs : B ≤ a.heap.size) : Below B a b := ⟨h.os, h.tape, h.output, h.size, fun k hk => h.block k (by omega) (fun e => by have : k = X := Option.some.inj e; omega)⟩
/-- A new block's cells, written. -/
theorem Fx.setN {X N i : Nat} {a b : World} (h : Fx X a b) (hN : a.heap.size ≤ N) (u : Value) : Fx X a (b.setCell ⟨N, i, none⟩ u) :=
  ⟨h.os, h.tape, h.output, by simpa using h.size, fun k hk hne => (Below.heap_setCell _ _ _ _ (fun e => by have : k = N := e; omega)).trans (h.block k hk hne)⟩
/-- The words, in memory apart from X. -/
def RdL (w : World) (X : Nat) (a : Option Addr) (ws : List Wd) : Prop := ∀ (i : Nat) (hi : i < ws.length), ∃ g off, a = some ⟨g, off, none⟩ ∧ g < X ∧ w.cell? ⟨g, off + i * 4, none⟩ = some (.int .i64 ((ws[i]).1 : Int)) ∧ w.cell? ⟨g, off + i * 4 + 1, none⟩ = some (.string (txt (ws[i]).2.1)) ∧ w.cell? ⟨g, off + i * 4 + 2, none⟩ = some (.int .i64 (ws[i]).2.2.1) ∧ w.cell? ⟨g, off + i * 4 + 3, none⟩ = some (.int .i64 (ws[i]).2.2.2)
theorem RdL.fx {w w' : World} {X : Nat} {a : Option Addr} {ws : List Wd} (h : RdL w X a ws) (hX : X < w.heap.size) (hf : Fx X w w') : RdL w' X a ws := fun i hi => by
  obtain ⟨g, off, h1, h3, c0, c1, c2, c3⟩ := h i hi
  have hb : w'.heap[g]? = w.heap[g]? := hf.block g (by omega) (fun e => by have : g = X := Option.some.inj e; omega)
  have hc : ∀ j, w'.cell? ⟨g, j, none⟩ = w.cell? ⟨g, j, none⟩ := fun j => World.cell?_of_block (w := w) (a := ⟨g, j, none⟩) hb
  exact ⟨g, off, h1, h3, (hc _).trans c0, (hc _).trans c1, (hc _).trans c2, (hc _).trans c3⟩
/-- The reader in block X. -/
structure Rr (w : World) (X : Nat) (a : Option Addr) (cap : Nat) (ws : List Wd) (n : Nat) (b : Int) : Prop where
  c0 : w.cell? ⟨X, 0, none⟩ = some (.slice a ws.length cap)
  c1 : w.cell? ⟨X, 1, none⟩ = some (.int .i64 (n : Int))
  c2 : w.cell? ⟨X, 2, none⟩ = some (.int .i64 b)
  f1 : w.frozen? ⟨X, 1, none⟩ = false
  f2 : w.frozen? ⟨X, 2, none⟩ = false
  l : RdL w X a ws
theorem Rr.lt {w : World} {X : Nat} {a : Option Addr} {cap : Nat} {ws : List Wd} {n : Nat} {b : Int} (h : Rr w X a cap ws n b) : X < w.heap.size := World.block_lt_of_cell? w _ h.c0
theorem Rr.on {w w' : World} {X : Nat} {a : Option Addr} {cap : Nat} {ws : List Wd} {n : Nat} {b : Int} (h : Rr w X a cap ws n b) (hb : Below w.heap.size w w') : Rr w' X a cap ws n b := by
  have hX := h.lt
  have hc : ∀ i, w'.cell? ⟨X, i, none⟩ = w.cell? ⟨X, i, none⟩ := fun i => hb.cell (p := ⟨X, i, none⟩) hX
  have hf : ∀ i, w'.frozen? ⟨X, i, none⟩ = w.frozen? ⟨X, i, none⟩ := fun i => hb.frozen (p := ⟨X, i, none⟩) hX
  exact ⟨(hc 0).trans h.c0, (hc 1).trans h.c1, (hc 2).trans h.c2, (hf 1).trans h.f1, (hf 2).trans h.f2, h.l.fx hX (Fx.of hb (Nat.le_refl _))⟩
theorem Rr.set1 {w : World} {X : Nat} {a : Option Addr} {cap : Nat} {ws : List Wd} {n : Nat} {b : Int} (h : Rr w X a cap ws n b) (n' : Nat) : Rr (w.setCell ⟨X, 1, none⟩ (.int .i64 (n' : Int))) X a cap ws n' b :=
  ⟨cell_far4 (by omega) h.c0, cell_same4 h.c1, cell_far4 (by omega) h.c2, (World.frozen?_setCell _ _ _ _).trans h.f1, (World.frozen?_setCell _ _ _ _).trans h.f2, h.l.fx h.lt ((Fx.refl X w).setX _)⟩
theorem Rr.set2 {w : World} {X : Nat} {a : Option Addr} {cap : Nat} {ws : List Wd} {n : Nat} {b : Int} (h : Rr w X a cap ws n b) (b' : Int) : Rr (w.setCell ⟨X, 2, none⟩ (.int .i64 b')) X a cap ws n b' :=
  ⟨cell_far4 (by omega) h.c0, cell_far4 (by omega) h.c1, cell_same4 h.c2, (World.frozen?_setCell _ _ _ _).trans h.f1, (World.frozen?_setCell _ _ _ _).trans h.f2, h.l.fx h.lt ((Fx.refl X w).setX _)⟩
theorem draws (w : World) (m : Nat) : Below w.heap.size w (w.drewN m) := ⟨rfl, rfl, rfl, Nat.le_refl _, fun _ _ => rfl⟩
structure Wk (ws : List Wd) (cap : Nat) : Prop where
  l : ws.length ≤ 3000
  c : ws.length ≤ cap
  m : cap ≤ maxLen
  o : ∀ x ∈ ws, OneW x.1 x.2.1
theorem Rr.far {w : World} {X N i : Nat} {a : Option Addr} {cap : Nat} {ws : List Wd} {n : Nat} {b : Int} (h : Rr w X a cap ws n b) (hN : X < N) (u : Value) : Rr (w.setCell ⟨N, i, none⟩ u) X a cap ws n b := by
  refine ⟨cell_far4 (by omega) h.c0, cell_far4 (by omega) h.c1, cell_far4 (by omega) h.c2, (World.frozen?_setCell _ _ _ _).trans h.f1, (World.frozen?_setCell _ _ _ _).trans h.f2, fun j hj => ?_⟩
  obtain ⟨g, off, h1, h3, d0, d1, d2, d3⟩ := h.l j hj
  exact ⟨g, off, h1, h3, cell_far4 (by omega) d0, cell_far4 (by omega) d1, cell_far4 (by omega) d2, cell_far4 (by omega) d3⟩

/-- A block of cells that may be written. -/
def Bn (w : World) (Y : Nat) (cs : List Value) : Prop := ∀ j u, cs[j]? = some u → w.cell? ⟨Y, j, none⟩ = some u ∧ w.frozen? ⟨Y, j, none⟩ = false
theorem Bn.lt {w : World} {Y : Nat} {c : Value} {cs : List Value} (h : Bn w Y (c :: cs)) : Y < w.heap.size := World.block_lt_of_cell? w _ (h 0 c rfl).1
theorem frozen_of_block {w w' : World} {Y j : Nat} (h : w'.heap[Y]? = w.heap[Y]?) : w'.frozen? ⟨Y, j, none⟩ = w.frozen? ⟨Y, j, none⟩ := by
  unfold World.frozen?
  rw [h]
theorem Bn.blk {w w' : World} {Y : Nat} {cs : List Value} (h : Bn w Y cs) (hb : w'.heap[Y]? = w.heap[Y]?) : Bn w' Y cs := fun j u hu =>
  ⟨keep_cell (p := ⟨Y, j, none⟩) hb (h j u hu).1, (frozen_of_block hb).trans (h j u hu).2⟩
theorem Bn.on {w w' : World} {Y : Nat} {c : Value} {cs : List Value} (h : Bn w Y (c :: cs)) (hb : Below w.heap.size w w') : Bn w' Y (c :: cs) := h.blk (hb.block Y h.lt)
theorem Bn.fx {w w' : World} {X Y : Nat} {c : Value} {cs : List Value} (h : Bn w Y (c :: cs)) (hf : Fx X w w') (hne : Y ≠ X) : Bn w' Y (c :: cs) := h.blk (hf.block Y h.lt (fun e => hne (Option.some.inj e)))
theorem Bn.far {w : World} {Y X i : Nat} {cs : List Value} (h : Bn w Y cs) (hne : X ≠ Y) (v : Value) : Bn (w.setCell ⟨X, i, none⟩ v) Y cs := h.blk (Below.heap_setCell _ _ _ _ (fun e => hne e.symm))
theorem Bn.set {w : World} {Y i : Nat} {cs : List Value} (h : Bn w Y cs) (hi : i < cs.length) (v : Value) : Bn (w.setCell ⟨Y, i, none⟩ v) Y (cs.set i v) := fun j u hu => by
  refine ⟨?_, (World.frozen?_setCell _ _ _ _).trans ?_⟩
  · by_cases hj : i = j
    · subst hj
      rw [List.getElem?_set_self hi] at hu
      obtain rfl := Option.some.inj hu
      exact cell_same4 (h i _ (List.getElem?_eq_getElem hi)).1
    · rw [List.getElem?_set_ne hj] at hu
      exact cell_far4 (by omega) (h j u hu).1
  · have hl : j < cs.length := by
      have := (List.getElem?_eq_some_iff.1 hu).1
      rwa [List.length_set] at this
    exact (h j _ (List.getElem?_eq_getElem hl)).2
theorem Bn.drew {w : World} {Y : Nat} {cs : List Value} (h : Bn w Y cs) : Bn w.drew Y cs := h
theorem Bn.new (w : World) (cs : List Value) (t : TypeId) (n : Nat) (hn : n = w.heap.size) : Bn (w.alloc (.cells cs.toArray t)) n cs := by
  subst hn
  intro j u hu
  refine ⟨?_, by simp⟩
  rw [World.cell?_alloc_new]
  simpa using hu

/-- The slice v reads as the list l, k cells an element. -/
def RdK {α : Type} (ok : Nat → Prop) (w : World) (k : Nat) (R : α → List Value → Prop) (l : List α) (v : Value) : Prop :=
  ∃ a cap, v = .slice a l.length cap ∧ l.length ≤ cap ∧ cap ≤ maxLen ∧
    ∀ (i : Nat) (hi : i < l.length), ∃ b off cs, a = some ⟨b, off, none⟩ ∧ ok b ∧ b < w.heap.size ∧ cs.length = k ∧ R l[i] cs ∧ ∀ j u, cs[j]? = some u → w.cell? ⟨b, off + i * k + j, none⟩ = some u
theorem rdK_none {α : Type} (ok : Nat → Prop) (w : World) (k : Nat) (R : α → List Value → Prop) : RdK ok w k R [] (.slice none 0 0) := ⟨none, 0, rfl, by simp, by simp [maxLen], fun i hi => absurd hi (by simp)⟩
theorem RdK.keep {α : Type} {ok ok' : Nat → Prop} {w w' : World} {k : Nat} {R R' : α → List Value → Prop} {l : List α} {v : Value} (h : RdK ok w k R l v) (hR : ∀ x ∈ l, ∀ u, R x u → R' x u) (hk : ∀ b, ok b → b < w.heap.size → ok' b ∧ w'.heap[b]? = w.heap[b]?) : RdK ok' w' k R' l v := by
  obtain ⟨a, cap, rfl, hc, hm, hcell⟩ := h
  refine ⟨a, cap, rfl, hc, hm, fun i hi => ?_⟩
  obtain ⟨b, off, cs, ha, ho, hb, hl, hr, hcs⟩ := hcell i hi
  obtain ⟨ho', hs⟩ := hk _ ho hb
  refine ⟨b, off, cs, ha, ho', ?_, hl, hR _ (List.getElem_mem hi) _ hr, fun j u hu => keep_cell (p := ⟨b, off + i * k + j, none⟩) hs (hcs j u hu)⟩
  rcases Nat.lt_or_ge b w'.heap.size with h | h
  · exact h
  · rw [Array.getElem?_eq_none h, Array.getElem?_eq_getElem hb] at hs
    cases hs
theorem RdK.form {α : Type} {ok : Nat → Prop} {w : World} {k : Nat} {R : α → List Value → Prop} {l : List α} {v : Value} (h : RdK ok w k R l v) : ∃ a cap, v = .slice a l.length cap ∧ l.length ≤ cap ∧ cap ≤ maxLen := by
  obtain ⟨a, cap, h1, h2, h3, _⟩ := h
  exact ⟨a, cap, h1, h2, h3⟩
/-- A reading that stays where its blocks stay. -/
def Kp {α : Type} (R : (Nat → Prop) → World → α → List Value → Prop) : Prop := ∀ ⦃ok ok' : Nat → Prop⦄ ⦃w w' : World⦄ ⦃x : α⦄ ⦃cs : List Value⦄, R ok w x cs → (∀ b, ok b → b < w.heap.size → ok' b ∧ w'.heap[b]? = w.heap[b]?) → R ok' w' x cs
/-- The slice v is the call's own, from block base on, of k cells an element, and holds l; what lies behind its cells lies apart. -/
def OwnK {α : Type} (w : World) (base e k : Nat) (R : (Nat → Prop) → World → α → List Value → Prop) (v : Value) (l : List α) : Prop :=
  ∃ qs : List (List Value), w.ownsRow base e k v l.length qs.flatten ∧ qs.length = l.length ∧ ∀ (i : Nat) (h : i < l.length) (h' : i < qs.length), (qs[i]).length = k ∧ R (fun b => base ≤ b ∧ v.ownBlock ≠ some b) w l[i] qs[i]
theorem ownK_nil {α : Type} (w : World) (base e k : Nat) (R : (Nat → Prop) → World → α → List Value → Prop) : OwnK w base e k R (.slice none 0 0) [] := ⟨[], World.ownsRow_nil w base e k, rfl, fun i h => absurd h (by simp)⟩
theorem OwnK.keep {α : Type} {w w' : World} {base e k : Nat} {R : (Nat → Prop) → World → α → List Value → Prop} {v : Value} {l : List α} (hR : Kp R) (h : OwnK w base e k R v l) (hk : ∀ b, base ≤ b → b < w.heap.size → w'.heap[b]? = w.heap[b]?) : OwnK w' base e k R v l := by
  obtain ⟨qs, ho, hl, hr⟩ := h
  refine ⟨qs, ownsRow_keep ho (fun g hg => ?_), hl, fun i h h' => ⟨(hr i h h').1, hR (hr i h h').2 (fun b hb hlt => ⟨hb, hk b hb.1 hlt⟩)⟩⟩
  obtain ⟨a, b⟩ := ownsRow_lt ho g hg
  exact hk g a b
theorem OwnK.on {α : Type} {w w' : World} {base e k : Nat} {R : (Nat → Prop) → World → α → List Value → Prop} {v : Value} {l : List α} (hR : Kp R) (h : OwnK w base e k R v l) (hb : Below w.heap.size w w') : OwnK w' base e k R v l := h.keep hR (fun b _ hlt => hb.block b hlt)
theorem OwnK.fx {α : Type} {w w' : World} {base e k X : Nat} {R : (Nat → Prop) → World → α → List Value → Prop} {v : Value} {l : List α} (hR : Kp R) (h : OwnK w base e k R v l) (hf : Fx X w w') (hX : X < base) : OwnK w' base e k R v l :=
  h.keep hR (fun b hb hlt => hf.block b hlt (fun e => by have : b = X := Option.some.inj e; omega))
theorem OwnK.set {α : Type} {w : World} {base e k : Nat} {R : (Nat → Prop) → World → α → List Value → Prop} {v : Value} {l : List α} (hR : Kp R) (h : OwnK w base e k R v l) {X i : Nat} (hX : X < base) (u : Value) : OwnK (w.setCell ⟨X, i, none⟩ u) base e k R v l :=
  h.keep hR (fun b hb _ => Below.heap_setCell _ _ _ _ (fun e => by have : b = X := e; omega))
theorem OwnK.form {α : Type} {w : World} {base e k : Nat} {R : (Nat → Prop) → World → α → List Value → Prop} {v : Value} {l : List α} (h : OwnK w base e k R v l) : ∃ a cap, v = .slice a l.length cap ∧ l.length ≤ cap ∧ cap ≤ maxLen := by
  obtain ⟨qs, ho, _⟩ := h
  rcases ho.2 with ⟨h1, h2⟩ | ⟨g, cap, cur, h1, _, _, h3, h4, _⟩
  · exact ⟨none, 0, by rw [h1, h2], by omega, by simp [maxLen]⟩
  · exact ⟨_, _, h1, h3, h4⟩
/-- One more. The new one's memory lies from lo on, and the old row's block below. -/
theorem OwnK.snoc {α : Type} {w w' : World} {base e k lo n : Nat} {R : (Nat → Prop) → World → α → List Value → Prop} {v v' : Value} {l : List α} {p : α} {cs : List Value} {qs : List (List Value)} (hR : Kp R) (hk : cs.length = k)
    (hn : l.length = n) (ho : w.ownsRow base e k v n qs.flatten) (hl : qs.length = l.length) (hr : ∀ (i : Nat) (h : i < l.length) (h' : i < qs.length), (qs[i]).length = k ∧ R (fun b => base ≤ b ∧ v.ownBlock ≠ some b) w l[i] qs[i])
    (ho' : w'.ownsRow base e k v' (n + 1) (qs.flatten ++ cs)) (hg : w.grownBy w' v.ownBlock) (hat : v'.ownBlock = v.ownBlock ∨ v'.ownBlock = some w.heap.size)
    (hp : R (fun b => lo ≤ b) w p cs) (hlo : base ≤ lo) (hv : ∀ x, v.ownBlock = some x → x < lo) : OwnK w' base e k R v' (l ++ [p]) := by
  subst hn
  have key : ∀ b, base ≤ b ∧ v.ownBlock ≠ some b → b < w.heap.size → (base ≤ b ∧ v'.ownBlock ≠ some b) ∧ w'.heap[b]? = w.heap[b]? := fun b hb hlt => by
    refine ⟨⟨hb.1, fun e => ?_⟩, hg.block b hlt (fun e => hb.2 e.symm)⟩
    rcases hat with h | h
    · exact hb.2 (h ▸ e)
    · rw [h] at e; have : w.heap.size = b := Option.some.inj e; omega
  refine ⟨qs ++ [cs], ?_, by simp [hl], fun i h h' => ?_⟩
  · rw [List.flatten_append, List.length_append]
    simpa using ho'
  · rcases Nat.lt_or_ge i l.length with hi | hi
    · rw [List.getElem_append_left hi, List.getElem_append_left (by omega)]
      exact ⟨(hr i hi (by omega)).1, hR (hr i hi (by omega)).2 key⟩
    · have : i = l.length := by simp at h; omega
      subst this
      have e1 : (l ++ [p])[l.length] = p := by simp
      have e2 : (qs ++ [cs])[l.length]'h' = cs := by simp [← hl]
      rw [e1, e2]
      exact ⟨hk, hR hp (fun b hb hlt => key b ⟨by omega, fun e => by have := hv b e; omega⟩ hlt)⟩
theorem flat_at {k : Nat} : ∀ (qs : List (List Value)) (i j : Nat) (h : i < qs.length) (u : Value), (∀ (i : Nat) (h : i < qs.length), (qs[i]).length = k) → (qs[i])[j]? = some u → qs.flatten[i * k + j]? = some u
  | [], i, j, h, u, _, _ => by simp at h
  | x :: t, 0, j, h, u, hk, hu => by
    have hu' : x[j]? = some u := hu
    have hj := (List.getElem?_eq_some_iff.1 hu').1
    rw [List.flatten_cons, Nat.zero_mul, Nat.zero_add, List.getElem?_append_left hj]
    exact hu'
  | x :: t, i + 1, j, h, u, hk, hu => by
    have hx : x.length = k := hk 0 (by simp)
    have e : (i + 1) * k + j = x.length + (i * k + j) := by rw [hx, Nat.succ_mul]; omega
    rw [List.flatten_cons, e, List.getElem?_append_right (by omega), Nat.add_sub_cancel_left]
    exact flat_at t i j (by simpa using h) u (fun i h => hk (i + 1) (by simpa using h)) hu
/-- It reads as the list. -/
theorem OwnK.rd {α : Type} {w : World} {base e k : Nat} {R : (Nat → Prop) → World → α → List Value → Prop} {v : Value} {l : List α} (hR : Kp R) (h : OwnK w base e k R v l) : RdK (fun b => base ≤ b) w k (R (fun b => base ≤ b) w) l v := by
  obtain ⟨qs, ho, hl, hr⟩ := h
  have hc := fun g => World.ownsRow.cells ho (g := g)
  rcases ho.2 with ⟨rfl, hn⟩ | ⟨g, cap, cur, rfl, hb, hg, hnc, hcm, hcs, htake⟩
  · have hx : l = [] := List.eq_nil_of_length_eq_zero hn
    subst hx
    exact rdK_none _ w k _
  · refine ⟨some ⟨g, 0, none⟩, cap, rfl, hnc, hcm, fun i hi => ⟨g, 0, qs[i], rfl, hb, (Array.getElem?_eq_some_iff.1 hg).1, (hr i hi (by omega)).1, hR (hr i hi (by omega)).2 (fun b hb _ => ⟨hb.1, rfl⟩), fun j u hu => ?_⟩⟩
    have := hc g rfl (i * k + j) u (flat_at qs i j (by omega) u (fun i h => (hr i (by omega) h).1) hu)
    rw [add_plain] at this
    rw [Nat.zero_add]
    rwa [Nat.zero_add] at this
/-- Read from a lower block on. -/
theorem RdK.low {α : Type} {w : World} {base lo k : Nat} {R : (Nat → Prop) → World → α → List Value → Prop} {v : Value} {l : List α} (hR : Kp R) (h : RdK (fun b => base ≤ b) w k (R (fun b => base ≤ b) w) l v) (hlo : lo ≤ base) : RdK (fun b => lo ≤ b) w k (R (fun b => lo ≤ b) w) l v :=
  h.keep (fun x _ u hu => hR hu (fun b hb _ => ⟨by omega, rfl⟩)) (fun b hb _ => ⟨by omega, rfl⟩)
theorem RdK.stay {α : Type} {ok ok' : Nat → Prop} {w w' : World} {k : Nat} {R : (Nat → Prop) → World → α → List Value → Prop} {v : Value} {l : List α} (hR : Kp R) (h : RdK ok w k (R ok w) l v) (hk : ∀ b, ok b → b < w.heap.size → ok' b ∧ w'.heap[b]? = w.heap[b]?) : RdK ok' w' k (R ok' w') l v :=
  h.keep (fun x _ u hu => hR hu hk) hk

theorem cells_new {w : World} {cs : List Value} {e : TypeId} : ∀ j u, cs[j]? = some u → (w.alloc (.cells cs.toArray e)).cell? ((⟨w.heap.size, 0, none⟩ : Addr).add j) = some u := fun j u hu => by
  rw [add_plain, Nat.zero_add]
  exact (Bn.new w cs e _ rfl j u hu).1
theorem src_row {P : Program} {t e : TypeId} (ht : P.underlying t = some (.slice e)) (w : World) {k : Nat} (cs : List Value) (hk : cs.length = k) (h1 : ∀ u ∈ cs, u.oneCell' = true) : Src P k t (.slice (some ⟨w.heap.size, 0, none⟩) 1 1) 1 cs (w.alloc (.cells cs.toArray e)) :=
  Src.ofSlice _ ht _ 1 1 _ (by rw [Nat.one_mul]; exact hk) cells_new h1
/-- Nothing but two blocks has turned, and new blocks. -/
structure Fy (X Y : Nat) (w w' : World) : Prop where
  os : w'.os = w.os
  tape : w'.tape = w.tape
  output : w'.output = w.output
  size : w.heap.size ≤ w'.heap.size
  block : ∀ k, k < w.heap.size → k ≠ X → k ≠ Y → w'.heap[k]? = w.heap[k]?
theorem Fy.of {X Y : Nat} {a b : World} (h : Fx X a b) : Fy X Y a b := ⟨h.os, h.tape, h.output, h.size, fun k hk h1 _ => h.block k hk (fun e => h1 (Option.some.inj e))⟩
theorem Fy.trans {X Y : Nat} {a b c : World} (h : Fy X Y a b) (k : Fy X Y b c) : Fy X Y a c :=
  ⟨k.os.trans h.os, k.tape.trans h.tape, k.output.trans h.output, Nat.le_trans h.size k.size, fun j hj h1 h2 => (k.block j (Nat.lt_of_lt_of_le hj h.size) h1 h2).trans (h.block j hj h1 h2)⟩

/-- A node: name; parent, depth, behind; all, end, leaf. -/
abbrev Nd := ByteArray × (Int × Int × Int) × (Bool × Bool × Bool)
def ndV (n : Nd) : List Value := [.string n.1, .int .i64 n.2.1.1, .int .i64 n.2.1.2.1, .int .i64 n.2.1.2.2, .bool n.2.2.1, .bool n.2.2.2.1, .bool n.2.2.2.2]
def ndZ : Nd := (⟨#[]⟩, (0, 0, 0), (false, false, false))
def nAt (l : List Nd) (i : Nat) : Nd := l.getD i ndZ
def nP (l : List Nd) (i : Nat) : Int := (nAt l i).2.1.1
def nD (l : List Nd) (i : Nat) : Int := (nAt l i).2.1.2.1
def nB (l : List Nd) (i : Nat) : Int := (nAt l i).2.1.2.2
def nL (l : List Nd) (i : Nat) : Bool := (nAt l i).2.2.2.2
def rNd (ok : Nat → Prop) (w : World) (n : Nd) (cs : List Value) : Prop := cs = ndV n
theorem kp_nd : Kp rNd := fun _ _ _ _ _ _ h _ => h
abbrev RdNd (ok : Nat → Prop) (w : World) (l : List Nd) (v : Value) : Prop := RdK ok w 7 (rNd ok w) l v
theorem nAt_get {l : List Nd} {j : Nat} (hj : j < l.length) : nAt l j = l[j] := by unfold nAt; simp [hj]
/-- A node's cells. -/
theorem nd_at {ok : Nat → Prop} {w : World} {l : List Nd} {a : Option Addr} {n cap : Nat} (h : RdNd ok w l (.slice a n cap)) (j : Nat) (hj : j < l.length) : ∃ b off, a = some ⟨b, off, none⟩ ∧ b < w.heap.size ∧
    w.cell? ⟨b, off + j * 7, none⟩ = some (.string (nAt l j).1) ∧ w.cell? ⟨b, off + j * 7 + 1, none⟩ = some (.int .i64 (nP l j)) ∧ w.cell? ⟨b, off + j * 7 + 2, none⟩ = some (.int .i64 (nD l j)) ∧ w.cell? ⟨b, off + j * 7 + 3, none⟩ = some (.int .i64 (nB l j)) ∧
    w.cell? ⟨b, off + j * 7 + 4, none⟩ = some (.bool (nAt l j).2.2.1) ∧ w.cell? ⟨b, off + j * 7 + 5, none⟩ = some (.bool (nAt l j).2.2.2.1) ∧ w.cell? ⟨b, off + j * 7 + 6, none⟩ = some (.bool (nL l j)) := by
  obtain ⟨a1, cap1, he, h1, h2, h3⟩ := h
  simp only [Value.slice.injEq] at he
  obtain ⟨rfl, rfl, rfl⟩ := he
  obtain ⟨b, off, cs, ha, _, hb, hl, hr, hc⟩ := h3 j hj
  have hr : cs = ndV l[j] := hr
  subst hr
  rw [← nAt_get hj] at hc
  exact ⟨b, off, ha, hb, hc 0 _ rfl, hc 1 _ rfl, hc 2 _ rfl, hc 3 _ rfl, hc 4 _ rfl, hc 5 _ rfl, hc 6 _ rfl⟩
instance (D : Nat → Int) (n : Nat) : Decidable (nst D n) := by unfold nst; infer_instance
instance (n : Nat) (D P B : Nat → Int) (L : Nat → Bool) : Decidable (FmP n D P B L) := by unfold FmP; infer_instance
/-- Are nodes formed? -/
def fmB (l : List Nd) : Bool := decide (FmP l.length (nD l) (nP l) (nB l) (nL l))
def nsB (l : List Nd) : Bool := decide (nst (nD l) l.length)
/-- A node as it follows of how deep they lie. -/
def plN (l : List Nd) (i : Nat) : Nd := ((nAt l i).1, (ppar (nD l) (nD l i) i, nD l i, (pbeh (nD l) (nD l i) (l.length - (i + 1)) (i + 1) : Nat)), ((nAt l i).2.2.1, (nAt l i).2.2.2.1, decide (pbeh (nD l) (nD l i) (l.length - (i + 1)) (i + 1) = i + 1)))
theorem cell_drw {w : World} {p : Addr} {v : Value} (h : w.cell? p = some v) : w.drew.cell? p = some v := h
theorem Below.nxt {w wc w1 : World} (h : Below w.heap.size w wc) (b : Below wc.heap.size wc w1) : Below w.heap.size w w1 := h.trans (b.mono h.size)
theorem Below.nxtd {w wc w1 : World} (h : Below w.heap.size w wc) (b : Below wc.drew.heap.size wc.drew w1) : Below w.heap.size w w1 := (h.drew).trans (b.mono h.size)
theorem hidOf {p : Prop} (h : p) : Hid p := h
theorem RdK.on {α : Type} {ok : Nat → Prop} {w w' : World} {k : Nat} {R : (Nat → Prop) → World → α → List Value → Prop} {v : Value} {l : List α} (hR : Kp R) (h : RdK ok w k (R ok w) l v) (hb : Below w.heap.size w w') : RdK ok w' k (R ok w') l v :=
  h.stay hR (fun b hk hlt => ⟨hk, hb.block b hlt⟩)
end Go.Proofs.Ytbccdkhbplmknaa

/- What the program's nested and placed answer. -/
namespace Go.Proofs.Ytbccdkhbplmknaa
open Go.RowKit Go.Lib
set_option linter.unusedSimpArgs false
set_option linter.unusedVariables false
attribute [local go_sem ↓] Go.wp_at_zero Go.wp_at_succ

theorem nst_succ {D : Nat → Int} {j : Nat} {m : Int} (h : nst D j) (hm : (j = 0 ∧ m = 0) ∨ (0 < j ∧ m = D (j - 1) + 1)) : nst D (j + 1) ↔ (0 ≤ D j ∧ D j ≤ m) := by
  constructor
  · intro h2
    have := h2 j (by omega)
    rcases hm with ⟨rfl, rfl⟩ | ⟨h0, rfl⟩
    · exact ⟨this.1, this.2.1 rfl⟩
    · exact ⟨this.1, this.2.2 h0⟩
  · rintro ⟨h1, h2⟩ i hi
    rcases Nat.lt_or_ge i j with h3 | h3
    · exact h i h3
    · have : i = j := by omega
      subst this
      rcases hm with ⟨rfl, rfl⟩ | ⟨h0, rfl⟩
      · exact ⟨h1, fun _ => h2, fun h => by omega⟩
      · exact ⟨h1, fun h => by omega, fun _ => h2⟩
theorem nst_le {D : Nat → Int} {j n : Nat} (h : nst D n) (hj : j ≤ n) : nst D j := fun i hi => h i (by omega)
set_option maxRecDepth 100000 in
set_option maxHeartbeats 4000000 in
theorem nested_any {ok : Nat → Prop} {w : World} {l : List Nd} {v : Value} (h : RdNd ok w l v) (h40 : l.length ≤ 40) :
    Calls Try.prog 34 #[v] w fun e w' => e = .returned (.bool (nsB l)) ∧ Below w.heap.size w w' := by
  obtain ⟨a, cap, rfl, hlc, hcm⟩ := h.form
  unfold maxLen at hcm
  obtain ⟨V, hV⟩ : ∃ V, nsB l = V := ⟨_, rfl⟩
  rw [hV]
  have HV : Hid (nsB l = V) := hV
  have HC := hidOf h
  obtain ⟨n, hn⟩ : ∃ n, l.length = n := ⟨_, rfl⟩
  rw [hn] at hlc h40 ⊢
  have HN : Hid (l.length = n) := hn
  clear h hV hn
  go_enter Try.func34, Try.ntmps34
  go_wp2
  go_loopw [3, 8] (fun mo ix wr => ∃ (j : Nat) (m : Int), j ≤ n ∧ ix = .int .i64 (j : Int) ∧ mo = .int .i64 m ∧ 0 ≤ m ∧ m ≤ j ∧ Hid (nst (nD l) j ∧ ((j = 0 ∧ m = 0) ∨ (0 < j ∧ m = nD l (j - 1) + 1))) ∧ Below w.heap.size w wr) (fun _ ix _ => n - (RowKit.intOf ix).toNat)
  case atStart => exact ⟨0, 0, Nat.zero_le _, rfl, rfl, by omega, by omega, ⟨fun i hi => by omega, .inl ⟨rfl, rfl⟩⟩, Below.refl _ _⟩
  case round =>
    obtain ⟨j, m, hj, rfl, rfl, hm0, hmj, HI, hb⟩ := hrel
    by_cases hlt : j < n
    · obtain ⟨b, off, rfl, hbl, c0, c1, c2, c3, c4, c5, c6⟩ := nd_at HC.out j (by rw [HN.out]; exact hlt)
      replace c0 := (hb.cell (p := ⟨b, off + j * 7, none⟩) hbl).trans c0
      replace c1 := (hb.cell (p := ⟨b, off + j * 7 + 1, none⟩) hbl).trans c1
      replace c2 := (hb.cell (p := ⟨b, off + j * 7 + 2, none⟩) hbl).trans c2
      replace c3 := (hb.cell (p := ⟨b, off + j * 7 + 3, none⟩) hbl).trans c3
      replace c4 := (hb.cell (p := ⟨b, off + j * 7 + 4, none⟩) hbl).trans c4
      replace c5 := (hb.cell (p := ⟨b, off + j * 7 + 5, none⟩) hbl).trans c5
      replace c6 := (hb.cell (p := ⟨b, off + j * 7 + 6, none⟩) hbl).trans c6
      obtain ⟨d, hd⟩ : ∃ d, nD l j = d := ⟨_, rfl⟩
      rw [hd] at c2
      have HS : Hid (nst (nD l) (j + 1) ↔ (0 ≤ d ∧ d ≤ m)) := by rw [← hd]; exact nst_succ HI.out.1 HI.out.2
      have HD : Hid (nD l j = d) := hd
      generalize (nAt l j).1 = x0 at c0
      generalize nP l j = x1 at c1
      generalize nB l j = x3 at c3
      generalize (nAt l j).2.2.1 = x4 at c4
      generalize (nAt l j).2.2.2.1 = x5 at c5
      generalize nL l j = x6 at c6
      clear hd
      have i1 : (j : Int) < (n : Int) := by omega
      have i2 : (0 : Int) ≤ (j : Int) := by omega
      have hb1 := hb.alloc hb.size (.cells #[.string x0, .int .i64 x1, .int .i64 d, .int .i64 x3, .bool x4, .bool x5, .bool x6] 72)
      have hF : (d < 0 ∨ m < d) → V = false := fun h => by
        rw [← HV.out]
        unfold nsB
        rw [decide_eq_false]
        intro h2
        have := HS.out.1 (nst_le h2 (by rw [HN.out]; omega))
        omega
      by_cases hd0 : d < 0
      · have hF := hF (.inl hd0)
        subst hF
        go_wp2
        go_ret
        exact ⟨rfl, hb1⟩
      by_cases hdm : m < d
      · have hF := hF (.inr hdm)
        subst hF
        go_wp2
        go_ret
        exact ⟨rfl, hb1⟩
      clear hF
      have hd1 : 0 ≤ d := by omega
      have hd2 : d ≤ m := by omega
      go_wp2
      go_roundw
      case rel => exact ⟨j + 1, d + 1, hlt, by go_num, rfl, by omega, by omega, ⟨HS.out.2 ⟨hd1, hd2⟩, .inr ⟨by omega, by rw [Nat.add_sub_cancel, HD.out]⟩⟩, hb1⟩
      case measure => simp [RowKit.intOf]; omega
    · have i1 : ¬ (j : Int) < (n : Int) := by omega
      have hT : V = true := by
        rw [← HV.out]
        unfold nsB
        rw [decide_eq_true]
        rw [HN.out]
        have : j = n := by omega
        rw [← this]
        exact HI.out.1
      subst hT
      go_wp2
      go_ret
      exact ⟨rfl, hb⟩
end Go.Proofs.Ytbccdkhbplmknaa

/- Rows of the call's own that lie apart from others; an element put in the place of a zero one. -/
namespace Go.Proofs.Ytbccdkhbplmknaa
open Go.RowKit Go.Lib
set_option linter.unusedSimpArgs false
set_option linter.unusedVariables false

/-- As OwnK; nothing of it lies in a block that is bad. -/
def OwnB {α : Type} (w : World) (base : Nat) (bad : Nat → Prop) (e k : Nat) (R : (Nat → Prop) → World → α → List Value → Prop) (v : Value) (l : List α) : Prop :=
  ∃ qs : List (List Value), w.ownsRow base e k v l.length qs.flatten ∧ qs.length = l.length ∧ (∀ (i : Nat) (h : i < l.length) (h' : i < qs.length), (qs[i]).length = k ∧ R (fun b => base ≤ b ∧ v.ownBlock ≠ some b ∧ ¬ bad b) w l[i] qs[i]) ∧ ∀ g, v.ownBlock = some g → ¬ bad g
theorem ownB_nil {α : Type} (w : World) (base : Nat) (bad : Nat → Prop) (e k : Nat) (R : (Nat → Prop) → World → α → List Value → Prop) : OwnB w base bad e k R (.slice none 0 0) [] := ⟨[], World.ownsRow_nil w base e k, rfl, fun i h => absurd h (by simp), fun g hg => by simp [Value.ownBlock] at hg⟩
theorem OwnB.keep {α : Type} {w w' : World} {base e k : Nat} {bad bad' : Nat → Prop} {R : (Nat → Prop) → World → α → List Value → Prop} {v : Value} {l : List α} (hR : Kp R) (h : OwnB w base bad e k R v l) (hk : ∀ b, base ≤ b → ¬ bad b → b < w.heap.size → w'.heap[b]? = w.heap[b]? ∧ ¬ bad' b) : OwnB w' base bad' e k R v l := by
  obtain ⟨qs, ho, hl, hr, hg0⟩ := h
  refine ⟨qs, ownsRow_keep ho (fun g hg => ?_), hl, fun i h h' => ⟨(hr i h h').1, hR (hr i h h').2 (fun b hb hlt => ⟨⟨hb.1, hb.2.1, (hk b hb.1 hb.2.2 hlt).2⟩, (hk b hb.1 hb.2.2 hlt).1⟩)⟩, fun g hg => ?_⟩
  · obtain ⟨a, b⟩ := ownsRow_lt ho g hg
    exact (hk g a (hg0 g hg) b).1
  · obtain ⟨a, b⟩ := ownsRow_lt ho g hg
    exact (hk g a (hg0 g hg) b).2
theorem OwnB.on {α : Type} {w w' : World} {base e k : Nat} {bad : Nat → Prop} {R : (Nat → Prop) → World → α → List Value → Prop} {v : Value} {l : List α} (hR : Kp R) (h : OwnB w base bad e k R v l) (hb : Below w.heap.size w w') : OwnB w' base bad e k R v l := h.keep hR (fun b _ hbad hlt => ⟨hb.block b hlt, hbad⟩)
theorem OwnB.fx {α : Type} {w w' : World} {base e k X : Nat} {bad : Nat → Prop} {R : (Nat → Prop) → World → α → List Value → Prop} {v : Value} {l : List α} (hR : Kp R) (h : OwnB w base bad e k R v l) (hf : Fx X w w') (hX : X < base) : OwnB w' base bad e k R v l :=
  h.keep hR (fun b hb hbad hlt => ⟨hf.block b hlt (fun e => by have : b = X := Option.some.inj e; omega), hbad⟩)
theorem OwnB.set {α : Type} {w : World} {base e k : Nat} {bad : Nat → Prop} {R : (Nat → Prop) → World → α → List Value → Prop} {v : Value} {l : List α} (hR : Kp R) (h : OwnB w base bad e k R v l) {X i : Nat} (hX : X < base) (u : Value) : OwnB (w.setCell ⟨X, i, none⟩ u) base bad e k R v l :=
  h.keep hR (fun b hb hbad _ => ⟨Below.heap_setCell _ _ _ _ (fun e => by have : b = X := e; omega), hbad⟩)
theorem OwnB.form {α : Type} {w : World} {base e k : Nat} {bad : Nat → Prop} {R : (Nat → Prop) → World → α → List Value → Prop} {v : Value} {l : List α} (h : OwnB w base bad e k R v l) : ∃ a cap, v = .slice a l.length cap ∧ l.length ≤ cap ∧ cap ≤ maxLen := by
  obtain ⟨qs, ho, _⟩ := h
  rcases ho.2 with ⟨h1, h2⟩ | ⟨g, cap, cur, h1, _, _, h3, h4, _⟩
  · exact ⟨none, 0, by rw [h1, h2], by omega, by simp [maxLen]⟩
  · exact ⟨_, _, h1, h3, h4⟩
theorem OwnB.lt {α : Type} {w : World} {base e k : Nat} {bad : Nat → Prop} {R : (Nat → Prop) → World → α → List Value → Prop} {v : Value} {l : List α} (h : OwnB w base bad e k R v l) : ∀ g, v.ownBlock = some g → base ≤ g ∧ g < w.heap.size := by
  obtain ⟨qs, ho, _⟩ := h
  exact ownsRow_lt ho
/-- The other row has grown. -/
theorem OwnB.other {α : Type} {w w' : World} {base e k : Nat} {u u' : Value} {R : (Nat → Prop) → World → α → List Value → Prop} {v : Value} {l : List α} (hR : Kp R) (h : OwnB w base (fun b => u.ownBlock = some b) e k R v l) (hg : w.grownBy w' u.ownBlock) (hat : u'.ownBlock = u.ownBlock ∨ u'.ownBlock = some w.heap.size) : OwnB w' base (fun b => u'.ownBlock = some b) e k R v l :=
  h.keep hR (fun b hb hbad hlt => ⟨hg.block b hlt (fun e => hbad e.symm), fun q => by
    rcases hat with h | h
    · exact hbad (h ▸ q)
    · rw [h] at q; have : w.heap.size = b := Option.some.inj q; omega⟩)
theorem OwnB.snoc {α : Type} {w w' : World} {base e k lo n : Nat} {bad : Nat → Prop} {R : (Nat → Prop) → World → α → List Value → Prop} {v v' : Value} {l : List α} {p : α} {cs : List Value} {qs : List (List Value)} (hR : Kp R) (hk : cs.length = k)
    (hn : l.length = n) (ho : w.ownsRow base e k v n qs.flatten) (hl : qs.length = l.length) (hr : ∀ (i : Nat) (h : i < l.length) (h' : i < qs.length), (qs[i]).length = k ∧ R (fun b => base ≤ b ∧ v.ownBlock ≠ some b ∧ ¬ bad b) w l[i] qs[i])
    (ho' : w'.ownsRow base e k v' (n + 1) (qs.flatten ++ cs)) (hg : w.grownBy w' v.ownBlock) (hat : v'.ownBlock = v.ownBlock ∨ v'.ownBlock = some w.heap.size)
    (hp : R (fun b => lo ≤ b) w p cs) (hlo : base ≤ lo) (hv : ∀ x, v.ownBlock = some x → x < lo) (hbad : ∀ b, bad b → b < lo ∧ b < w.heap.size) (hvb : ∀ g, v.ownBlock = some g → ¬ bad g) : OwnB w' base bad e k R v' (l ++ [p]) := by
  subst hn
  have key : ∀ b, base ≤ b ∧ v.ownBlock ≠ some b ∧ ¬ bad b → b < w.heap.size → (base ≤ b ∧ v'.ownBlock ≠ some b ∧ ¬ bad b) ∧ w'.heap[b]? = w.heap[b]? := fun b hb hlt => by
    refine ⟨⟨hb.1, fun e => ?_, hb.2.2⟩, hg.block b hlt (fun e => hb.2.1 e.symm)⟩
    rcases hat with h | h
    · exact hb.2.1 (h ▸ e)
    · rw [h] at e; have : w.heap.size = b := Option.some.inj e; omega
  refine ⟨qs ++ [cs], ?_, by simp [hl], fun i h h' => ?_, fun g hg' => ?_⟩
  · rw [List.flatten_append, List.length_append]
    simpa using ho'
  · rcases Nat.lt_or_ge i l.length with hi | hi
    · rw [List.getElem_append_left hi, List.getElem_append_left (by omega)]
      exact ⟨(hr i hi (by omega)).1, hR (hr i hi (by omega)).2 key⟩
    · have : i = l.length := by simp at h; omega
      subst this
      have e1 : (l ++ [p])[l.length] = p := by simp
      have e2 : (qs ++ [cs])[l.length]'h' = cs := by simp [← hl]
      rw [e1, e2]
      exact ⟨hk, hR hp (fun b hb hlt => key b ⟨by omega, fun e => by have := hv b e; omega, fun q => by have := (hbad b q).1; omega⟩ hlt)⟩
  · rcases hat with h | h
    · exact hvb g (h ▸ hg')
    · rw [h] at hg'
      have : w.heap.size = g := Option.some.inj hg'
      intro q
      have := (hbad g q).2
      omega
theorem OwnB.rd {α : Type} {w : World} {base e k : Nat} {bad : Nat → Prop} {R : (Nat → Prop) → World → α → List Value → Prop} {v : Value} {l : List α} (hR : Kp R) (h : OwnB w base bad e k R v l) : RdK (fun b => base ≤ b) w k (R (fun b => base ≤ b) w) l v := by
  obtain ⟨qs, ho, hl, hr, _⟩ := h
  exact OwnK.rd hR ⟨qs, ho, hl, fun i h h' => ⟨(hr i h h').1, hR (hr i h h').2 (fun b hb _ => ⟨⟨hb.1, hb.2.1⟩, rfl⟩)⟩⟩
theorem step_pushB {α : Type} {P : Program} (w : World) {ops : Array Oper} {o : Oper} {a : Act} {K : Act → World → Prop} {Q : Exit → Act → World → Prop} {E : Prop} (hgd : o.guard = none) (s x : Operand) (t : TypeId)
    (ho : o.op = .call { callee := .builtin .append, args := #[s, x], argTypes := #[t, t] })
    (base : Nat) (bad : Nat → Prop) (e : TypeId) (i : TypeInfo) (z : Value) (k bytes : Nat) (ht : P.underlying t = some (.slice e)) (hi : P.info? e = some i) (hz : i.zero = some z)
    (hsize : i.size = k) (hby : i.bytes = bytes) (hzs : z.cells.size = k) {R : (Nat → Prop) → World → α → List Value → Prop} (hR : Kp R)
    (v : Value) (l : List α) (p : α) (cs : List Value) (lo : Nat) (hs : a.eval s = v) (hx : a.eval x = .slice (some ⟨w.heap.size, 0, none⟩) 1 1) (hk : cs.length = k) (h1 : ∀ u ∈ cs, u.oneCell' = true)
    (hown : OwnB w base bad e k R v l) (hp : R (fun b => lo ≤ b) w p cs) (hlo : base ≤ lo) (hv : ∀ x, v.ownBlock = some x → x < lo) (hbad : ∀ b, bad b → b < lo ∧ b < w.heap.size) (hroom : (l.length + 1 + (l.length + 1) / 4 + 192) * bytes ≤ 281474976710656)
    (h63 : l.length + 1 ≤ maxLen) (hbase : base ≤ w.heap.size)
    (h : ∀ v' w', OwnB w' base bad e k R v' (l ++ [p]) → (w.alloc (.cells cs.toArray e)).grownBy w' v.ownBlock → Below base w w' → (v'.ownBlock = v.ownBlock ∨ v'.ownBlock = some (w.alloc (.cells cs.toArray e)).heap.size) → K (a.put o.dst v') w') :
    if Region.wanted o (yielded ops a.tmps) = true then Oper.wp P o a (w.alloc (.cells cs.toArray e)) K Q else E := by
  have hal : Below w.heap.size w (w.alloc (.cells cs.toArray e)) := (Below.refl _ _).alloc (Nat.le_refl _) _
  obtain ⟨qs, ho1, hl1, hr1, hg1⟩ := hown.on hR hal
  refine step_append_at _ hgd s x t t ho base e i z k bytes ht hi hz hsize hby hzs v l.length qs.flatten hs ho1 _ 1 cs hx (src_row ht w cs hk h1) 1 (.inr hroom) (Nat.le_refl _) h63 (Nat.le_trans hbase hal.size) ?_
  intro v' w' hown' hg hat
  refine h v' w' (OwnB.snoc hR hk rfl ho1 hl1 hr1 hown' hg hat (hR hp (fun b hb hlt => ⟨hb, hal.block b hlt⟩)) hlo hv (fun b q => ⟨(hbad b q).1, Nat.lt_of_lt_of_le (hbad b q).2 hal.size⟩) hg1) hg ?_ hat
  exact ((Below.refl base w).alloc hbase _).grown hg (Nat.le_trans hbase hal.size) (fun k hk => (World.ownsRow.lt ho1 k hk).1)
/-- Cells written one behind the other. -/
def putL (w : World) (g : Nat) : Nat → List Value → World
  | _, [] => w
  | o, c :: cs => putL (w.setCell ⟨g, o, none⟩ c) g (o + 1) cs
theorem putL_own : ∀ (cs zs xs ys : List Value) (w : World) (base e k : Nat) (g n cap o : Nat), zs.length = cs.length → xs.length = o → w.ownsRow base e k (.slice (some ⟨g, 0, none⟩) n cap) n (xs ++ zs ++ ys) → (putL w g o cs).ownsRow base e k (.slice (some ⟨g, 0, none⟩) n cap) n (xs ++ cs ++ ys)
  | [], zs, xs, ys, w, base, e, k, g, n, cap, o, hz, hx, h => by
    have : zs = [] := List.eq_nil_of_length_eq_zero (by simpa using hz)
    subst this
    exact h
  | c :: cs, [], xs, ys, w, base, e, k, g, n, cap, o, hz, hx, h => by simp at hz
  | c :: cs, z :: zs, xs, ys, w, base, e, k, g, n, cap, o, hz, hx, h => by
    have h1 := (World.ownsRow.stored h o c).1
    have e1 : (xs ++ z :: zs ++ ys).set o c = (xs ++ [c]) ++ zs ++ ys := by
      subst hx
      simp
    rw [e1] at h1
    have h2 := putL_own cs zs (xs ++ [c]) ys _ base e k g n cap (o + 1) (by simpa using hz) (by simp [hx]) h1
    have e2 : xs ++ [c] ++ cs ++ ys = xs ++ (c :: cs) ++ ys := by simp
    rw [e2] at h2
    exact h2
theorem putL_heap : ∀ (cs : List Value) (w : World) (g o k : Nat), k ≠ g → (putL w g o cs).heap[k]? = w.heap[k]?
  | [], w, g, o, k, h => rfl
  | c :: cs, w, g, o, k, h => by
    unfold putL
    rw [putL_heap cs _ g (o + 1) k h]
    exact Below.heap_setCell _ _ _ _ (fun e => h e)
theorem putL_below {B : Nat} {u : World} : ∀ (cs : List Value) (w : World) (g o : Nat), Below B u w → B ≤ g → Below B u (putL w g o cs)
  | [], w, g, o, h, hg => h
  | c :: cs, w, g, o, h, hg => putL_below cs _ g (o + 1) (h.setCell hg c) hg

/-- The row v', of l and a zero element. -/
def ZR {α : Type} (w : World) (base : Nat) (bad : Nat → Prop) (e k : Nat) (R : (Nat → Prop) → World → α → List Value → Prop) (zs : List Value) (g cap : Nat) (l : List α) : Prop :=
  base ≤ g ∧ g < w.heap.size ∧ ¬ bad g ∧ ∃ qs : List (List Value), w.ownsRow base e k (.slice (some ⟨g, 0, none⟩) (l.length + 1) cap) (l.length + 1) (qs.flatten ++ zs) ∧ qs.length = l.length ∧ ∀ (i : Nat) (h : i < l.length) (h' : i < qs.length), (qs[i]).length = k ∧ R (fun b => base ≤ b ∧ g ≠ b ∧ ¬ bad b) w l[i] qs[i]
theorem ZR.keep {α : Type} {w w' : World} {base e k g cap : Nat} {bad : Nat → Prop} {R : (Nat → Prop) → World → α → List Value → Prop} {zs : List Value} {l : List α} (hR : Kp R) (h : ZR w base bad e k R zs g cap l) (hs : w.heap.size ≤ w'.heap.size) (hk : ∀ b, base ≤ b → ¬ bad b → b < w.heap.size → w'.heap[b]? = w.heap[b]?) : ZR w' base bad e k R zs g cap l := by
  obtain ⟨h1, h2, h3, qs, ho, hl, hr⟩ := h
  refine ⟨h1, by omega, h3, qs, ownsRow_keep ho (fun g' hg => ?_), hl, fun i h h' => ⟨(hr i h h').1, hR (hr i h h').2 (fun b hb hlt => ⟨hb, hk b hb.1 hb.2.2 hlt⟩)⟩⟩
  simp only [Value.ownBlock, Option.some.injEq] at hg
  subst hg
  exact hk g h1 h3 h2
theorem ZR.on {α : Type} {w w' : World} {base e k g cap : Nat} {bad : Nat → Prop} {R : (Nat → Prop) → World → α → List Value → Prop} {zs : List Value} {l : List α} (hR : Kp R) (h : ZR w base bad e k R zs g cap l) (hb : Below w.heap.size w w') : ZR w' base bad e k R zs g cap l := h.keep hR hb.size (fun b _ _ hlt => hb.block b hlt)
theorem ZR.fx {α : Type} {w w' : World} {base e k g cap X : Nat} {bad : Nat → Prop} {R : (Nat → Prop) → World → α → List Value → Prop} {zs : List Value} {l : List α} (hR : Kp R) (h : ZR w base bad e k R zs g cap l) (hf : Fx X w w') (hX : X < base) : ZR w' base bad e k R zs g cap l :=
  h.keep hR hf.size (fun b hb _ hlt => hf.block b hlt (fun e => by have : b = X := Option.some.inj e; omega))
theorem flat_len {k : Nat} : ∀ (qs : List (List Value)), (∀ (i : Nat) (h : i < qs.length), (qs[i]).length = k) → qs.flatten.length = qs.length * k
  | [], _ => by simp
  | x :: t, h => by
    have hx : x.length = k := h 0 (by simp)
    rw [List.flatten_cons, List.length_append, flat_len t (fun i hi => h (i + 1) (by simpa using hi)), List.length_cons, Nat.succ_mul]
    omega
theorem ZR.cells {α : Type} {w : World} {base e k g cap : Nat} {bad : Nat → Prop} {R : (Nat → Prop) → World → α → List Value → Prop} {zs : List Value} {l : List α} (h : ZR w base bad e k R zs g cap l) : ∀ j z, zs[j]? = some z → w.cell? ⟨g, l.length * k + j, none⟩ = some z ∧ w.frozen? ⟨g, l.length * k + j, none⟩ = false := by
  obtain ⟨h1, h2, h3, qs, ho, hl, hr⟩ := h
  intro j z hz
  have hfl : qs.flatten.length = l.length * k := by rw [flat_len qs (fun i hi => (hr i (by omega) hi).1), hl]
  have hc := World.ownsRow.cells ho (g := g) rfl (l.length * k + j) z (by rw [List.getElem?_append_right (by omega), hfl, Nat.add_sub_cancel_left]; exact hz)
  rw [add_plain, Nat.zero_add] at hc
  exact ⟨hc, World.ownsRow.frozenAt ho _⟩
/-- The zero element is there. -/
theorem ZR.of {α : Type} {w w' : World} {base e k : Nat} {bad : Nat → Prop} {R : (Nat → Prop) → World → α → List Value → Prop} {v v' : Value} {zs : List Value} {l : List α} {qs : List (List Value)} (hR : Kp R)
    (ho : w.ownsRow base e k v l.length qs.flatten) (hl : qs.length = l.length) (hr : ∀ (i : Nat) (h : i < l.length) (h' : i < qs.length), (qs[i]).length = k ∧ R (fun b => base ≤ b ∧ v.ownBlock ≠ some b ∧ ¬ bad b) w l[i] qs[i]) (hgb : ∀ g, v.ownBlock = some g → ¬ bad g)
    (ho' : w'.ownsRow base e k v' (l.length + 1) (qs.flatten ++ zs)) (hg : w.grownBy w' v.ownBlock) (hat : v'.ownBlock = v.ownBlock ∨ v'.ownBlock = some w.heap.size) (hbad : ∀ b, bad b → b < w.heap.size) : ∃ g cap, v' = .slice (some ⟨g, 0, none⟩) (l.length + 1) cap ∧ l.length + 1 ≤ cap ∧ cap ≤ maxLen ∧ (v.ownBlock = some g ∨ g = w.heap.size) ∧ ZR w' base bad e k R zs g cap l := by
  rcases ho'.2 with ⟨_, h2⟩ | ⟨g, cap, cur, rfl, hb, hgg, hnc, hcm, _⟩
  · omega
  · have hgl : g < w'.heap.size := (Array.getElem?_eq_some_iff.1 hgg).1
    have hat' : v.ownBlock = some g ∨ g = w.heap.size := by
      simp only [Value.ownBlock] at hat
      rcases hat with h | h
      · exact .inl h.symm
      · exact .inr (Option.some.inj h)
    have hng : ¬ bad g := by
      rcases hat' with h | h
      · exact hgb g h
      · intro q; have := hbad g q; omega
    refine ⟨g, cap, rfl, hnc, hcm, hat', hb, hgl, hng, qs, ho', hl, fun i h h' => ⟨(hr i h h').1, hR (hr i h h').2 (fun b hb hlt => ⟨⟨hb.1, fun e => ?_, hb.2.2⟩, hg.block b hlt (fun e => hb.2.1 e.symm)⟩)⟩⟩
    subst e
    rcases hat' with h | h
    · exact hb.2.1 h
    · omega
/-- The element put in. -/
theorem ZR.put {α : Type} {w : World} {base e k g cap : Nat} {bad : Nat → Prop} {R : (Nat → Prop) → World → α → List Value → Prop} {zs : List Value} {l : List α} {p : α} {cs : List Value} (hR : Kp R) (h : ZR w base bad e k R zs g cap l) (hk : cs.length = k) (hz : zs.length = k) (hp : R (fun b => base ≤ b ∧ g ≠ b ∧ ¬ bad b) w p cs) : OwnB (putL w g (l.length * k) cs) base bad e k R (.slice (some ⟨g, 0, none⟩) (l.length + 1) cap) (l ++ [p]) := by
  obtain ⟨h1, h2, h3, qs, ho, hl, hr⟩ := h
  have hfl : qs.flatten.length = l.length * k := by rw [flat_len qs (fun i hi => (hr i (by omega) hi).1), hl]
  have ho2 := putL_own cs zs qs.flatten [] w base e k g (l.length + 1) cap (l.length * k) (by omega) hfl (by simpa using ho)
  rw [List.append_nil] at ho2
  have key : ∀ b, base ≤ b ∧ g ≠ b ∧ ¬ bad b → b < w.heap.size → (base ≤ b ∧ (Value.slice (some ⟨g, 0, none⟩) (l.length + 1) cap).ownBlock ≠ some b ∧ ¬ bad b) ∧ (putL w g (l.length * k) cs).heap[b]? = w.heap[b]? := fun b hb hlt =>
    ⟨⟨hb.1, fun e => hb.2.1 (Option.some.inj e), hb.2.2⟩, putL_heap cs w g _ b (fun e => hb.2.1 e.symm)⟩
  refine ⟨qs ++ [cs], ?_, by simp [hl], fun i h h' => ?_, fun g' hg' => ?_⟩
  · rw [List.flatten_append, List.length_append]
    simpa using ho2
  · rcases Nat.lt_or_ge i l.length with hi | hi
    · rw [List.getElem_append_left hi, List.getElem_append_left (by omega)]
      exact ⟨(hr i hi (by omega)).1, hR (hr i hi (by omega)).2 key⟩
    · have : i = l.length := by simp at h; omega
      subst this
      have e1 : (l ++ [p])[l.length] = p := by simp
      have e2 : (qs ++ [cs])[l.length]'h' = cs := by simp [← hl]
      rw [e1, e2]
      exact ⟨hk, hR hp key⟩
  · simp only [Value.ownBlock, Option.some.injEq] at hg'
    subst hg'
    exact h3
end Go.Proofs.Ytbccdkhbplmknaa
