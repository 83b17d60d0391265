import Derived.Test.YtoankfbccofllaaWqc01
import Derived.Lib.ItoaNum
import Derived.BigQuiet
import Derived.Deep.QuietTactic
import Derived.BigRegion
import Derived.Test.YtoankfbccofllaaRows
import Derived.Deep.RegionHeld
import Derived.Deep.DrawnRows
import Derived.WalkSmall

/- What the walks share: a text's bytes, names, numbers, signs, places, words in memory. -/
namespace Go.Proofs.Ytoankfbccofllaa
open Go.RowKit Go.Lib
set_option linter.unusedSimpArgs false
set_option linter.unusedVariables false

/-- A text's bytes. -/
abbrev bl (s : ByteArray) : List UInt8 := s.data.toList

/-- m runes that may stand in a name, of k bytes, lie behind us. -/
structure Adv (l : List UInt8) (m k : Nat) : Prop where
  le : k ≤ l.length
  left : runes (l.drop k) = (runes l).drop m
  cnt : spn (runes l) = m + spn (runes (l.drop k))
  size : (byt ((runes l).take m)).length = k
  few : m ≤ k

theorem Adv.zero (l : List UInt8) : Adv l 0 0 := ⟨by omega, rfl, by simp, rfl, by omega⟩

theorem drop_ne {l : List UInt8} {k : Nat} (h : k < l.length) : l.drop k ≠ [] := by
  intro e
  have := congrArg List.length e
  rw [List.length_drop] at this
  simp at this
  omega

theorem byt_split (rs : List Ru) (m : Nat) : (byt rs).length = (byt (rs.take m)).length + (byt (rs.drop m)).length := by
  rw [← List.length_append, ← byt_append, List.take_append_drop]

theorem Adv.step {l : List UInt8} {m k : Nat} (h : Adv l m k) (hk : k < l.length) (hi : insd (nx (l.drop k)).1 = true) : Adv l (m + 1) (k + (nx (l.drop k)).2) := by
  have hne := drop_ne hk
  have hc := runes_cons hne
  have hle := nx_le hne
  have hps := nx_pos hne
  rw [List.length_drop] at hle
  have hd : (runes l).drop m = ((nx (l.drop k)).1, (l.drop k).take (nx (l.drop k)).2) :: runes ((l.drop k).drop (nx (l.drop k)).2) := by rw [← h.left, hc]
  have hd1 : (runes l).drop (m + 1) = runes (l.drop (k + (nx (l.drop k)).2)) := by
    have := congrArg List.tail hd
    rw [List.tail_drop, List.tail_cons, List.drop_drop] at this
    exact this
  refine ⟨by omega, hd1.symm, ?_, ?_, by have := h.few; omega⟩
  · rw [h.cnt, hc, List.drop_drop]
    show m + (if insd (nx (l.drop k)).1 = true then spn _ + 1 else 0) = _
    rw [if_pos hi]
    omega
  · have e1 := byt_split (runes l) (m + 1)
    rw [hd1, byt_runes _ _ (Nat.le_refl _), byt_runes _ _ (Nat.le_refl _), List.length_drop] at e1
    omega

theorem Adv.stop {l : List UInt8} {m k : Nat} (h : Adv l m k) (hs : l.length ≤ k ∨ insd (nx (l.drop k)).1 = false) : spn (runes l) = m := by
  rw [h.cnt]
  rcases hs with hs | hs
  · rw [List.drop_eq_nil_of_le hs]; rfl
  · by_cases hk : l.length ≤ k
    · rw [List.drop_eq_nil_of_le hk]; rfl
    · rw [runes_cons (drop_ne (by omega))]
      show m + (if insd (nx (l.drop k)).1 = true then _ else 0) = m
      rw [if_neg (by rw [hs]; decide)]
      omega

/-- How many bytes the runes have that may stand in a name, ahead. -/
def spb (l : List UInt8) : Nat := (byt ((runes l).take (spn (runes l)))).length

/-- Is a text a name? -/
def nameS (l : List UInt8) : Bool := letter (nx l).1 && ((spb l : Int) == (l.length : Int)) && decide (spn (runes l) ≤ 24)

def dB (c : UInt8) : Bool := decide (48 ≤ c.toNat ∧ c.toNat ≤ 57)

def valB (n : Int) : List UInt8 → Int
  | [] => n
  | c :: r => valB (10 * n + ((c.toNat : Int) - 48)) r

def numB (l : List UInt8) : Bool := decide (1 ≤ l.length ∧ l.length ≤ 10) && !(decide ((l.headD 0).toNat = 48) && decide (1 < l.length)) && l.all dB && decide (valB 0 l ≤ 1000000000)

theorem numB_not {l : List UInt8} (h : l.all dB = false) : numB l = false := by unfold numB; rw [h]; simp

theorem dB_yes {c : UInt8} (h : 48 ≤ c.toNat ∧ c.toNat ≤ 57) : dB c = true := decide_eq_true h

theorem dB_no {c : UInt8} (h : ¬ (48 ≤ c.toNat ∧ c.toNat ≤ 57)) : dB c = false := decide_eq_false h

/-- A rune's first byte tells whether it is of ASCII. -/
theorem runes_form : ∀ (n : Nat) (l : List UInt8), l.length ≤ n → ∀ v ∈ runes l, ∃ c r, v.2 = c :: r ∧ (c.toNat < 128 → v.1 = (c.toNat : Int) ∧ r = []) ∧ (¬ c.toNat < 128 → v.1 = -1 ∨ 128 ≤ v.1)
  | 0, l, h, v, hv => by
    have : l = [] := List.eq_nil_of_length_eq_zero (by omega)
    subst this; cases hv
  | n + 1, [], h, v, hv => by cases hv
  | n + 1, c :: r, h, v, hv => by
    by_cases hc : c.toNat < 128
    · rw [runes_ascii hc] at hv
      rcases List.mem_cons.1 hv with rfl | hv
      · exact ⟨c, [], rfl, fun _ => ⟨rfl, rfl⟩, fun h => absurd hc h⟩
      · exact runes_form n r (by simp at h; omega) v hv
    · have hp := nx_pos (l := c :: r) (by simp)
      rw [runes_cons (by simp)] at hv
      rcases List.mem_cons.1 hv with rfl | hv
      · obtain ⟨m, hm⟩ : ∃ m, (nx (c :: r)).2 = m + 1 := ⟨(nx (c :: r)).2 - 1, by omega⟩
        exact ⟨c, r.take m, by rw [hm, List.take_succ_cons], fun h => absurd h hc, fun _ => nx_big hc r⟩
      · exact runes_form n _ (by rw [List.length_drop]; omega) v hv

theorem form (l : List UInt8) : ∀ v ∈ runes l, ∃ c r, v.2 = c :: r ∧ (c.toNat < 128 → v.1 = (c.toNat : Int) ∧ r = []) ∧ (¬ c.toNat < 128 → v.1 = -1 ∨ 128 ≤ v.1) := runes_form _ l (Nat.le_refl _)

/-- An ASCII rune has one byte. -/
theorem asc_one {l : List UInt8} {v : Ru} (hv : v ∈ runes l) (h : 0 ≤ v.1 ∧ v.1 < 128) : ∃ c, v.2 = [c] ∧ v.1 = (c.toNat : Int) := by
  obtain ⟨c, r, e, h1, h2⟩ := form l v hv
  by_cases hc : c.toNat < 128
  · obtain ⟨a, b⟩ := h1 hc
    exact ⟨c, by rw [e, b], a⟩
  · have := h2 hc; omega

theorem digits_bytes {l : List UInt8} : ∀ (vs : List Ru), (∀ v ∈ vs, v ∈ runes l) → vs.all (fun v => dgt v.1) = true → (byt vs).length = vs.length ∧ (byt vs).all dB = true ∧ (∀ n, valB n (byt vs) = val n vs) ∧ (vs ≠ [] → ((byt vs).headD 0).toNat = ((vs.headD (0, [])).1).toNat)
  | [], _, _ => ⟨rfl, rfl, fun _ => rfl, fun h => absurd rfl h⟩
  | v :: t, hm, ha => by
    simp only [List.all_cons, Bool.and_eq_true] at ha
    have hd : 48 ≤ v.1 ∧ v.1 ≤ 57 := of_decide_eq_true ha.1
    obtain ⟨c, e1, e2⟩ := asc_one (hm v (by simp)) (by omega)
    obtain ⟨i1, i2, i3, i4⟩ := digits_bytes t (fun x hx => hm x (by simp [hx])) ha.2
    have eb : byt (v :: t) = c :: byt t := by rw [byt_cons, e1]; rfl
    rw [eb]
    refine ⟨by simp [i1], ?_, fun n => ?_, fun _ => ?_⟩
    · simp only [List.all_cons, i2, Bool.and_true]
      exact dB_yes (by omega)
    · show valB (10 * n + ((c.toNat : Int) - 48)) (byt t) = val (10 * n + (v.1 - 48)) t
      rw [i3, e2]
    · simp [e2]

theorem not_digits {l : List UInt8} : ∀ (vs : List Ru), (∀ v ∈ vs, v ∈ runes l) → vs.all (fun v => dgt v.1) = false → (byt vs).all dB = false
  | [], _, h => by simp at h
  | v :: t, hm, ha => by
    rw [byt_cons, List.all_append]
    simp only [List.all_cons, Bool.and_eq_false_iff] at ha
    rw [Bool.and_eq_false_iff]
    rcases ha with ha | ha
    · left
      have hd : ¬ (48 ≤ v.1 ∧ v.1 ≤ 57) := of_decide_eq_false ha
      obtain ⟨c, r, e, h1, h2⟩ := form l v (hm v (by simp))
      rw [e, List.all_cons, Bool.and_eq_false_iff]
      left
      refine dB_no (fun h => hd ?_)
      have := (h1 (by omega)).1
      omega
    · right
      exact not_digits t (fun x hx => hm x (by simp [hx])) ha

theorem numB_numb {l : List UInt8} (vs : List Ru) (hm : ∀ v ∈ vs, v ∈ runes l) : numB (byt vs) = numb vs := by
  cases ha : vs.all (fun v => dgt v.1) with
  | false =>
    rw [numB_not (not_digits vs hm ha)]
    unfold numb
    rw [ha]; simp
  | true =>
    obtain ⟨i1, i2, i3, i4⟩ := digits_bytes vs hm ha
    unfold numB numb
    rw [i1, i2, i3, ha]
    by_cases hn : vs = []
    · subst hn; rfl
    · have h4 := i4 hn
      have h5 : decide (((byt vs).headD 0).toNat = 48) = decide ((vs.headD (0, [])).1 = 48) := by
        match vs, hn with
        | v :: t, _ =>
          simp only [List.all_cons, Bool.and_eq_true] at ha
          have hd : 48 ≤ v.1 ∧ v.1 ≤ 57 := of_decide_eq_true ha.1
          have h6 : ((byt (v :: t)).headD 0).toNat = v.1.toNat := h4
          show decide (((byt (v :: t)).headD 0).toNat = 48) = decide (v.1 = 48)
          by_cases hq : v.1 = 48
          · rw [decide_eq_true hq]; exact decide_eq_true (by omega)
          · rw [decide_eq_false hq]; exact decide_eq_false (by omega)
      rw [h5]

/-- Two cells of a block stay behind a call. -/
theorem keep2 {w w' : World} {X : Nat} {a b : Value} (hb : Below w.heap.size w w') (h0 : w.cell? ⟨X, 0, none⟩ = some a) (h1 : w.cell? ⟨X, 1, none⟩ = some b) (f0 : w.frozen? ⟨X, 0, none⟩ = false) (f1 : w.frozen? ⟨X, 1, none⟩ = false) :
    w'.cell? ⟨X, 0, none⟩ = some a ∧ w'.cell? ⟨X, 1, none⟩ = some b ∧ w'.frozen? ⟨X, 0, none⟩ = false ∧ w'.frozen? ⟨X, 1, none⟩ = false := by
  have hX := World.block_lt_of_cell? w _ h0
  have hX' : X < w.heap.size := hX
  refine ⟨?_, ?_, ?_, ?_⟩
  · rw [hb.cell (p := ⟨X, 0, none⟩) hX']; exact h0
  · rw [hb.cell (p := ⟨X, 1, none⟩) hX']; exact h1
  · rw [hb.frozen (p := ⟨X, 0, none⟩) hX']; exact f0
  · rw [hb.frozen (p := ⟨X, 1, none⟩) hX']; exact f1

theorem new2 (w : World) (a b : Value) (T : TypeId) (n : Nat) (hn : n = w.heap.size) : (w.alloc (.cells #[a, b] T)).cell? ⟨n, 0, none⟩ = some a ∧ (w.alloc (.cells #[a, b] T)).cell? ⟨n, 1, none⟩ = some b ∧ (w.alloc (.cells #[a, b] T)).frozen? ⟨n, 0, none⟩ = false ∧ (w.alloc (.cells #[a, b] T)).frozen? ⟨n, 1, none⟩ = false := by
  subst hn
  refine ⟨by simp, by simp, by simp, by simp⟩

/-- A block of two cells. -/
def At (w : World) (X : Nat) (a b : Value) : Prop := w.cell? ⟨X, 0, none⟩ = some a ∧ w.cell? ⟨X, 1, none⟩ = some b ∧ w.frozen? ⟨X, 0, none⟩ = false ∧ w.frozen? ⟨X, 1, none⟩ = false

theorem At.keep {w w' : World} {X : Nat} {a b : Value} (h : At w X a b) (hb : Below w.heap.size w w') : At w' X a b := keep2 hb h.1 h.2.1 h.2.2.1 h.2.2.2

theorem cell_same {w : World} {p : Addr} {u v : Value} (h : w.cell? p = some u) : (w.setCell p v).cell? p = some v := World.cell?_setCell_same' w _ v (by rw [h]; rfl)

theorem cell_far {w : World} {X i Y j : Nat} {u v : Value} (hne : ¬ (X = Y ∧ i = j)) (h : w.cell? ⟨Y, j, none⟩ = some u) : (w.setCell ⟨X, i, none⟩ v).cell? ⟨Y, j, none⟩ = some u :=
  (World.cell?_setCell_other w ⟨X, i, none⟩ ⟨Y, j, none⟩ v (by simp; intro h1 h2; exact hne ⟨h1, h2⟩)).trans h

theorem At.set0 {w : World} {X : Nat} {a b : Value} (h : At w X a b) (v : Value) : At (w.setCell ⟨X, 0, none⟩ v) X v b :=
  ⟨cell_same h.1, cell_far (by omega) h.2.1, (World.frozen?_setCell _ _ _ _).trans h.2.2.1, (World.frozen?_setCell _ _ _ _).trans h.2.2.2⟩

theorem At.set1 {w : World} {X : Nat} {a b : Value} (h : At w X a b) (v : Value) : At (w.setCell ⟨X, 1, none⟩ v) X a v :=
  ⟨cell_far (by omega) h.1, cell_same h.2.1, (World.frozen?_setCell _ _ _ _).trans h.2.2.1, (World.frozen?_setCell _ _ _ _).trans h.2.2.2⟩

theorem At.far {w : World} {X Y i : Nat} {a b : Value} (h : At w Y a b) (hne : X ≠ Y) (v : Value) : At (w.setCell ⟨X, i, none⟩ v) Y a b :=
  ⟨cell_far (by omega) h.1, cell_far (by omega) h.2.1, (World.frozen?_setCell _ _ _ _).trans h.2.2.1, (World.frozen?_setCell _ _ _ _).trans h.2.2.2⟩

theorem At.new (w : World) (a b : Value) (T : TypeId) (n : Nat) (hn : n = w.heap.size) : At (w.alloc (.cells #[a, b] T)) n a b := new2 w a b T n hn

/-- A word's text. -/
def txt (seg : List Ru) : ByteArray := ⟨(byt seg).toArray⟩

def celW (x : Wd) : List Value := [.int .i64 (x.1 : Int), .string (txt x.2.1), .int .i64 x.2.2.1, .int .i64 x.2.2.2]

def celsW (l : List Wd) : List Value := l.flatMap celW

/-- The slice value v is the call's own, from block base on, and holds the words l. -/
def OwnW (w : World) (base e : Nat) (v : Value) (l : List Wd) : Prop := w.ownsRow base e 4 v l.length (celsW l)

theorem OwnW.below {w w' : World} {base e : Nat} {v : Value} {l : List Wd} {B : Nat} (h : OwnW w base e v l) (hb : Below B w w') (hB : w.heap.size ≤ B) : OwnW w' base e v l := by
  refine ⟨h.1, ?_⟩
  rcases h.2 with hn | ⟨g, cap, cur, rfl, hbg, hg, rest⟩
  · exact .inl hn
  · refine .inr ⟨g, cap, cur, rfl, hbg, ?_, rest⟩
    rw [hb.block g (by have := (Array.getElem?_eq_some_iff.1 hg).1; omega)]
    exact hg

theorem OwnW.set {w : World} {base e : Nat} {v : Value} {l : List Wd} (h : OwnW w base e v l) {a : Addr} (ha : a.block < base) (u : Value) : OwnW (w.setCell a u) base e v l := ownsRow_setCell_below h ha u

theorem OwnW.base {w : World} {base base' e : Nat} {v : Value} {l : List Wd} (h : OwnW w base e v l) (hb : base' ≤ base) : OwnW w base' e v l :=
  ⟨h.1, h.2.elim Or.inl (fun ⟨g, cap, cur, hv, hg, r⟩ => Or.inr ⟨g, cap, cur, hv, Nat.le_trans hb hg, r⟩)⟩

/-- The first rune is an ASCII sign just if the first byte is. -/
theorem head_is (c : UInt8) (r : List UInt8) {k : Nat} (hk : k < 128) : (nx (c :: r)).1 = (k : Int) ↔ c.toNat = k := by
  by_cases h : c.toNat < 128
  · rw [nx_ascii h]; simp only; omega
  · have := nx_big h r
    constructor
    · intro e; omega
    · intro e; omega

theorem runes_small {c : UInt8} (r : List UInt8) {k : Nat} (hk : k < 128) (h : c.toNat = k) : runes (c :: r) = ((k : Int), [c]) :: runes r := by
  rw [runes_ascii (by omega), h]

theorem At.keepB {w w' : World} {X B : Nat} {a b : Value} (h : At w X a b) (hb : Below B w w') (hX : X < B) : At w' X a b := by
  refine ⟨?_, ?_, ?_, ?_⟩
  · rw [hb.cell (p := ⟨X, 0, none⟩) hX]; exact h.1
  · rw [hb.cell (p := ⟨X, 1, none⟩) hX]; exact h.2.1
  · rw [hb.frozen (p := ⟨X, 0, none⟩) hX]; exact h.2.2.1
  · rw [hb.frozen (p := ⟨X, 1, none⟩) hX]; exact h.2.2.2

/-- Runes up to the line's end that lie behind us: j of them. -/
structure Rem (R : List Ru) (j : Nat) (l : List UInt8) : Prop where
  left : runes l = R.drop j
  cnt : rest R = j + rest (runes l)

theorem Rem.zero {l : List UInt8} : Rem (runes l) 0 l := ⟨rfl, by omega⟩

theorem Rem.step {R : List Ru} {j : Nat} {c : UInt8} {r : List UInt8} (h : Rem R j (c :: r)) (hc : c.toNat ≠ 10) : Rem R (j + 1) ((c :: r).drop (nx (c :: r)).2) := by
  have hcs := runes_cons (l := c :: r) (by simp)
  have hd : R.drop (j + 1) = runes ((c :: r).drop (nx (c :: r)).2) := by
    have := congrArg List.tail (h.left.symm.trans hcs)
    rw [List.tail_drop, List.tail_cons] at this
    exact this
  refine ⟨hd.symm, ?_⟩
  have hne : ¬ (nx (c :: r)).1 = 10 := fun e => hc ((head_is c r (k := 10) (by omega)).1 e)
  rw [h.cnt, hcs]
  show j + (if (nx (c :: r)).1 = 10 then 0 else rest _ + 1) = _
  rw [if_neg hne]
  omega

theorem Rem.stop {R : List Ru} {j : Nat} {c : UInt8} {r : List UInt8} (h : Rem R j (c :: r)) (hc : c.toNat = 10) : rest R = j := by
  rw [h.cnt, runes_small r (k := 10) (by omega) hc]
  rfl

def ndC : (d : Nat) → T d → Nat := fold (fun _ _ _ l => min (l.sum + 1) 41)
def dpC : (d : Nat) → T d → Nat := fold (fun _ _ _ l => l.foldl max 0 + 1)
def ops9 : List (List UInt8) := [[43], [45], [42], [60], [60, 61], [61, 61], [33, 61], [38, 38], [124, 124]]
def opr (s : ByteArray) : Bool := ops9.any (fun x => bl s == x)
def sdC : (d : Nat) → T d → Bool := fold (fun k n s l => if k = 1 then decide (0 ≤ n) && decide (n ≤ 1000000000) else if k = 2 then nameS (bl s) else if k = 3 ∨ k = 4 then l.all id else if k = 5 then opr s && l.all id else false)
def fmC (d : Nat) (t : T d) : Bool := decide (ndC d t ≤ 40) && decide (dpC d t ≤ 12) && sdC d t


/-- An expression, with its depth. -/
abbrev Sx := (d : Nat) × T d
/-- The same tree, k deeper. -/
def addl (d : Nat) (t : T d) : (k : Nat) → T (d + k)
  | 0 => t
  | k + 1 => lift (d + k) (addl d t k)
def turn {a b : Nat} (h : a = b) (t : T a) : T b := h ▸ t
/-- A function of expressions, by what it makes of a node and of its parts. -/
def foldS {α : Type} (f : Int → Int → ByteArray → List α → α) (x : Sx) : α := fold f x.1 x.2
def ClX (x : Sx) : Prop := Cl x.1 x.2
def mk0 (k n : Int) (s : ByteArray) : Sx := ⟨1, mkT k n s []⟩
def mk1 (k : Int) (x : Sx) : Sx := ⟨x.1 + 1, mkT k 0 ⟨#[]⟩ [x.2]⟩
def mk2 (s : ByteArray) (x y : Sx) : Sx := ⟨x.1 + y.1 + 1, mkT 5 0 s [addl x.1 x.2 y.1, turn (Nat.add_comm y.1 x.1) (addl y.1 y.2 x.1)]⟩
/-- The nodes, each ahead of its parts, with their number. -/
def enc : (d : Nat) → T d → List (Int × Int × ByteArray × Nat) := fold (fun k n s l => (k, n, s, l.length) :: l.flatten)

/-- A word: its kind, and its bytes. -/
abbrev Tk := Nat × List UInt8
/-- How strongly an operator binds; 0: it is none. -/
def lv (s : List UInt8) : Nat := if s = [124, 124] then 1 else if s = [38, 38] then 2 else if s = [60] ∨ s = [60, 61] ∨ s = [61, 61] ∨ s = [33, 61] then 3 else if s = [43] ∨ s = [45] then 4 else if s = [42] then 5 else 0
def noX : Sx := mk0 0 0 ⟨#[]⟩
/-- What reading tells: the expression, the place, and the word with which it can't go on (-1: none). -/
abbrev Rd3 := Sx × Nat × Int
def failR (at' : Nat) (bad : Int) : Rd3 := (noX, at', if bad < 0 then (at' : Int) else bad)
section
variable (nb : List UInt8 → Int) (rsv : List UInt8 → Bool) (l : List Tk)
def isT (s : List UInt8) (at' : Nat) (bad : Int) : Bool := decide (bad < 0) && (match l[at']? with | some w => decide (w.2 = s) | none => false)
/-- Operators of level k, one behind the other; next reads what lies between them. -/
def lop (next : Nat → Int → Rd3) (k : Nat) : Nat → Rd3 → Rd3
  | 0, r => r
  | g + 1, r => match l[r.2.1]? with
    | none => r
    | some w => if r.2.2 < 0 ∧ lv w.2 = k then
        (if k = 3 then (mk2 ⟨w.2.toArray⟩ r.1 (next (r.2.1 + 1) r.2.2).1, (next (r.2.1 + 1) r.2.2).2) else lop next k g (mk2 ⟨w.2.toArray⟩ r.1 (next (r.2.1 + 1) r.2.2).1, (next (r.2.1 + 1) r.2.2).2))
      else r
/-- An expression whose operators are of level k, or stronger; 6: none at all. -/
def psr : Nat → Nat → Nat → Int → Rd3
  | 0, _, at', bad => failR at' bad
  | f + 1, k, at', bad =>
    if k = 6 then
      (if 0 ≤ bad then failR at' bad else match l[at']? with
      | none => failR at' bad
      | some w =>
        if w.2 = [33] ∨ w.2 = [45] then (mk1 (if w.2 = [45] then 4 else 3) (psr f 6 (at' + 1) bad).1, (psr f 6 (at' + 1) bad).2)
        else if w.2 = [40] then (if isT l [41] (psr f 1 (at' + 1) bad).2.1 (psr f 1 (at' + 1) bad).2.2 = true then ((psr f 1 (at' + 1) bad).1, (psr f 1 (at' + 1) bad).2.1 + 1, (psr f 1 (at' + 1) bad).2.2) else failR (psr f 1 (at' + 1) bad).2.1 (psr f 1 (at' + 1) bad).2.2)
        else if w.1 = 2 then (mk0 1 (nb w.2) ⟨#[]⟩, at' + 1, bad)
        else if w.1 = 1 ∧ rsv w.2 = false then (mk0 2 0 ⟨w.2.toArray⟩, at' + 1, bad)
        else failR at' bad)
    else lop l (psr f (k + 1)) k l.length (psr f (k + 1) at' bad)
end

theorem drop_one {α : Type} {l r : List α} {a : α} {i : Nat} (h : l.drop i = a :: r) : l[i]? = some a ∧ l.drop (i + 1) = r := by
  constructor
  · have := congrArg (fun x : List α => x[0]?) h
    simpa using this
  · have := congrArg List.tail h
    simpa using this
/-- All folds take it for the same. -/
def Alk (x : Sx) {d : Nat} (t : T d) : Prop := (∀ (α : Type) (g : Int → Int → ByteArray → List α → α), foldS g x = fold g d t) ∧ (Cl d t → ClX x)
theorem Alk.of {d : Nat} (t : T d) : Alk ⟨d, t⟩ t := ⟨fun _ _ => rfl, id⟩
section
variable {nb : List UInt8 → Int} {rsv : List UInt8 → Bool} {l : List Tk}
variable {dc : Int → List UInt8}
end

section
variable (leaf : Tk → Option Sx)
end
section
variable {leaf : Tk → Option Sx} {l : List Tk}
end
section
variable {nb : List UInt8 → Int} {rsv : List UInt8 → Bool} {l : List Tk}
end

/-- What stands behind: nothing, a blank or a bracket. -/
def Post (post : List UInt8) : Prop := post = [] ∨ ∃ c r, post = c :: r ∧ (c = 32 ∨ c = 41 ∨ c = 10)
theorem Post.fst {a post : List UInt8} (ha : a ≠ []) (h : Post post) : runes (a ++ post) = runes a ++ runes post ∧ fst1 (runes a ++ runes post) = fst1 (runes a) := by
  rcases h with rfl | ⟨c, r, rfl, hc⟩
  · rw [List.append_nil, runes_nil, List.append_nil]; exact ⟨rfl, rfl⟩
  · have hc8 : c.toNat < 128 := by rcases hc with rfl | rfl | rfl <;> decide
    have hr := runes_stop a.length a (Nat.le_refl _) hc8 r
    have hne : runes a ≠ [] := by rw [runes_cons ha]; simp
    refine ⟨hr, ?_⟩
    rw [runes_ascii hc8]
    refine fst1_stop ?_ _ _ hne
    rcases hc with rfl | rfl | rfl
    · exact ⟨by decide, by decide, by decide, by decide⟩
    · exact ⟨by decide, by decide, by decide, by decide⟩
    · exact ⟨by decide, by decide, by decide, by decide⟩


/-- The reserved words. -/
def rsv13 : List (List UInt8) := [[99, 104, 97, 114, 116], [118, 97, 114], [115, 116, 97, 116, 101], [97, 108, 108], [101, 110, 100], [100, 111], [117, 110, 100, 111], [97, 116], [114, 101, 116, 114, 105, 101, 115], [111, 110], [105, 102], [103, 111], [115, 101, 116]]
def rsvB (s : List UInt8) : Bool := rsv13.any (fun x => s == x)

/-- The runes are one word of this kind, and no more. -/
structure OneW (K : Nat) (seg : List Ru) : Prop where
  k : K ≠ 0
  f : fst1 seg = (K, seg.length)
  g : ∀ v ∈ seg, Good v
  h : ∃ v t, seg = v :: t ∧ v.1 ≠ 10 ∧ v.1 ≠ 32 ∧ v.1 ≠ 9 ∧ v.1 ≠ 35
  l : (byt seg).length ≤ 12000
theorem OneW.runes {K : Nat} {seg : List Ru} (h : OneW K seg) : runes (byt seg) = seg := by
  have := runes_goods seg [] h.g
  rw [List.append_nil, runes_nil, List.append_nil] at this
  exact this
/-- A word's text has that word alone. -/
theorem OneW.words {K : Nat} {seg : List Ru} (h : OneW K seg) : wordsS (byt seg) = ([(K, seg, 1, 1)], (0, 0), 0) := by
  have hr := h.runes
  have hl := h.l
  have hf := h.f
  have hk := h.k
  unfold wordsS
  rw [if_neg (by omega), hr]
  obtain ⟨v, t, e, h1, h2, h3, h4⟩ := h.h
  rw [e] at hf ⊢
  rw [wrds_cons, if_neg h1, if_neg (fun q => q.elim h2 h3), if_neg h4, hf, if_neg hk, if_neg (by decide), List.take_length, List.drop_length, wrds_nil]
  rfl
theorem OneW.kind {K : Nat} {seg : List Ru} (h : OneW K seg) : (K = 1 ∧ nameS (byt seg) = true) ∨ (K = 2 ∧ numB (byt seg) = true) ∨ (K = 3 ∧ ∃ v t, seg = v :: t ∧ letter v.1 = false ∧ dgt v.1 = false) := by
  have hr := h.runes
  have hf := h.f
  have hk := h.k
  obtain ⟨v, t, e, _⟩ := h.h
  have hbne : byt seg ≠ [] := fun e0 => by rw [e0, runes_nil] at hr; rw [← hr] at e; cases e
  have hnx : (nx (byt seg)).1 = v.1 := by
    have := runes_cons hbne
    rw [hr, e] at this
    injection this with h1 _
    rw [e]
    exact (congrArg Prod.fst h1).symm
  rw [e, fst1_cons, ← e] at hf
  by_cases a : letter v.1 = true
  · rw [if_pos a] at hf
    by_cases b : spn seg ≤ 24
    · rw [if_pos b] at hf
      injection hf with h1 h2
      left
      refine ⟨h1.symm, ?_⟩
      unfold nameS
      have hs : spb (byt seg) = (byt seg).length := by unfold spb; rw [hr, h2, List.take_length]
      rw [hnx, a, hs, hr, decide_eq_true b]; simp
    · rw [if_neg b] at hf
      injection hf with h1 _
      exact absurd h1.symm hk
  · rw [if_neg a] at hf
    by_cases d : dgt v.1 = true
    · rw [if_pos d] at hf
      by_cases b : numb (seg.take (spn seg)) = true
      · rw [if_pos b] at hf
        injection hf with h1 h2
        right; left
        refine ⟨h1.symm, ?_⟩
        rw [h2, List.take_length] at b
        rw [numB_numb (l := byt seg) seg (fun v hv => by rw [hr]; exact hv)]
        exact b
      · rw [if_neg b] at hf
        injection hf with h1 _
        exact absurd h1.symm hk
    · rw [if_neg d] at hf
      by_cases b : sgn seg = 0
      · rw [if_pos b] at hf
        injection hf with h1 _
        exact absurd h1.symm hk
      · rw [if_neg b] at hf
        injection hf with h1 _
        right; right
        exact ⟨h1.symm, v, t, e, by simpa using a, by simpa using d⟩
/-- A word as it is read: its kind, its bytes. -/
def tkW (x : Wd) : Tk := (x.1, byt x.2.1)
section
variable {nb : List UInt8 → Int} {rsv : List UInt8 → Bool} {l : List Tk} {Q : Nat → Nat → Sx → Prop}
end
def cntX (x : Sx) : Nat := cnt x.1 x.2

/-- Nothing but block X has turned, and new blocks. -/
abbrev Fx (X : Nat) (w w' : World) : Prop := w.grownBy w' (some X)
theorem Fx.refl (X : Nat) (w : World) : Fx X w w := ⟨rfl, rfl, rfl, Nat.le_refl _, fun _ _ _ => rfl⟩
theorem Fx.trans {X : Nat} {a b c : World} (h : Fx X a b) (k : Fx X b c) : Fx X a c :=
  ⟨k.os.trans h.os, k.tape.trans h.tape, k.output.trans h.output, Nat.le_trans h.size k.size, fun j hj hne => (k.block j (Nat.lt_of_lt_of_le hj h.size) hne).trans (h.block j hj hne)⟩
theorem Fx.of {X B : Nat} {a b : World} (h : Below B a b) (hB : a.heap.size ≤ B) : Fx X a b := ⟨h.os, h.tape, h.output, h.size, fun k hk _ => h.block k (by omega)⟩
theorem Fx.setX {X i : Nat} {a b : World} (h : Fx X a b) (u : Value) : Fx X a (b.setCell ⟨X, i, none⟩ u) :=
  ⟨h.os, h.tape, h.output, by simpa using h.size, fun k hk hne => (Below.heap_setCell _ _ _ _ (fun e => hne (congrArg some e))).trans (h.block k hk hne)⟩
theorem Fx.drewN {X : Nat} {a b : World} (h : Fx X a b) (m : Nat) : Fx X a (b.drewN m) := ⟨h.os, h.tape, h.output, h.size, h.block⟩
theorem Fx.drew {X : Nat} {a b : World} (h : Fx X a b) : Fx X a b.drew := ⟨h.os, h.tape, h.output, h.size, h.block⟩
theorem Fx.alloc {X : Nat} {a b : World} (h : Fx X a b) (o : Obj) : Fx X a (b.alloc o) := h.trans (Fx.of ((Below.refl b.heap.size b).alloc (Nat.le_refl _) o) (Nat.le_refl _))
theorem Fx.below {X : Nat} {a b : World} (h : Fx X a b) {B : Nat} (hB : B ≤ X) (hs : B ≤ a.heap.size) : Below B a b := ⟨h.os, h.tape, h.output, h.size, fun k hk => h.block k (by omega) (fun e => by have : k = X := Option.some.inj e; omega)⟩
/-- A new block's cells, written. -/
theorem Fx.setN {X N i : Nat} {a b : World} (h : Fx X a b) (hN : a.heap.size ≤ N) (u : Value) : Fx X a (b.setCell ⟨N, i, none⟩ u) :=
  ⟨h.os, h.tape, h.output, by simpa using h.size, fun k hk hne => (Below.heap_setCell _ _ _ _ (fun e => by have : k = N := e; omega)).trans (h.block k hk hne)⟩
/-- The words, in memory apart from X. -/
def RdL (w : World) (X : Nat) (a : Option Addr) (ws : List Wd) : Prop := ∀ (i : Nat) (hi : i < ws.length), ∃ g off, a = some ⟨g, off, none⟩ ∧ g < X ∧ w.cell? ⟨g, off + i * 4, none⟩ = some (.int .i64 ((ws[i]).1 : Int)) ∧ w.cell? ⟨g, off + i * 4 + 1, none⟩ = some (.string (txt (ws[i]).2.1)) ∧ w.cell? ⟨g, off + i * 4 + 2, none⟩ = some (.int .i64 (ws[i]).2.2.1) ∧ w.cell? ⟨g, off + i * 4 + 3, none⟩ = some (.int .i64 (ws[i]).2.2.2)
theorem RdL.fx {w w' : World} {X : Nat} {a : Option Addr} {ws : List Wd} (h : RdL w X a ws) (hX : X < w.heap.size) (hf : Fx X w w') : RdL w' X a ws := fun i hi => by
  obtain ⟨g, off, h1, h3, c0, c1, c2, c3⟩ := h i hi
  have hb : w'.heap[g]? = w.heap[g]? := hf.block g (by omega) (fun e => by have : g = X := Option.some.inj e; omega)
  have hc : ∀ j, w'.cell? ⟨g, j, none⟩ = w.cell? ⟨g, j, none⟩ := fun j => World.cell?_of_block (w := w) (a := ⟨g, j, none⟩) hb
  exact ⟨g, off, h1, h3, (hc _).trans c0, (hc _).trans c1, (hc _).trans c2, (hc _).trans c3⟩
/-- The reader in block X. -/
structure Rr (w : World) (X : Nat) (a : Option Addr) (cap : Nat) (ws : List Wd) (n : Nat) (b : Int) : Prop where
  c0 : w.cell? ⟨X, 0, none⟩ = some (.slice a ws.length cap)
  c1 : w.cell? ⟨X, 1, none⟩ = some (.int .i64 (n : Int))
  c2 : w.cell? ⟨X, 2, none⟩ = some (.int .i64 b)
  f1 : w.frozen? ⟨X, 1, none⟩ = false
  f2 : w.frozen? ⟨X, 2, none⟩ = false
  l : RdL w X a ws
theorem Rr.lt {w : World} {X : Nat} {a : Option Addr} {cap : Nat} {ws : List Wd} {n : Nat} {b : Int} (h : Rr w X a cap ws n b) : X < w.heap.size := World.block_lt_of_cell? w _ h.c0
theorem Rr.on {w w' : World} {X : Nat} {a : Option Addr} {cap : Nat} {ws : List Wd} {n : Nat} {b : Int} (h : Rr w X a cap ws n b) (hb : Below w.heap.size w w') : Rr w' X a cap ws n b := by
  have hX := h.lt
  have hc : ∀ i, w'.cell? ⟨X, i, none⟩ = w.cell? ⟨X, i, none⟩ := fun i => hb.cell (p := ⟨X, i, none⟩) hX
  have hf : ∀ i, w'.frozen? ⟨X, i, none⟩ = w.frozen? ⟨X, i, none⟩ := fun i => hb.frozen (p := ⟨X, i, none⟩) hX
  exact ⟨(hc 0).trans h.c0, (hc 1).trans h.c1, (hc 2).trans h.c2, (hf 1).trans h.f1, (hf 2).trans h.f2, h.l.fx hX (Fx.of hb (Nat.le_refl _))⟩
theorem Rr.set1 {w : World} {X : Nat} {a : Option Addr} {cap : Nat} {ws : List Wd} {n : Nat} {b : Int} (h : Rr w X a cap ws n b) (n' : Nat) : Rr (w.setCell ⟨X, 1, none⟩ (.int .i64 (n' : Int))) X a cap ws n' b :=
  ⟨cell_far4 (by omega) h.c0, cell_same4 h.c1, cell_far4 (by omega) h.c2, (World.frozen?_setCell _ _ _ _).trans h.f1, (World.frozen?_setCell _ _ _ _).trans h.f2, h.l.fx h.lt ((Fx.refl X w).setX _)⟩
theorem Rr.set2 {w : World} {X : Nat} {a : Option Addr} {cap : Nat} {ws : List Wd} {n : Nat} {b : Int} (h : Rr w X a cap ws n b) (b' : Int) : Rr (w.setCell ⟨X, 2, none⟩ (.int .i64 b')) X a cap ws n b' :=
  ⟨cell_far4 (by omega) h.c0, cell_far4 (by omega) h.c1, cell_same4 h.c2, (World.frozen?_setCell _ _ _ _).trans h.f1, (World.frozen?_setCell _ _ _ _).trans h.f2, h.l.fx h.lt ((Fx.refl X w).setX _)⟩
theorem draws (w : World) (m : Nat) : Below w.heap.size w (w.drewN m) := ⟨rfl, rfl, rfl, Nat.le_refl _, fun _ _ => rfl⟩
structure Wk (ws : List Wd) (cap : Nat) : Prop where
  l : ws.length ≤ 3000
  c : ws.length ≤ cap
  m : cap ≤ maxLen
  o : ∀ x ∈ ws, OneW x.1 x.2.1
theorem Rr.far {w : World} {X N i : Nat} {a : Option Addr} {cap : Nat} {ws : List Wd} {n : Nat} {b : Int} (h : Rr w X a cap ws n b) (hN : X < N) (u : Value) : Rr (w.setCell ⟨N, i, none⟩ u) X a cap ws n b := by
  refine ⟨cell_far4 (by omega) h.c0, cell_far4 (by omega) h.c1, cell_far4 (by omega) h.c2, (World.frozen?_setCell _ _ _ _).trans h.f1, (World.frozen?_setCell _ _ _ _).trans h.f2, fun j hj => ?_⟩
  obtain ⟨g, off, h1, h3, d0, d1, d2, d3⟩ := h.l j hj
  exact ⟨g, off, h1, h3, cell_far4 (by omega) d0, cell_far4 (by omega) d1, cell_far4 (by omega) d2, cell_far4 (by omega) d3⟩

/-- A block of cells that may be written. -/
def Bn (w : World) (Y : Nat) (cs : List Value) : Prop := ∀ j u, cs[j]? = some u → w.cell? ⟨Y, j, none⟩ = some u ∧ w.frozen? ⟨Y, j, none⟩ = false
theorem Bn.lt {w : World} {Y : Nat} {c : Value} {cs : List Value} (h : Bn w Y (c :: cs)) : Y < w.heap.size := World.block_lt_of_cell? w _ (h 0 c rfl).1
theorem frozen_of_block {w w' : World} {Y j : Nat} (h : w'.heap[Y]? = w.heap[Y]?) : w'.frozen? ⟨Y, j, none⟩ = w.frozen? ⟨Y, j, none⟩ := by
  unfold World.frozen?
  rw [h]
theorem Bn.blk {w w' : World} {Y : Nat} {cs : List Value} (h : Bn w Y cs) (hb : w'.heap[Y]? = w.heap[Y]?) : Bn w' Y cs := fun j u hu =>
  ⟨keep_cell (p := ⟨Y, j, none⟩) hb (h j u hu).1, (frozen_of_block hb).trans (h j u hu).2⟩
theorem Bn.on {w w' : World} {Y : Nat} {c : Value} {cs : List Value} (h : Bn w Y (c :: cs)) (hb : Below w.heap.size w w') : Bn w' Y (c :: cs) := h.blk (hb.block Y h.lt)
theorem Bn.fx {w w' : World} {X Y : Nat} {c : Value} {cs : List Value} (h : Bn w Y (c :: cs)) (hf : Fx X w w') (hne : Y ≠ X) : Bn w' Y (c :: cs) := h.blk (hf.block Y h.lt (fun e => hne (Option.some.inj e)))
theorem Bn.far {w : World} {Y X i : Nat} {cs : List Value} (h : Bn w Y cs) (hne : X ≠ Y) (v : Value) : Bn (w.setCell ⟨X, i, none⟩ v) Y cs := h.blk (Below.heap_setCell _ _ _ _ (fun e => hne e.symm))
theorem Bn.set {w : World} {Y i : Nat} {cs : List Value} (h : Bn w Y cs) (hi : i < cs.length) (v : Value) : Bn (w.setCell ⟨Y, i, none⟩ v) Y (cs.set i v) := fun j u hu => by
  refine ⟨?_, (World.frozen?_setCell _ _ _ _).trans ?_⟩
  · by_cases hj : i = j
    · subst hj
      rw [List.getElem?_set_self hi] at hu
      obtain rfl := Option.some.inj hu
      exact cell_same4 (h i _ (List.getElem?_eq_getElem hi)).1
    · rw [List.getElem?_set_ne hj] at hu
      exact cell_far4 (by omega) (h j u hu).1
  · have hl : j < cs.length := by
      have := (List.getElem?_eq_some_iff.1 hu).1
      rwa [List.length_set] at this
    exact (h j _ (List.getElem?_eq_getElem hl)).2
theorem Bn.drew {w : World} {Y : Nat} {cs : List Value} (h : Bn w Y cs) : Bn w.drew Y cs := h
theorem Bn.new (w : World) (cs : List Value) (t : TypeId) (n : Nat) (hn : n = w.heap.size) : Bn (w.alloc (.cells cs.toArray t)) n cs := by
  subst hn
  intro j u hu
  refine ⟨?_, by simp⟩
  rw [World.cell?_alloc_new]
  simpa using hu

/-- The slice v reads as the list l, k cells an element. -/
def RdK {α : Type} (ok : Nat → Prop) (w : World) (k : Nat) (R : α → List Value → Prop) (l : List α) (v : Value) : Prop :=
  ∃ a cap, v = .slice a l.length cap ∧ l.length ≤ cap ∧ cap ≤ maxLen ∧
    ∀ (i : Nat) (hi : i < l.length), ∃ b off cs, a = some ⟨b, off, none⟩ ∧ ok b ∧ b < w.heap.size ∧ cs.length = k ∧ R l[i] cs ∧ ∀ j u, cs[j]? = some u → w.cell? ⟨b, off + i * k + j, none⟩ = some u
theorem rdK_none {α : Type} (ok : Nat → Prop) (w : World) (k : Nat) (R : α → List Value → Prop) : RdK ok w k R [] (.slice none 0 0) := ⟨none, 0, rfl, by simp, by simp [maxLen], fun i hi => absurd hi (by simp)⟩
theorem RdK.keep {α : Type} {ok ok' : Nat → Prop} {w w' : World} {k : Nat} {R R' : α → List Value → Prop} {l : List α} {v : Value} (h : RdK ok w k R l v) (hR : ∀ x ∈ l, ∀ u, R x u → R' x u) (hk : ∀ b, ok b → b < w.heap.size → ok' b ∧ w'.heap[b]? = w.heap[b]?) : RdK ok' w' k R' l v := by
  obtain ⟨a, cap, rfl, hc, hm, hcell⟩ := h
  refine ⟨a, cap, rfl, hc, hm, fun i hi => ?_⟩
  obtain ⟨b, off, cs, ha, ho, hb, hl, hr, hcs⟩ := hcell i hi
  obtain ⟨ho', hs⟩ := hk _ ho hb
  refine ⟨b, off, cs, ha, ho', ?_, hl, hR _ (List.getElem_mem hi) _ hr, fun j u hu => keep_cell (p := ⟨b, off + i * k + j, none⟩) hs (hcs j u hu)⟩
  rcases Nat.lt_or_ge b w'.heap.size with h | h
  · exact h
  · rw [Array.getElem?_eq_none h, Array.getElem?_eq_getElem hb] at hs
    cases hs
theorem RdK.form {α : Type} {ok : Nat → Prop} {w : World} {k : Nat} {R : α → List Value → Prop} {l : List α} {v : Value} (h : RdK ok w k R l v) : ∃ a cap, v = .slice a l.length cap ∧ l.length ≤ cap ∧ cap ≤ maxLen := by
  obtain ⟨a, cap, h1, h2, h3, _⟩ := h
  exact ⟨a, cap, h1, h2, h3⟩
/-- A reading that stays where its blocks stay. -/
def Kp {α : Type} (R : (Nat → Prop) → World → α → List Value → Prop) : Prop := ∀ ⦃ok ok' : Nat → Prop⦄ ⦃w w' : World⦄ ⦃x : α⦄ ⦃cs : List Value⦄, R ok w x cs → (∀ b, ok b → b < w.heap.size → ok' b ∧ w'.heap[b]? = w.heap[b]?) → R ok' w' x cs
/-- The slice v is the call's own, from block base on, of k cells an element, and holds l; what lies behind its cells lies apart. -/
def OwnK {α : Type} (w : World) (base e k : Nat) (R : (Nat → Prop) → World → α → List Value → Prop) (v : Value) (l : List α) : Prop :=
  ∃ qs : List (List Value), w.ownsRow base e k v l.length qs.flatten ∧ qs.length = l.length ∧ ∀ (i : Nat) (h : i < l.length) (h' : i < qs.length), (qs[i]).length = k ∧ R (fun b => base ≤ b ∧ v.ownBlock ≠ some b) w l[i] qs[i]
theorem ownK_nil {α : Type} (w : World) (base e k : Nat) (R : (Nat → Prop) → World → α → List Value → Prop) : OwnK w base e k R (.slice none 0 0) [] := ⟨[], World.ownsRow_nil w base e k, rfl, fun i h => absurd h (by simp)⟩
theorem OwnK.keep {α : Type} {w w' : World} {base e k : Nat} {R : (Nat → Prop) → World → α → List Value → Prop} {v : Value} {l : List α} (hR : Kp R) (h : OwnK w base e k R v l) (hk : ∀ b, base ≤ b → b < w.heap.size → w'.heap[b]? = w.heap[b]?) : OwnK w' base e k R v l := by
  obtain ⟨qs, ho, hl, hr⟩ := h
  refine ⟨qs, ownsRow_keep ho (fun g hg => ?_), hl, fun i h h' => ⟨(hr i h h').1, hR (hr i h h').2 (fun b hb hlt => ⟨hb, hk b hb.1 hlt⟩)⟩⟩
  obtain ⟨a, b⟩ := ownsRow_lt ho g hg
  exact hk g a b
theorem OwnK.on {α : Type} {w w' : World} {base e k : Nat} {R : (Nat → Prop) → World → α → List Value → Prop} {v : Value} {l : List α} (hR : Kp R) (h : OwnK w base e k R v l) (hb : Below w.heap.size w w') : OwnK w' base e k R v l := h.keep hR (fun b _ hlt => hb.block b hlt)
theorem OwnK.fx {α : Type} {w w' : World} {base e k X : Nat} {R : (Nat → Prop) → World → α → List Value → Prop} {v : Value} {l : List α} (hR : Kp R) (h : OwnK w base e k R v l) (hf : Fx X w w') (hX : X < base) : OwnK w' base e k R v l :=
  h.keep hR (fun b hb hlt => hf.block b hlt (fun e => by have : b = X := Option.some.inj e; omega))
theorem OwnK.set {α : Type} {w : World} {base e k : Nat} {R : (Nat → Prop) → World → α → List Value → Prop} {v : Value} {l : List α} (hR : Kp R) (h : OwnK w base e k R v l) {X i : Nat} (hX : X < base) (u : Value) : OwnK (w.setCell ⟨X, i, none⟩ u) base e k R v l :=
  h.keep hR (fun b hb _ => Below.heap_setCell _ _ _ _ (fun e => by have : b = X := e; omega))
theorem OwnK.form {α : Type} {w : World} {base e k : Nat} {R : (Nat → Prop) → World → α → List Value → Prop} {v : Value} {l : List α} (h : OwnK w base e k R v l) : ∃ a cap, v = .slice a l.length cap ∧ l.length ≤ cap ∧ cap ≤ maxLen := by
  obtain ⟨qs, ho, _⟩ := h
  rcases ho.2 with ⟨h1, h2⟩ | ⟨g, cap, cur, h1, _, _, h3, h4, _⟩
  · exact ⟨none, 0, by rw [h1, h2], by omega, by simp [maxLen]⟩
  · exact ⟨_, _, h1, h3, h4⟩
/-- One more. The new one's memory lies from lo on, and the old row's block below. -/
theorem OwnK.snoc {α : Type} {w w' : World} {base e k lo n : Nat} {R : (Nat → Prop) → World → α → List Value → Prop} {v v' : Value} {l : List α} {p : α} {cs : List Value} {qs : List (List Value)} (hR : Kp R) (hk : cs.length = k)
    (hn : l.length = n) (ho : w.ownsRow base e k v n qs.flatten) (hl : qs.length = l.length) (hr : ∀ (i : Nat) (h : i < l.length) (h' : i < qs.length), (qs[i]).length = k ∧ R (fun b => base ≤ b ∧ v.ownBlock ≠ some b) w l[i] qs[i])
    (ho' : w'.ownsRow base e k v' (n + 1) (qs.flatten ++ cs)) (hg : w.grownBy w' v.ownBlock) (hat : v'.ownBlock = v.ownBlock ∨ v'.ownBlock = some w.heap.size)
    (hp : R (fun b => lo ≤ b) w p cs) (hlo : base ≤ lo) (hv : ∀ x, v.ownBlock = some x → x < lo) : OwnK w' base e k R v' (l ++ [p]) := by
  subst hn
  have key : ∀ b, base ≤ b ∧ v.ownBlock ≠ some b → b < w.heap.size → (base ≤ b ∧ v'.ownBlock ≠ some b) ∧ w'.heap[b]? = w.heap[b]? := fun b hb hlt => by
    refine ⟨⟨hb.1, fun e => ?_⟩, hg.block b hlt (fun e => hb.2 e.symm)⟩
    rcases hat with h | h
    · exact hb.2 (h ▸ e)
    · rw [h] at e; have : w.heap.size = b := Option.some.inj e; omega
  refine ⟨qs ++ [cs], ?_, by simp [hl], fun i h h' => ?_⟩
  · rw [List.flatten_append, List.length_append]
    simpa using ho'
  · rcases Nat.lt_or_ge i l.length with hi | hi
    · rw [List.getElem_append_left hi, List.getElem_append_left (by omega)]
      exact ⟨(hr i hi (by omega)).1, hR (hr i hi (by omega)).2 key⟩
    · have : i = l.length := by simp at h; omega
      subst this
      have e1 : (l ++ [p])[l.length] = p := by simp
      have e2 : (qs ++ [cs])[l.length]'h' = cs := by simp [← hl]
      rw [e1, e2]
      exact ⟨hk, hR hp (fun b hb hlt => key b ⟨by omega, fun e => by have := hv b e; omega⟩ hlt)⟩
theorem flat_at {k : Nat} : ∀ (qs : List (List Value)) (i j : Nat) (h : i < qs.length) (u : Value), (∀ (i : Nat) (h : i < qs.length), (qs[i]).length = k) → (qs[i])[j]? = some u → qs.flatten[i * k + j]? = some u
  | [], i, j, h, u, _, _ => by simp at h
  | x :: t, 0, j, h, u, hk, hu => by
    have hu' : x[j]? = some u := hu
    have hj := (List.getElem?_eq_some_iff.1 hu').1
    rw [List.flatten_cons, Nat.zero_mul, Nat.zero_add, List.getElem?_append_left hj]
    exact hu'
  | x :: t, i + 1, j, h, u, hk, hu => by
    have hx : x.length = k := hk 0 (by simp)
    have e : (i + 1) * k + j = x.length + (i * k + j) := by rw [hx, Nat.succ_mul]; omega
    rw [List.flatten_cons, e, List.getElem?_append_right (by omega), Nat.add_sub_cancel_left]
    exact flat_at t i j (by simpa using h) u (fun i h => hk (i + 1) (by simpa using h)) hu
/-- It reads as the list. -/
theorem OwnK.rd {α : Type} {w : World} {base e k : Nat} {R : (Nat → Prop) → World → α → List Value → Prop} {v : Value} {l : List α} (hR : Kp R) (h : OwnK w base e k R v l) : RdK (fun b => base ≤ b) w k (R (fun b => base ≤ b) w) l v := by
  obtain ⟨qs, ho, hl, hr⟩ := h
  have hc := fun g => World.ownsRow.cells ho (g := g)
  rcases ho.2 with ⟨rfl, hn⟩ | ⟨g, cap, cur, rfl, hb, hg, hnc, hcm, hcs, htake⟩
  · have hx : l = [] := List.eq_nil_of_length_eq_zero hn
    subst hx
    exact rdK_none _ w k _
  · refine ⟨some ⟨g, 0, none⟩, cap, rfl, hnc, hcm, fun i hi => ⟨g, 0, qs[i], rfl, hb, (Array.getElem?_eq_some_iff.1 hg).1, (hr i hi (by omega)).1, hR (hr i hi (by omega)).2 (fun b hb _ => ⟨hb.1, rfl⟩), fun j u hu => ?_⟩⟩
    have := hc g rfl (i * k + j) u (flat_at qs i j (by omega) u (fun i h => (hr i (by omega) h).1) hu)
    rw [add_plain] at this
    rw [Nat.zero_add]
    rwa [Nat.zero_add] at this
/-- Read from a lower block on. -/
theorem RdK.low {α : Type} {w : World} {base lo k : Nat} {R : (Nat → Prop) → World → α → List Value → Prop} {v : Value} {l : List α} (hR : Kp R) (h : RdK (fun b => base ≤ b) w k (R (fun b => base ≤ b) w) l v) (hlo : lo ≤ base) : RdK (fun b => lo ≤ b) w k (R (fun b => lo ≤ b) w) l v :=
  h.keep (fun x _ u hu => hR hu (fun b hb _ => ⟨by omega, rfl⟩)) (fun b hb _ => ⟨by omega, rfl⟩)
theorem RdK.stay {α : Type} {ok ok' : Nat → Prop} {w w' : World} {k : Nat} {R : (Nat → Prop) → World → α → List Value → Prop} {v : Value} {l : List α} (hR : Kp R) (h : RdK ok w k (R ok w) l v) (hk : ∀ b, ok b → b < w.heap.size → ok' b ∧ w'.heap[b]? = w.heap[b]?) : RdK ok' w' k (R ok' w') l v :=
  h.keep (fun x _ u hu => hR hu hk) hk

section
variable {nb : List UInt8 → Int} {rsv : List UInt8 → Bool} {l : List Tk}
end

def fmX (x : Sx) : Bool := fmC x.1 x.2
/-- What the words are read as. -/
def rdC (l : List Tk) : Rd3 := psr (valB 0) rsvB l (7 * l.length + 6) 1 0 (-1)
/-- The expression that the words begin with, how many of them it is, or an error. -/
def takeC (l : List Tk) : Sx × Nat × Int := if 0 ≤ (rdC l).2.2 then (noX, (rdC l).2.2.toNat, 12) else if fmX (rdC l).1 = true then ((rdC l).1, (rdC l).2.1, 0) else (noX, 0, 13)
end Go.Proofs.Ytoankfbccofllaa

/- Charts, and how they are read of words, as the document's reader does. Math alone. -/
namespace Go.Proofs.Ytoankfbccofllaa
open Go.RowKit Go.Lib
set_option linter.unusedVariables false

abbrev Pl := Int × Int
/-- An on: event, guard (is there one, and which), target, sets, place. -/
abbrev OnC := List UInt8 × (Bool × Sx) × List UInt8 × List (List UInt8 × Sx) × Pl
/-- A state but for what lies in it: name, place, all, end, do, undo, where, retries, ons. -/
abbrev HdC := (List UInt8 × Pl) × (Bool × Bool) × (List UInt8 × List UInt8) × (Int × Int) × List OnC
/-- States that lie less than d deep in one another. -/
def St : Nat → Type
  | 0 => Empty
  | d + 1 => HdC × List (St d)
/-- The reader: the words that are left, the place of the first error, the error. -/
abbrev RsC := List Wd × Pl × Int
def wPl (w : Wd) : Pl := (w.2.2.1, w.2.2.2)
section
variable (fin : Pl)
def hereR (r : RsC) : Pl := match r.1 with | [] => fin | w :: _ => wPl w
def failC (e : Int) (p : Pl) (r : RsC) : RsC := if r.2.2 = 0 then (r.1, p, e) else r
def isC (s : List UInt8) (r : RsC) : Bool := decide (r.2.2 = 0) && (match r.1 with | [] => false | w :: _ => decide ((tkW w).2 = s))
def takeR (s : List UInt8) (r : RsC) : RsC := if isC s r = true then (r.1.tail, r.2) else failC 12 (hereR fin r) r
/-- Is it a name that is not reserved? -/
def plainB (s : List UInt8) : Bool := nameS s && !rsvB s
def nameR (r : RsC) : (List UInt8 × Pl) × RsC := match r.2.2 = 0, r.1 with
  | _, [] => (([], (0, 0)), failC 12 (hereR fin r) r)
  | _, w :: l => if r.2.2 = 0 ∧ plainB (tkW w).2 = true then (((tkW w).2, wPl w), (l, r.2)) else (([], (0, 0)), failC 12 (hereR fin r) r)
def numR (r : RsC) : Int × RsC := match r.1 with
  | [] => (0, failC 12 (hereR fin r) r)
  | w :: l => if r.2.2 = 0 ∧ w.1 = 2 then (valB 0 (tkW w).2, (l, r.2)) else (0, failC 12 (hereR fin r) r)
def exprR (r : RsC) : Sx × RsC := if r.2.2 ≠ 0 then (noX, r) else
  if (takeC (r.1.map tkW)).2.2 = 0 then ((takeC (r.1.map tkW)).1, (r.1.drop (takeC (r.1.map tkW)).2.1, r.2)) else
  if (takeC (r.1.map tkW)).2.2 = 13 then ((takeC (r.1.map tkW)).1, failC 13 (hereR fin r) r) else
  ((takeC (r.1.map tkW)).1, failC (takeC (r.1.map tkW)).2.2 (hereR fin (r.1.drop (takeC (r.1.map tkW)).2.1, r.2)) (r.1.drop (takeC (r.1.map tkW)).2.1, r.2))
def wOn : List UInt8 := [111, 110]
def wIf : List UInt8 := [105, 102]
def wGo : List UInt8 := [103, 111]
def wSet : List UInt8 := [115, 101, 116]
def wAll : List UInt8 := [97, 108, 108]
def wEnd : List UInt8 := [101, 110, 100]
def wDo : List UInt8 := [100, 111]
def wUndo : List UInt8 := [117, 110, 100, 111]
def wAt : List UInt8 := [97, 116]
def wRetries : List UInt8 := [114, 101, 116, 114, 105, 101, 115]
def wState : List UInt8 := [115, 116, 97, 116, 101]
/-- The sets behind an on; g bounds how many. -/
def setsR : Nat → List (List UInt8 × Sx) → RsC → List (List UInt8 × Sx) × RsC
  | 0, acc, r => (acc, r)
  | g + 1, acc, r => if isC wSet r = true then
      let a := nameR fin (takeR fin wSet r)
      let b := exprR fin (takeR fin [61] a.2)
      setsR g (acc ++ [(a.1.1, b.1)]) b.2
    else (acc, r)
def onR (r : RsC) : OnC × RsC :=
  let a := nameR fin (takeR fin wOn r)
  let g : (Bool × Sx) × RsC := if isC wIf a.2 = true then ((fun x => ((true, x.1), x.2)) (exprR fin (takeR fin wIf a.2))) else ((false, noX), a.2)
  let t := nameR fin (takeR fin wGo g.2)
  let s := setsR fin (t.2.1.length + 1) [] t.2
  ((a.1.1, g.1, t.1.1, s.1, a.1.2), s.2)
/-- What kind of state it is: all, end, do .. undo .. at .. retries, or nothing of these. -/
def kindR (r : RsC) : ((Bool × Bool) × (List UInt8 × List UInt8) × (Int × Int)) × RsC :=
  if isC wAll r = true then (((true, false), ([], []), (0, 0)), takeR fin wAll r) else
  if isC wEnd r = true then (((false, true), ([], []), (0, 0)), takeR fin wEnd r) else
  if isC wDo r = true then
    let a := nameR fin (takeR fin wDo r)
    let b := nameR fin (takeR fin wUndo a.2)
    let c := numR fin (takeR fin wAt b.2)
    let e := numR fin (takeR fin wRetries c.2)
    (((false, false), (a.1.1, b.1.1), (c.1, e.1)), e.2)
  else (((false, false), ([], []), (0, 0)), r)
/-- The ons and states within a state, of a reader of inner states; g bounds how many. -/
def inR {α : Type} (inner : RsC → α × RsC) : Nat → List OnC → List α → RsC → (List OnC × List α) × RsC
  | 0, os, ss, r => ((os, ss), r)
  | g + 1, os, ss, r => if r.2.2 = 0 ∧ isC [125] r = false then
      if isC wOn r = true then inR inner g (os ++ [(onR fin r).1]) ss (onR fin r).2
      else inR inner g os (ss ++ [(inner r).1]) (inner r).2
    else ((os, ss), r)
/-- A state, k below the deepest that may be: at 0 all is refused. -/
def stR : (k : Nat) → RsC → St (k + 1) × RsC
  | 0, r => (((([], (0, 0)), (false, false), ([], []), (0, 0), []), []), failC (if isC wState r = true then 13 else 12) (hereR fin r) r)
  | k + 1, r =>
    let a := nameR fin (takeR fin wState r)
    let b := kindR fin (takeR fin [123] a.2)
    let c := inR fin (stR k) (b.2.1.length + 1) [] [] b.2
    (((a.1, b.1.1, b.1.2.1, b.1.2.2, c.1.1), c.1.2), takeR fin [125] c.2)
end
/-- No words more; without an error behind it there was none ahead. -/
def Goes (r r' : RsC) : Prop := r'.1.length ≤ r.1.length ∧ (r'.2.2 = 0 → r.2.2 = 0)
theorem Goes.refl (r : RsC) : Goes r r := ⟨Nat.le_refl _, id⟩
theorem Goes.trans {a b c : RsC} (h : Goes a b) (k : Goes b c) : Goes a c := ⟨Nat.le_trans k.1 h.1, fun e => h.2 (k.2 e)⟩
section
variable (fin : Pl)
end
end Go.Proofs.Ytoankfbccofllaa

/- What the program's levelOf and Reserved do. -/
namespace Go.Proofs.Ytoankfbccofllaa
open Go.RowKit Go.Lib
set_option linter.unusedSimpArgs false
set_option linter.unusedVariables false
attribute [local go_sem ↓] Go.wp_at_zero Go.wp_at_succ

end Go.Proofs.Ytoankfbccofllaa

/- The expression of a tree. -/
namespace Go.Proofs.Ytoankfbccofllaa
open Go.RowKit
set_option linter.unusedSimpArgs false
set_option linter.unusedVariables false

/-- The expression of a tree. -/
def exV : (d : Nat) → T d → Value := fold (fun k n s l =>
  if k = 1 then .iface 102 (.agg #[.int .i64 n]) else if k = 2 then .iface 104 (.agg #[.string s]) else if k = 3 then .iface 106 (.agg #[l.getD 0 .nilIface]) else if k = 4 then .iface 107 (.agg #[l.getD 0 .nilIface])
  else if k = 5 then .iface 109 (.agg #[.string s, l.getD 0 .nilIface, l.getD 1 .nilIface]) else .nilIface)
def exP {d : Nat} (ps : List (T d)) (i : Nat) : Value := (ps.map (exV d)).getD i .nilIface
theorem exV_mk {d : Nat} (k n : Int) (s : ByteArray) (ps : List (T d)) : exV (d + 1) (mkT k n s ps) =
    if k = 1 then .iface 102 (.agg #[.int .i64 n]) else if k = 2 then .iface 104 (.agg #[.string s]) else if k = 3 then .iface 106 (.agg #[exP ps 0]) else if k = 4 then .iface 107 (.agg #[exP ps 0])
    else if k = 5 then .iface 109 (.agg #[.string s, exP ps 0, exP ps 1]) else .nilIface := rfl
theorem exV_form : ∀ (d : Nat) (t : T d), exV d t = .nilIface ∨ ∃ u x, exV d t = .iface u x
  | 0, t => Empty.elim t
  | d + 1, t => by
    obtain ⟨k, n, s, ps, rfl⟩ := T.open t
    rw [exV_mk]
    repeat' split
    all_goals first | exact .inl rfl | exact .inr ⟨_, _, rfl⟩
theorem exP_form {d : Nat} (ps : List (T d)) (i : Nat) : exP ps i = .nilIface ∨ ∃ u x, exP ps i = .iface u x := by
  unfold exP
  rw [List.getD_eq_getElem?_getD, List.getElem?_map]
  cases ps[i]? with
  | none => exact .inl rfl
  | some p => exact exV_form d p
end Go.Proofs.Ytoankfbccofllaa

/- What an expression is by itself: topOf. -/
namespace Go.Proofs.Ytoankfbccofllaa
open Go.RowKit Go.Lib
set_option linter.unusedSimpArgs false
set_option linter.unusedVariables false
attribute [local go_sem ↓] Go.wp_at_zero Go.wp_at_succ

/-- The slice v holds the values l, from a block's first cell on. -/
def Kids (w : World) (v : Value) (l : List Value) : Prop :=
  (v = .slice none 0 0 ∧ l = []) ∨ ∃ g, v = .slice (some ⟨g, 0, none⟩) l.length l.length ∧ ∀ (i : Nat) (h : i < l.length), w.cell? ⟨g, i, none⟩ = some l[i]
abbrev topV (k n : Int) (s : ByteArray) (v : Value) : Value := .agg #[.int .i64 k, .int .i64 n, .string s, v]
def Ifc (x : Value) : Prop := x = .nilIface ∨ ∃ u y, x = .iface u y

theorem as_lit_lit (v : Value) (w : World) : (Instr.typeAssert (.iface 102 v) 88 102 true).run Try.prog w = .ok (.tuple #[v, .bool true]) w := by kernel_rfl
theorem as_ref_lit (v : Value) (w : World) : (Instr.typeAssert (.iface 104 v) 88 102 true).run Try.prog w = .ok (.tuple #[.agg #[.int .i64 0], .bool false]) w := by kernel_rfl
theorem as_ref_ref (v : Value) (w : World) : (Instr.typeAssert (.iface 104 v) 88 104 true).run Try.prog w = .ok (.tuple #[v, .bool true]) w := by kernel_rfl
theorem as_not_lit (v : Value) (w : World) : (Instr.typeAssert (.iface 106 v) 88 102 true).run Try.prog w = .ok (.tuple #[.agg #[.int .i64 0], .bool false]) w := by kernel_rfl
theorem as_not_ref (v : Value) (w : World) : (Instr.typeAssert (.iface 106 v) 88 104 true).run Try.prog w = .ok (.tuple #[.agg #[.string ⟨#[]⟩], .bool false]) w := by kernel_rfl
theorem as_not_not (v : Value) (w : World) : (Instr.typeAssert (.iface 106 v) 88 106 true).run Try.prog w = .ok (.tuple #[v, .bool true]) w := by kernel_rfl
theorem as_neg_lit (v : Value) (w : World) : (Instr.typeAssert (.iface 107 v) 88 102 true).run Try.prog w = .ok (.tuple #[.agg #[.int .i64 0], .bool false]) w := by kernel_rfl
theorem as_neg_ref (v : Value) (w : World) : (Instr.typeAssert (.iface 107 v) 88 104 true).run Try.prog w = .ok (.tuple #[.agg #[.string ⟨#[]⟩], .bool false]) w := by kernel_rfl
theorem as_neg_not (v : Value) (w : World) : (Instr.typeAssert (.iface 107 v) 88 106 true).run Try.prog w = .ok (.tuple #[.agg #[.nilIface], .bool false]) w := by kernel_rfl
theorem as_neg_neg (v : Value) (w : World) : (Instr.typeAssert (.iface 107 v) 88 107 true).run Try.prog w = .ok (.tuple #[v, .bool true]) w := by kernel_rfl
theorem as_bin_lit (v : Value) (w : World) : (Instr.typeAssert (.iface 109 v) 88 102 true).run Try.prog w = .ok (.tuple #[.agg #[.int .i64 0], .bool false]) w := by kernel_rfl
theorem as_bin_ref (v : Value) (w : World) : (Instr.typeAssert (.iface 109 v) 88 104 true).run Try.prog w = .ok (.tuple #[.agg #[.string ⟨#[]⟩], .bool false]) w := by kernel_rfl
theorem as_bin_not (v : Value) (w : World) : (Instr.typeAssert (.iface 109 v) 88 106 true).run Try.prog w = .ok (.tuple #[.agg #[.nilIface], .bool false]) w := by kernel_rfl
theorem as_bin_neg (v : Value) (w : World) : (Instr.typeAssert (.iface 109 v) 88 107 true).run Try.prog w = .ok (.tuple #[.agg #[.nilIface], .bool false]) w := by kernel_rfl
theorem as_bin_bin (v : Value) (w : World) : (Instr.typeAssert (.iface 109 v) 88 109 true).run Try.prog w = .ok (.tuple #[v, .bool true]) w := by kernel_rfl
attribute [local go_sem] as_lit_lit as_ref_lit as_ref_ref as_not_lit as_not_ref as_not_not as_neg_lit as_neg_ref as_neg_not as_neg_neg as_bin_lit as_bin_ref as_bin_not as_bin_neg as_bin_bin

theorem cell1_new (w : World) (a : Value) (t : TypeId) (n : Nat) (hn : n = w.heap.size) : (w.alloc (.cells #[a] t)).cell? ⟨n, 0, none⟩ = some a := by subst hn; simp
theorem cell2_new (w : World) (a b : Value) (t : TypeId) (n : Nat) (hn : n = w.heap.size) : (w.alloc (.cells #[a, b] t)).cell? ⟨n, 0, none⟩ = some a ∧ (w.alloc (.cells #[a, b] t)).cell? ⟨n, 1, none⟩ = some b := by subst hn; simp
theorem kids0 (w : World) : Kids w (.slice none 0 0) [] := .inl ⟨rfl, rfl⟩
theorem kids1 {w : World} {g : Nat} {x : Value} (h : w.cell? ⟨g, 0, none⟩ = some x) : Kids w (.slice (some ⟨g, 0, none⟩) 1 1) [x] := .inr ⟨g, rfl, fun i hi => by
  match i, hi with
  | 0, _ => exact h⟩
theorem kids2 {w : World} {g : Nat} {x y : Value} (h : w.cell? ⟨g, 0, none⟩ = some x) (h' : w.cell? ⟨g, 1, none⟩ = some y) : Kids w (.slice (some ⟨g, 0, none⟩) 2 2) [x, y] := .inr ⟨g, rfl, fun i hi => by
  match i, hi with
  | 0, _ => exact h
  | 1, _ => exact h'⟩
theorem Kids.below {w w' : World} {v : Value} {l : List Value} {B : Nat} (h : Kids w v l) (hb : Below B w w') (hB : w.heap.size ≤ B) : Kids w' v l := by
  rcases h with h | ⟨g, hv, hc⟩
  · exact .inl h
  · exact .inr ⟨g, hv, fun i hi => by rw [hb.cell (p := ⟨g, i, none⟩) (Nat.lt_of_lt_of_le (World.block_lt_of_cell? w _ (hc i hi)) hB)]; exact hc i hi⟩

theorem top_nil (w : World) : Calls Try.prog 49 #[.nilIface] w fun e w' => ∃ sl, e = .returned (topV 0 0 ⟨#[]⟩ sl) ∧ Kids w' sl [] ∧ Below w.heap.size w w' := by
  go_enter Try.func49, Try.ntmps49
  go_wp2
  refine bodyPost_ret (v := topV 0 0 ⟨#[]⟩ (.slice none 0 0)) (by simp [results, Try.results49, go_sem]) rfl ⟨_, rfl, kids0 _, ?_⟩
  · (repeat (refine Below.alloc ?_ (by simp <;> omega) _)); exact Below.refl _ _

theorem top_lit (n : Int) (w : World) : Calls Try.prog 49 #[.iface 102 (.agg #[.int .i64 n])] w fun e w' => ∃ sl, e = .returned (topV 1 n ⟨#[]⟩ sl) ∧ Kids w' sl [] ∧ Below w.heap.size w w' := by
  go_enter Try.func49, Try.ntmps49
  go_wp2
  refine bodyPost_ret (v := topV 1 n ⟨#[]⟩ (.slice none 0 0)) (by simp [results, Try.results49, go_sem]) rfl ⟨_, rfl, kids0 _, ?_⟩
  · (repeat (refine Below.alloc ?_ (by simp <;> omega) _)); exact Below.refl _ _

theorem top_ref (s : ByteArray) (w : World) : Calls Try.prog 49 #[.iface 104 (.agg #[.string s])] w fun e w' => ∃ sl, e = .returned (topV 2 0 s sl) ∧ Kids w' sl [] ∧ Below w.heap.size w w' := by
  go_enter Try.func49, Try.ntmps49
  go_wp2
  refine bodyPost_ret (v := topV 2 0 s (.slice none 0 0)) (by simp [results, Try.results49, go_sem]) rfl ⟨_, rfl, kids0 _, ?_⟩
  · (repeat (refine Below.alloc ?_ (by simp <;> omega) _)); exact Below.refl _ _

theorem top_not (x : Value) (hx : Ifc x) (w : World) : Calls Try.prog 49 #[.iface 106 (.agg #[x])] w fun e w' => ∃ sl, e = .returned (topV 3 0 ⟨#[]⟩ sl) ∧ Kids w' sl [x] ∧ Below w.heap.size w w' := by
  rcases hx with rfl | ⟨u, y, rfl⟩
  · go_enter Try.func49, Try.ntmps49
    go_wp2
    refine bodyPost_ret (v := topV 3 0 ⟨#[]⟩ (.slice (some ⟨w.heap.size + 4, 0, none⟩) 1 1)) (by simp [results, Try.results49, go_sem]) rfl ⟨_, rfl, kids1 ?_, ?_⟩
    · exact cell1_new _ _ _ _ (by simp)
    · (repeat (refine Below.alloc ?_ (by simp <;> omega) _)); exact Below.refl _ _
  · go_enter Try.func49, Try.ntmps49
    go_wp2
    refine bodyPost_ret (v := topV 3 0 ⟨#[]⟩ (.slice (some ⟨w.heap.size + 4, 0, none⟩) 1 1)) (by simp [results, Try.results49, go_sem]) rfl ⟨_, rfl, kids1 ?_, ?_⟩
    · exact cell1_new _ _ _ _ (by simp)
    · (repeat (refine Below.alloc ?_ (by simp <;> omega) _)); exact Below.refl _ _

theorem top_neg (x : Value) (hx : Ifc x) (w : World) : Calls Try.prog 49 #[.iface 107 (.agg #[x])] w fun e w' => ∃ sl, e = .returned (topV 4 0 ⟨#[]⟩ sl) ∧ Kids w' sl [x] ∧ Below w.heap.size w w' := by
  rcases hx with rfl | ⟨u, y, rfl⟩
  · go_enter Try.func49, Try.ntmps49
    go_wp2
    refine bodyPost_ret (v := topV 4 0 ⟨#[]⟩ (.slice (some ⟨w.heap.size + 5, 0, none⟩) 1 1)) (by simp [results, Try.results49, go_sem]) rfl ⟨_, rfl, kids1 ?_, ?_⟩
    · exact cell1_new _ _ _ _ (by simp)
    · (repeat (refine Below.alloc ?_ (by simp <;> omega) _)); exact Below.refl _ _
  · go_enter Try.func49, Try.ntmps49
    go_wp2
    refine bodyPost_ret (v := topV 4 0 ⟨#[]⟩ (.slice (some ⟨w.heap.size + 5, 0, none⟩) 1 1)) (by simp [results, Try.results49, go_sem]) rfl ⟨_, rfl, kids1 ?_, ?_⟩
    · exact cell1_new _ _ _ _ (by simp)
    · (repeat (refine Below.alloc ?_ (by simp <;> omega) _)); exact Below.refl _ _

theorem top_bin (s : ByteArray) (x x' : Value) (hx : Ifc x) (hx' : Ifc x') (w : World) : Calls Try.prog 49 #[.iface 109 (.agg #[.string s, x, x'])] w fun e w' => ∃ sl, e = .returned (topV 5 0 s sl) ∧ Kids w' sl [x, x'] ∧ Below w.heap.size w w' := by
  rcases hx with rfl | ⟨u, y, rfl⟩ <;> rcases hx' with rfl | ⟨u', y', rfl⟩
  · go_enter Try.func49, Try.ntmps49
    go_wp2
    refine bodyPost_ret (v := topV 5 0 s (.slice (some ⟨w.heap.size + 6, 0, none⟩) 2 2)) (by simp [results, Try.results49, go_sem]) rfl ⟨_, rfl, kids2 ?_ ?_, ?_⟩
    · exact (cell2_new _ _ _ _ _ (by simp)).1
    · exact (cell2_new _ _ _ _ _ (by simp)).2
    · (repeat (refine Below.alloc ?_ (by simp <;> omega) _)); exact Below.refl _ _
  · go_enter Try.func49, Try.ntmps49
    go_wp2
    refine bodyPost_ret (v := topV 5 0 s (.slice (some ⟨w.heap.size + 6, 0, none⟩) 2 2)) (by simp [results, Try.results49, go_sem]) rfl ⟨_, rfl, kids2 ?_ ?_, ?_⟩
    · exact (cell2_new _ _ _ _ _ (by simp)).1
    · exact (cell2_new _ _ _ _ _ (by simp)).2
    · (repeat (refine Below.alloc ?_ (by simp <;> omega) _)); exact Below.refl _ _
  · go_enter Try.func49, Try.ntmps49
    go_wp2
    refine bodyPost_ret (v := topV 5 0 s (.slice (some ⟨w.heap.size + 6, 0, none⟩) 2 2)) (by simp [results, Try.results49, go_sem]) rfl ⟨_, rfl, kids2 ?_ ?_, ?_⟩
    · exact (cell2_new _ _ _ _ _ (by simp)).1
    · exact (cell2_new _ _ _ _ _ (by simp)).2
    · (repeat (refine Below.alloc ?_ (by simp <;> omega) _)); exact Below.refl _ _
  · go_enter Try.func49, Try.ntmps49
    go_wp2
    refine bodyPost_ret (v := topV 5 0 s (.slice (some ⟨w.heap.size + 6, 0, none⟩) 2 2)) (by simp [results, Try.results49, go_sem]) rfl ⟨_, rfl, kids2 ?_ ?_, ?_⟩
    · exact (cell2_new _ _ _ _ _ (by simp)).1
    · exact (cell2_new _ _ _ _ _ (by simp)).2
    · (repeat (refine Below.alloc ?_ (by simp <;> omega) _)); exact Below.refl _ _

theorem ifc_ex {d : Nat} (t : T d) : Ifc (exV d t) := exV_form d t
/-- What an expression is by itself. -/
theorem top_any {d : Nat} {t : T (d + 1)} (hc : Cl (d + 1) t) : ∃ k n s ps, t = mkT k n s ps ∧ ∀ w, Calls Try.prog 49 #[exV (d + 1) t] w fun e w' => ∃ sl, e = .returned (topV k n s sl) ∧ Kids w' sl (ps.map (exV d)) ∧ Below w.heap.size w w' := by
  rcases hc.cases with ⟨n, rfl⟩ | ⟨s, rfl⟩ | ⟨k, p, hk, rfl, hp⟩ | ⟨s, p, q, rfl, hp, hq⟩ | rfl
  · exact ⟨1, n, _, [], rfl, fun w => top_lit n w⟩
  · exact ⟨2, 0, s, [], rfl, fun w => top_ref s w⟩
  · rcases hk with rfl | rfl
    · exact ⟨3, 0, _, [p], rfl, fun w => top_not (exV d p) (ifc_ex p) w⟩
    · exact ⟨4, 0, _, [p], rfl, fun w => top_neg (exV d p) (ifc_ex p) w⟩
  · exact ⟨5, 0, s, [p, q], rfl, fun w => top_bin s (exV d p) (exV d q) (ifc_ex p) (ifc_ex q) w⟩
  · exact ⟨0, 0, _, [], rfl, fun w => top_nil w⟩
end Go.Proofs.Ytoankfbccofllaa

/- Rows of expressions that are left to be asked: in memory, popped, grown. -/
namespace Go.Proofs.Ytoankfbccofllaa
open Go.RowKit Go.Lib
set_option linter.unusedSimpArgs false
set_option linter.unusedVariables false

theorem fld_i (a b c e : Value) (w : World) : (Instr.field 128 (.agg #[a, b, c, e]) 3).run Try.prog w = .ok e w := by kernel_rfl
abbrev Sg := (d : Nat) × T d
def exS (x : Sg) : Value := exV x.1 x.2
def cntS (x : Sg) : Nat := cnt x.1 x.2
def ClS (x : Sg) : Prop := Cl x.1 x.2
/-- The slice v, of the call's own from block base on, holds the expressions st. -/
def Stk (w : World) (base : Nat) (v : Value) (st : List Sg) : Prop := w.ownsRow base 88 1 v st.length (st.map exS)
theorem own_on {w w' : World} {base e size : Nat} {v : Value} {n : Nat} {xs : List Value} {B : Nat} (h : w.ownsRow base e size v n xs) (hb : Below B w w') (hB : w.heap.size ≤ B) : w'.ownsRow base e size v n xs := by
  refine ⟨h.1, ?_⟩
  rcases h.2 with hn | ⟨g, cap, cur, rfl, hbg, hg, rest⟩
  · exact .inl hn
  · exact .inr ⟨g, cap, cur, rfl, hbg, by rw [hb.block g (by have := (Array.getElem?_eq_some_iff.1 hg).1; omega)]; exact hg, rest⟩
theorem Stk.on {w w' : World} {base : Nat} {v : Value} {st : List Sg} {B : Nat} (h : Stk w base v st) (hb : Below B w w') (hB : w.heap.size ≤ B) : Stk w' base v st := own_on h hb hB
theorem exS_form (x : Sg) : exS x = .nilIface ∨ ∃ u y, exS x = .iface u y := exV_form x.1 x.2
/-- The last one taken off. -/
theorem Stk.pop {w : World} {base : Nat} {v : Value} {st : List Sg} {x : Sg} (h : Stk w base v (st ++ [x])) : ∃ g cap, v = .slice (some ⟨g, 0, none⟩) (st.length + 1) cap ∧ st.length + 1 ≤ cap ∧ cap ≤ maxLen ∧ base ≤ g ∧ g < w.heap.size ∧
    w.cell? ⟨g, st.length, none⟩ = some (exS x) ∧ Stk w base (.slice (some ⟨g, 0, none⟩) st.length cap) st := by
  unfold Stk at h
  rw [List.length_append, List.length_singleton, List.map_append, List.map_singleton] at h
  have hc := fun g => World.ownsRow.cells h (g := g)
  rcases h.2 with ⟨_, h2⟩ | ⟨g, cap, cur, rfl, hb, hg, hnc, hcm, hcs, htake⟩
  · omega
  · have h1 := hc g rfl st.length (exS x) (by simp)
    rw [show (⟨g, 0, none⟩ : Addr).add st.length = ⟨g, st.length, none⟩ by unfold Addr.add; split <;> simp_all] at h1
    refine ⟨g, cap, rfl, hnc, hcm, hb, (Array.getElem?_eq_some_iff.1 hg).1, h1, by simp, .inr ⟨g, cap, cur, rfl, hb, hg, by omega, hcm, hcs, ?_⟩⟩
    have h3 := congrArg (List.take st.length) htake
    rw [List.take_take] at h3
    simp only [Nat.mul_one] at h3 ⊢
    rw [Nat.min_eq_left (by omega), List.take_left' (by simp)] at h3
    exact h3
theorem Stk.nil {w : World} {base : Nat} {v : Value} (h : Stk w base v []) : ∃ a cap, v = .slice a 0 cap := by
  rcases h.2 with ⟨h1, _⟩ | ⟨g, cap, cur, rfl, _⟩
  · exact ⟨_, _, h1⟩
  · exact ⟨_, _, rfl⟩
theorem Try.infoE : (Try.prog.info? 88).map (fun i => (i.zero, i.size, i.bytes)) = some (some .nilIface, 1, 16) := by kernel_rfl
theorem Kids.form {w : World} {sl : Value} {l : List Value} (h : Kids w sl l) : ∃ a, sl = .slice a l.length l.length := by
  rcases h with ⟨rfl, rfl⟩ | ⟨g, rfl, _⟩
  · exact ⟨_, rfl⟩
  · exact ⟨_, rfl⟩
theorem Kids.at {w : World} {a : Option Addr} {m c j : Nat} {l : List Value} (h : Kids w (.slice a m c) l) (hj : j < l.length) : ∃ g, a = some ⟨g, 0, none⟩ ∧ w.cell? ⟨g, j, none⟩ = some l[j] := by
  rcases h with ⟨h1, rfl⟩ | ⟨g, h1, hc⟩
  · simp at hj
  · simp only [Value.slice.injEq] at h1
    exact ⟨g, h1.1, hc j hj⟩
theorem Kids.src {w : World} {sl : Value} {l : List Value} (h : Kids w sl l) (hf : ∀ v ∈ l, Ifc v) : Src Try.prog 1 126 sl l.length l w := by
  rcases h with ⟨rfl, rfl⟩ | ⟨g, rfl, hc⟩
  · exact Src.ofNil w Try.underlying126 0
  · refine Src.ofSlice w Try.underlying126 _ _ _ l (by simp) (fun j u hu => ?_) (fun u hu => ?_)
    · have hj : j < l.length := (List.getElem?_eq_some_iff.1 hu).1
      rw [List.getElem?_eq_getElem hj] at hu
      rw [show (⟨g, 0, none⟩ : Addr).add j = ⟨g, j, none⟩ by unfold Addr.add; split <;> simp_all, hc j hj, hu]
    · rcases hf u hu with rfl | ⟨t, y, rfl⟩ <;> rfl
/-- The parts of a tree, each with its depth. -/
def kidS {d : Nat} (ps : List (T d)) : List Sg := ps.map (fun p => ⟨d, p⟩)
theorem kidS_ex {d : Nat} (ps : List (T d)) : (kidS ps).map exS = ps.map (exV d) := by unfold kidS; rw [List.map_map]; rfl
theorem kidS_cnt {d : Nat} (ps : List (T d)) : ((kidS ps).map cntS).sum = (ps.map (cnt d)).sum := by unfold kidS; rw [List.map_map]; rfl
theorem kidS_len {d : Nat} (ps : List (T d)) : (kidS ps).length = ps.length := by simp [kidS]
theorem Stk.push {w : World} {base : Nat} {v : Value} {st : List Sg} {d : Nat} {ps : List (T d)} {n : Nat} (hn : n = st.length + ps.length) (h : w.ownsRow base 88 1 v n (st.map exS ++ ps.map (exV d))) : Stk w base v (st ++ kidS ps) := by
  unfold Stk
  rw [List.length_append, List.map_append, kidS_ex, kidS_len, ← hn]
  exact h
theorem ifc_map {d : Nat} (ps : List (T d)) : ∀ v ∈ ps.map (exV d), Ifc v := fun v hv => by
  obtain ⟨p, _, rfl⟩ := List.mem_map.1 hv
  exact ifc_ex p
/-- What is asked of a tree's parts. -/
theorem Cl.parts {d : Nat} {k n : Int} {s : ByteArray} {ps : List (T d)} (h : Cl (d + 1) (mkT k n s ps)) : ps.length ≤ 2 ∧ ∀ p ∈ ps, Cl d p := by
  rcases h with ⟨_, _, h3⟩ | ⟨_, _, h3⟩ | ⟨_, _, _, p, h4, h5⟩ | ⟨_, _, p, q, h3, h4, h5⟩ | ⟨_, _, _, h4⟩
  · simp only at h3; subst h3; simp
  · simp only at h3; subst h3; simp
  · simp only at h4; subst h4; simpa using h5
  · simp only at h3; subst h3; simp [h4, h5]
  · simp only at h4; subst h4; simp
theorem last_of {α : Type} {l : List α} (h : l ≠ []) : ∃ a x, l = a ++ [x] := ⟨l.dropLast, l.getLast h, (List.dropLast_concat_getLast h).symm⟩
end Go.Proofs.Ytoankfbccofllaa

/- The program's reader in memory: its operands, and the signs that wait; what is small. -/
namespace Go.Proofs.Ytoankfbccofllaa
open Go.RowKit Go.Lib
set_option linter.unusedSimpArgs false
set_option linter.unusedVariables false
attribute [local go_sem ↓] Go.wp_at_zero Go.wp_at_succ

def exX (x : Sx) : Value := exV x.1 x.2
theorem exX_form (x : Sx) : exX x = .nilIface ∨ ∃ u y, exX x = .iface u y := exV_form x.1 x.2
/-- Nothing has turned but the reader, its two rows, and new blocks; the rows are where they were, or new. -/
structure Fr2 (X : Nat) (vv ww : Value) (w w' : World) (vv' ww' : Value) : Prop where
  size : w.heap.size ≤ w'.heap.size
  block : ∀ k, k < w.heap.size → k ≠ X → vv.ownBlock ≠ some k → ww.ownBlock ≠ some k → w'.heap[k]? = w.heap[k]?
  lv : ∀ g, vv'.ownBlock = some g → vv.ownBlock = some g ∨ w.heap.size ≤ g
  lw : ∀ g, ww'.ownBlock = some g → ww.ownBlock = some g ∨ w.heap.size ≤ g
theorem Fr2.refl (X : Nat) (vv ww : Value) (w : World) : Fr2 X vv ww w w vv ww := ⟨Nat.le_refl _, fun _ _ _ _ _ => rfl, fun _ h => .inl h, fun _ h => .inl h⟩
theorem Fr2.on {X : Nat} {vv ww vv' ww' : Value} {w w1 w2 : World} (h : Fr2 X vv ww w w1 vv' ww') (hb : Below w1.heap.size w1 w2) : Fr2 X vv ww w w2 vv' ww' :=
  ⟨Nat.le_trans h.size hb.size, fun k hk a b c => (hb.block k (Nat.lt_of_lt_of_le hk h.size)).trans (h.block k hk a b c), h.lv, h.lw⟩
theorem Fr2.setX {X : Nat} {vv ww vv' ww' : Value} {w w1 : World} (h : Fr2 X vv ww w w1 vv' ww') (i : Nat) (u : Value) : Fr2 X vv ww w (w1.setCell ⟨X, i, none⟩ u) vv' ww' :=
  ⟨by simpa using h.size, fun k hk a b c => (Below.heap_setCell _ _ _ _ (fun e => a e)).trans (h.block k hk a b c), h.lv, h.lw⟩
theorem Fr2.rows {X : Nat} {vv ww vv' ww' vv2 ww2 : Value} {w w1 : World} (h : Fr2 X vv ww w w1 vv' ww') (hv : vv2.ownBlock = vv'.ownBlock) (hw : ww2.ownBlock = ww'.ownBlock) : Fr2 X vv ww w w1 vv2 ww2 :=
  ⟨h.size, h.block, fun g hg => h.lv g (hv ▸ hg), fun g hg => h.lw g (hw ▸ hg)⟩
theorem Fr2.trans {X : Nat} {vv ww v1 u1 v2 u2 : Value} {w w1 w2 : World} (h : Fr2 X vv ww w w1 v1 u1) (k : Fr2 X v1 u1 w1 w2 v2 u2) : Fr2 X vv ww w w2 v2 u2 := by
  refine ⟨Nat.le_trans h.size k.size, fun j hj a b c => ?_, fun g hg => ?_, fun g hg => ?_⟩
  · rw [k.block j (Nat.lt_of_lt_of_le hj h.size) a (fun e => ?_) (fun e => ?_), h.block j hj a b c]
    · rcases h.lv j e with q | q
      · exact b q
      · omega
    · rcases h.lw j e with q | q
      · exact c q
      · omega
  · rcases k.lv g hg with q | q
    · exact h.lv g q
    · exact .inr (Nat.le_trans h.size q)
  · rcases k.lw g hg with q | q
    · exact h.lw g q
    · exact .inr (Nat.le_trans h.size q)
end Go.Proofs.Ytoankfbccofllaa
