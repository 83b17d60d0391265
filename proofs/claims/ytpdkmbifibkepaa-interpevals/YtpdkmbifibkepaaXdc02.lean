import Derived.Test.YtpdkmbifibkepaaXdc01
import Derived.Lib.ItoaNum
import Derived.BigQuiet
import Derived.Deep.QuietTactic
import Derived.BigRegion

/- What the walks share: a text's bytes, names, numbers, signs, places, words in memory. -/
namespace Go.Proofs.Ytpdkmbifibkepaa
open Go.RowKit Go.Lib
set_option linter.unusedSimpArgs false
set_option linter.unusedVariables false

/-- A text's bytes. -/
abbrev bl (s : ByteArray) : List UInt8 := s.data.toList

theorem bl_length (s : ByteArray) : (bl s).length = s.size := rfl

theorem letter_eq (r : Int) : letter r = (decide (97 ≤ r) && decide (r ≤ 122) || decide (65 ≤ r) && decide (r ≤ 90) || decide (1072 ≤ r) && decide (r ≤ 1103)) := by
  unfold letter
  rw [Bool.eq_iff_iff]
  simp
  omega

theorem dgt_eq (r : Int) : dgt r = (decide (48 ≤ r) && decide (r ≤ 57)) := by
  unfold dgt
  rw [Bool.eq_iff_iff]
  simp

theorem ret_bool {a b : Bool} (h : a = b) : Ending.returned (.bool a) = .returned (.bool b) := by rw [h]

/-- m runes that may stand in a name, of k bytes, lie behind us. -/
structure Adv (l : List UInt8) (m k : Nat) : Prop where
  le : k ≤ l.length
  left : runes (l.drop k) = (runes l).drop m
  cnt : spn (runes l) = m + spn (runes (l.drop k))
  size : (byt ((runes l).take m)).length = k
  few : m ≤ k

theorem Adv.zero (l : List UInt8) : Adv l 0 0 := ⟨by omega, rfl, by simp, rfl, by omega⟩

theorem drop_ne {l : List UInt8} {k : Nat} (h : k < l.length) : l.drop k ≠ [] := by
  intro e
  have := congrArg List.length e
  rw [List.length_drop] at this
  simp at this
  omega

theorem byt_split (rs : List Ru) (m : Nat) : (byt rs).length = (byt (rs.take m)).length + (byt (rs.drop m)).length := by
  rw [← List.length_append, ← byt_append, List.take_append_drop]

theorem Adv.step {l : List UInt8} {m k : Nat} (h : Adv l m k) (hk : k < l.length) (hi : insd (nx (l.drop k)).1 = true) : Adv l (m + 1) (k + (nx (l.drop k)).2) := by
  have hne := drop_ne hk
  have hc := runes_cons hne
  have hle := nx_le hne
  have hps := nx_pos hne
  rw [List.length_drop] at hle
  have hd : (runes l).drop m = ((nx (l.drop k)).1, (l.drop k).take (nx (l.drop k)).2) :: runes ((l.drop k).drop (nx (l.drop k)).2) := by rw [← h.left, hc]
  have hd1 : (runes l).drop (m + 1) = runes (l.drop (k + (nx (l.drop k)).2)) := by
    have := congrArg List.tail hd
    rw [List.tail_drop, List.tail_cons, List.drop_drop] at this
    exact this
  refine ⟨by omega, hd1.symm, ?_, ?_, by have := h.few; omega⟩
  · rw [h.cnt, hc, List.drop_drop]
    show m + (if insd (nx (l.drop k)).1 = true then spn _ + 1 else 0) = _
    rw [if_pos hi]
    omega
  · have e1 := byt_split (runes l) (m + 1)
    rw [hd1, byt_runes _ _ (Nat.le_refl _), byt_runes _ _ (Nat.le_refl _), List.length_drop] at e1
    omega

theorem Adv.stop {l : List UInt8} {m k : Nat} (h : Adv l m k) (hs : l.length ≤ k ∨ insd (nx (l.drop k)).1 = false) : spn (runes l) = m := by
  rw [h.cnt]
  rcases hs with hs | hs
  · rw [List.drop_eq_nil_of_le hs]; rfl
  · by_cases hk : l.length ≤ k
    · rw [List.drop_eq_nil_of_le hk]; rfl
    · rw [runes_cons (drop_ne (by omega))]
      show m + (if insd (nx (l.drop k)).1 = true then _ else 0) = m
      rw [if_neg (by rw [hs]; decide)]
      omega

/-- How many bytes the runes have that may stand in a name, ahead. -/
def spb (l : List UInt8) : Nat := (byt ((runes l).take (spn (runes l)))).length

/-- Is a text a name? -/
def nameS (l : List UInt8) : Bool := letter (nx l).1 && ((spb l : Int) == (l.length : Int)) && decide (spn (runes l) ≤ 24)

def dB (c : UInt8) : Bool := decide (48 ≤ c.toNat ∧ c.toNat ≤ 57)

def valB (n : Int) : List UInt8 → Int
  | [] => n
  | c :: r => valB (10 * n + ((c.toNat : Int) - 48)) r

def numB (l : List UInt8) : Bool := decide (1 ≤ l.length ∧ l.length ≤ 10) && !(decide ((l.headD 0).toNat = 48) && decide (1 < l.length)) && l.all dB && decide (valB 0 l ≤ 1000000000)

theorem numB_not {l : List UInt8} (h : l.all dB = false) : numB l = false := by unfold numB; rw [h]; simp

theorem dB_yes {c : UInt8} (h : 48 ≤ c.toNat ∧ c.toNat ≤ 57) : dB c = true := decide_eq_true h

theorem dB_no {c : UInt8} (h : ¬ (48 ≤ c.toNat ∧ c.toNat ≤ 57)) : dB c = false := decide_eq_false h

/-- A rune's first byte tells whether it is of ASCII. -/
theorem runes_form : ∀ (n : Nat) (l : List UInt8), l.length ≤ n → ∀ v ∈ runes l, ∃ c r, v.2 = c :: r ∧ (c.toNat < 128 → v.1 = (c.toNat : Int) ∧ r = []) ∧ (¬ c.toNat < 128 → v.1 = -1 ∨ 128 ≤ v.1)
  | 0, l, h, v, hv => by
    have : l = [] := List.eq_nil_of_length_eq_zero (by omega)
    subst this; cases hv
  | n + 1, [], h, v, hv => by cases hv
  | n + 1, c :: r, h, v, hv => by
    by_cases hc : c.toNat < 128
    · rw [runes_ascii hc] at hv
      rcases List.mem_cons.1 hv with rfl | hv
      · exact ⟨c, [], rfl, fun _ => ⟨rfl, rfl⟩, fun h => absurd hc h⟩
      · exact runes_form n r (by simp at h; omega) v hv
    · have hp := nx_pos (l := c :: r) (by simp)
      rw [runes_cons (by simp)] at hv
      rcases List.mem_cons.1 hv with rfl | hv
      · obtain ⟨m, hm⟩ : ∃ m, (nx (c :: r)).2 = m + 1 := ⟨(nx (c :: r)).2 - 1, by omega⟩
        exact ⟨c, r.take m, by rw [hm, List.take_succ_cons], fun h => absurd h hc, fun _ => nx_big hc r⟩
      · exact runes_form n _ (by rw [List.length_drop]; omega) v hv

theorem form (l : List UInt8) : ∀ v ∈ runes l, ∃ c r, v.2 = c :: r ∧ (c.toNat < 128 → v.1 = (c.toNat : Int) ∧ r = []) ∧ (¬ c.toNat < 128 → v.1 = -1 ∨ 128 ≤ v.1) := runes_form _ l (Nat.le_refl _)

/-- An ASCII rune has one byte. -/
theorem asc_one {l : List UInt8} {v : Ru} (hv : v ∈ runes l) (h : 0 ≤ v.1 ∧ v.1 < 128) : ∃ c, v.2 = [c] ∧ v.1 = (c.toNat : Int) := by
  obtain ⟨c, r, e, h1, h2⟩ := form l v hv
  by_cases hc : c.toNat < 128
  · obtain ⟨a, b⟩ := h1 hc
    exact ⟨c, by rw [e, b], a⟩
  · have := h2 hc; omega

theorem digits_bytes {l : List UInt8} : ∀ (vs : List Ru), (∀ v ∈ vs, v ∈ runes l) → vs.all (fun v => dgt v.1) = true → (byt vs).length = vs.length ∧ (byt vs).all dB = true ∧ (∀ n, valB n (byt vs) = val n vs) ∧ (vs ≠ [] → ((byt vs).headD 0).toNat = ((vs.headD (0, [])).1).toNat)
  | [], _, _ => ⟨rfl, rfl, fun _ => rfl, fun h => absurd rfl h⟩
  | v :: t, hm, ha => by
    simp only [List.all_cons, Bool.and_eq_true] at ha
    have hd : 48 ≤ v.1 ∧ v.1 ≤ 57 := of_decide_eq_true ha.1
    obtain ⟨c, e1, e2⟩ := asc_one (hm v (by simp)) (by omega)
    obtain ⟨i1, i2, i3, i4⟩ := digits_bytes t (fun x hx => hm x (by simp [hx])) ha.2
    have eb : byt (v :: t) = c :: byt t := by rw [byt_cons, e1]; rfl
    rw [eb]
    refine ⟨by simp [i1], ?_, fun n => ?_, fun _ => ?_⟩
    · simp only [List.all_cons, i2, Bool.and_true]
      exact dB_yes (by omega)
    · show valB (10 * n + ((c.toNat : Int) - 48)) (byt t) = val (10 * n + (v.1 - 48)) t
      rw [i3, e2]
    · simp [e2]

theorem not_digits {l : List UInt8} : ∀ (vs : List Ru), (∀ v ∈ vs, v ∈ runes l) → vs.all (fun v => dgt v.1) = false → (byt vs).all dB = false
  | [], _, h => by simp at h
  | v :: t, hm, ha => by
    rw [byt_cons, List.all_append]
    simp only [List.all_cons, Bool.and_eq_false_iff] at ha
    rw [Bool.and_eq_false_iff]
    rcases ha with ha | ha
    · left
      have hd : ¬ (48 ≤ v.1 ∧ v.1 ≤ 57) := of_decide_eq_false ha
      obtain ⟨c, r, e, h1, h2⟩ := form l v (hm v (by simp))
      rw [e, List.all_cons, Bool.and_eq_false_iff]
      left
      refine dB_no (fun h => hd ?_)
      have := (h1 (by omega)).1
      omega
    · right
      exact not_digits t (fun x hx => hm x (by simp [hx])) ha

theorem numB_numb {l : List UInt8} (vs : List Ru) (hm : ∀ v ∈ vs, v ∈ runes l) : numB (byt vs) = numb vs := by
  cases ha : vs.all (fun v => dgt v.1) with
  | false =>
    rw [numB_not (not_digits vs hm ha)]
    unfold numb
    rw [ha]; simp
  | true =>
    obtain ⟨i1, i2, i3, i4⟩ := digits_bytes vs hm ha
    unfold numB numb
    rw [i1, i2, i3, ha]
    by_cases hn : vs = []
    · subst hn; rfl
    · have h4 := i4 hn
      have h5 : decide (((byt vs).headD 0).toNat = 48) = decide ((vs.headD (0, [])).1 = 48) := by
        match vs, hn with
        | v :: t, _ =>
          simp only [List.all_cons, Bool.and_eq_true] at ha
          have hd : 48 ≤ v.1 ∧ v.1 ≤ 57 := of_decide_eq_true ha.1
          have h6 : ((byt (v :: t)).headD 0).toNat = v.1.toNat := h4
          show decide (((byt (v :: t)).headD 0).toNat = 48) = decide (v.1 = 48)
          by_cases hq : v.1 = 48
          · rw [decide_eq_true hq]; exact decide_eq_true (by omega)
          · rw [decide_eq_false hq]; exact decide_eq_false (by omega)
      rw [h5]

/-- Two cells of a block stay behind a call. -/
theorem keep2 {w w' : World} {X : Nat} {a b : Value} (hb : Below w.heap.size w w') (h0 : w.cell? ⟨X, 0, none⟩ = some a) (h1 : w.cell? ⟨X, 1, none⟩ = some b) (f0 : w.frozen? ⟨X, 0, none⟩ = false) (f1 : w.frozen? ⟨X, 1, none⟩ = false) :
    w'.cell? ⟨X, 0, none⟩ = some a ∧ w'.cell? ⟨X, 1, none⟩ = some b ∧ w'.frozen? ⟨X, 0, none⟩ = false ∧ w'.frozen? ⟨X, 1, none⟩ = false := by
  have hX := World.block_lt_of_cell? w _ h0
  have hX' : X < w.heap.size := hX
  refine ⟨?_, ?_, ?_, ?_⟩
  · rw [hb.cell (p := ⟨X, 0, none⟩) hX']; exact h0
  · rw [hb.cell (p := ⟨X, 1, none⟩) hX']; exact h1
  · rw [hb.frozen (p := ⟨X, 0, none⟩) hX']; exact f0
  · rw [hb.frozen (p := ⟨X, 1, none⟩) hX']; exact f1

theorem new2 (w : World) (a b : Value) (T : TypeId) (n : Nat) (hn : n = w.heap.size) : (w.alloc (.cells #[a, b] T)).cell? ⟨n, 0, none⟩ = some a ∧ (w.alloc (.cells #[a, b] T)).cell? ⟨n, 1, none⟩ = some b ∧ (w.alloc (.cells #[a, b] T)).frozen? ⟨n, 0, none⟩ = false ∧ (w.alloc (.cells #[a, b] T)).frozen? ⟨n, 1, none⟩ = false := by
  subst hn
  refine ⟨by simp, by simp, by simp, by simp⟩

/-- A block of two cells. -/
def At (w : World) (X : Nat) (a b : Value) : Prop := w.cell? ⟨X, 0, none⟩ = some a ∧ w.cell? ⟨X, 1, none⟩ = some b ∧ w.frozen? ⟨X, 0, none⟩ = false ∧ w.frozen? ⟨X, 1, none⟩ = false

theorem At.keep {w w' : World} {X : Nat} {a b : Value} (h : At w X a b) (hb : Below w.heap.size w w') : At w' X a b := keep2 hb h.1 h.2.1 h.2.2.1 h.2.2.2

theorem cell_same {w : World} {p : Addr} {u v : Value} (h : w.cell? p = some u) : (w.setCell p v).cell? p = some v := World.cell?_setCell_same' w _ v (by rw [h]; rfl)

theorem cell_far {w : World} {X i Y j : Nat} {u v : Value} (hne : ¬ (X = Y ∧ i = j)) (h : w.cell? ⟨Y, j, none⟩ = some u) : (w.setCell ⟨X, i, none⟩ v).cell? ⟨Y, j, none⟩ = some u :=
  (World.cell?_setCell_other w ⟨X, i, none⟩ ⟨Y, j, none⟩ v (by simp; intro h1 h2; exact hne ⟨h1, h2⟩)).trans h

theorem At.set0 {w : World} {X : Nat} {a b : Value} (h : At w X a b) (v : Value) : At (w.setCell ⟨X, 0, none⟩ v) X v b :=
  ⟨cell_same h.1, cell_far (by omega) h.2.1, (World.frozen?_setCell _ _ _ _).trans h.2.2.1, (World.frozen?_setCell _ _ _ _).trans h.2.2.2⟩

theorem At.set1 {w : World} {X : Nat} {a b : Value} (h : At w X a b) (v : Value) : At (w.setCell ⟨X, 1, none⟩ v) X a v :=
  ⟨cell_far (by omega) h.1, cell_same h.2.1, (World.frozen?_setCell _ _ _ _).trans h.2.2.1, (World.frozen?_setCell _ _ _ _).trans h.2.2.2⟩

theorem At.far {w : World} {X Y i : Nat} {a b : Value} (h : At w Y a b) (hne : X ≠ Y) (v : Value) : At (w.setCell ⟨X, i, none⟩ v) Y a b :=
  ⟨cell_far (by omega) h.1, cell_far (by omega) h.2.1, (World.frozen?_setCell _ _ _ _).trans h.2.2.1, (World.frozen?_setCell _ _ _ _).trans h.2.2.2⟩

theorem At.new (w : World) (a b : Value) (T : TypeId) (n : Nat) (hn : n = w.heap.size) : At (w.alloc (.cells #[a, b] T)) n a b := new2 w a b T n hn

/-- A word's text. -/
def txt (seg : List Ru) : ByteArray := ⟨(byt seg).toArray⟩

def celW (x : Wd) : List Value := [.int .i64 (x.1 : Int), .string (txt x.2.1), .int .i64 x.2.2.1, .int .i64 x.2.2.2]

def celsW (l : List Wd) : List Value := l.flatMap celW

/-- The slice value v is the call's own, from block base on, and holds the words l. -/
def OwnW (w : World) (base e : Nat) (v : Value) (l : List Wd) : Prop := w.ownsRow base e 4 v l.length (celsW l)

theorem OwnW.below {w w' : World} {base e : Nat} {v : Value} {l : List Wd} {B : Nat} (h : OwnW w base e v l) (hb : Below B w w') (hB : w.heap.size ≤ B) : OwnW w' base e v l := by
  refine ⟨h.1, ?_⟩
  rcases h.2 with hn | ⟨g, cap, cur, rfl, hbg, hg, rest⟩
  · exact .inl hn
  · refine .inr ⟨g, cap, cur, rfl, hbg, ?_, rest⟩
    rw [hb.block g (by have := (Array.getElem?_eq_some_iff.1 hg).1; omega)]
    exact hg

theorem OwnW.set {w : World} {base e : Nat} {v : Value} {l : List Wd} (h : OwnW w base e v l) {a : Addr} (ha : a.block < base) (u : Value) : OwnW (w.setCell a u) base e v l := ownsRow_setCell_below h ha u

theorem OwnW.base {w : World} {base base' e : Nat} {v : Value} {l : List Wd} (h : OwnW w base e v l) (hb : base' ≤ base) : OwnW w base' e v l :=
  ⟨h.1, h.2.elim Or.inl (fun ⟨g, cap, cur, hv, hg, r⟩ => Or.inr ⟨g, cap, cur, hv, Nat.le_trans hb hg, r⟩)⟩

/-- The first rune is an ASCII sign just if the first byte is. -/
theorem head_is (c : UInt8) (r : List UInt8) {k : Nat} (hk : k < 128) : (nx (c :: r)).1 = (k : Int) ↔ c.toNat = k := by
  by_cases h : c.toNat < 128
  · rw [nx_ascii h]; simp only; omega
  · have := nx_big h r
    constructor
    · intro e; omega
    · intro e; omega

theorem runes_small {c : UInt8} (r : List UInt8) {k : Nat} (hk : k < 128) (h : c.toNat = k) : runes (c :: r) = ((k : Int), [c]) :: runes r := by
  rw [runes_ascii (by omega), h]

theorem At.keepB {w w' : World} {X B : Nat} {a b : Value} (h : At w X a b) (hb : Below B w w') (hX : X < B) : At w' X a b := by
  refine ⟨?_, ?_, ?_, ?_⟩
  · rw [hb.cell (p := ⟨X, 0, none⟩) hX]; exact h.1
  · rw [hb.cell (p := ⟨X, 1, none⟩) hX]; exact h.2.1
  · rw [hb.frozen (p := ⟨X, 0, none⟩) hX]; exact h.2.2.1
  · rw [hb.frozen (p := ⟨X, 1, none⟩) hX]; exact h.2.2.2

/-- Runes up to the line's end that lie behind us: j of them. -/
structure Rem (R : List Ru) (j : Nat) (l : List UInt8) : Prop where
  left : runes l = R.drop j
  cnt : rest R = j + rest (runes l)

theorem Rem.zero {l : List UInt8} : Rem (runes l) 0 l := ⟨rfl, by omega⟩

theorem Rem.step {R : List Ru} {j : Nat} {c : UInt8} {r : List UInt8} (h : Rem R j (c :: r)) (hc : c.toNat ≠ 10) : Rem R (j + 1) ((c :: r).drop (nx (c :: r)).2) := by
  have hcs := runes_cons (l := c :: r) (by simp)
  have hd : R.drop (j + 1) = runes ((c :: r).drop (nx (c :: r)).2) := by
    have := congrArg List.tail (h.left.symm.trans hcs)
    rw [List.tail_drop, List.tail_cons] at this
    exact this
  refine ⟨hd.symm, ?_⟩
  have hne : ¬ (nx (c :: r)).1 = 10 := fun e => hc ((head_is c r (k := 10) (by omega)).1 e)
  rw [h.cnt, hcs]
  show j + (if (nx (c :: r)).1 = 10 then 0 else rest _ + 1) = _
  rw [if_neg hne]
  omega

theorem Rem.stop {R : List Ru} {j : Nat} {c : UInt8} {r : List UInt8} (h : Rem R j (c :: r)) (hc : c.toNat = 10) : rest R = j := by
  rw [h.cnt, runes_small r (k := 10) (by omega) hc]
  rfl

def ndC : (d : Nat) → T d → Nat := fold (fun _ _ _ l => min (l.sum + 1) 41)
theorem ndC_mk {d : Nat} (k n : Int) (s : ByteArray) (ps : List (T d)) : ndC (d + 1) (mkT k n s ps) = min ((ps.map (ndC d)).sum + 1) 41 := rfl
def dpC : (d : Nat) → T d → Nat := fold (fun _ _ _ l => l.foldl max 0 + 1)
theorem dpC_mk {d : Nat} (k n : Int) (s : ByteArray) (ps : List (T d)) : dpC (d + 1) (mkT k n s ps) = (ps.map (dpC d)).foldl max 0 + 1 := rfl
def ops9 : List (List UInt8) := [[43], [45], [42], [60], [60, 61], [61, 61], [33, 61], [38, 38], [124, 124]]
def opr (s : ByteArray) : Bool := ops9.any (fun x => bl s == x)
def sdC : (d : Nat) → T d → Bool := fold (fun k n s l => if k = 1 then decide (0 ≤ n) && decide (n ≤ 1000000000) else if k = 2 then nameS (bl s) else if k = 3 ∨ k = 4 then l.all id else if k = 5 then opr s && l.all id else false)
theorem sdC_mk {d : Nat} (k n : Int) (s : ByteArray) (ps : List (T d)) : sdC (d + 1) (mkT k n s ps) =
    if k = 1 then decide (0 ≤ n) && decide (n ≤ 1000000000) else if k = 2 then nameS (bl s) else if k = 3 ∨ k = 4 then ps.all (sdC d) else if k = 5 then opr s && ps.all (sdC d) else false := by
  have e : (ps.map (sdC d)).all id = ps.all (sdC d) := by rw [List.all_map]; rfl
  rw [← e]
  rfl
def fmC (d : Nat) (t : T d) : Bool := decide (ndC d t ≤ 40) && decide (dpC d t ≤ 12) && sdC d t
theorem all_take_succ {α : Type} (f : α → Bool) (l : List α) (j : Nat) (h : j < l.length) (h1 : (l.take j).all f = true) (h2 : f l[j] = true) : (l.take (j + 1)).all f = true := by
  rw [List.take_succ_eq_append_getElem h, List.all_append, h1]; simp [h2]
theorem all_not {α : Type} (f : α → Bool) (l : List α) (j : Nat) (h : j < l.length) (h2 : f l[j] = false) : l.all f = false := by
  rw [List.all_eq_false]; exact ⟨l[j], List.getElem_mem h, by rw [h2]; decide⟩


/-- An expression, with its depth. -/
abbrev Sx := (d : Nat) × T d
/-- A function of expressions, by what it makes of a node and of its parts. -/
def foldS {α : Type} (f : Int → Int → ByteArray → List α → α) (x : Sx) : α := fold f x.1 x.2
def ClX (x : Sx) : Prop := Cl x.1 x.2
/-- The nodes, each ahead of its parts, with their number. -/
def enc : (d : Nat) → T d → List (Int × Int × ByteArray × Nat) := fold (fun k n s l => (k, n, s, l.length) :: l.flatten)

/-- A word: its kind, and its bytes. -/
abbrev Tk := Nat × List UInt8
/-- How strongly an operator binds; 0: it is none. -/
def lv (s : List UInt8) : Nat := if s = [124, 124] then 1 else if s = [38, 38] then 2 else if s = [60] ∨ s = [60, 61] ∨ s = [61, 61] ∨ s = [33, 61] then 3 else if s = [43] ∨ s = [45] then 4 else if s = [42] then 5 else 0
section
variable (nb : List UInt8 → Int) (rsv : List UInt8 → Bool) (l : List Tk)
end

/-- All folds take it for the same. -/
def Alk (x : Sx) {d : Nat} (t : T d) : Prop := (∀ (α : Type) (g : Int → Int → ByteArray → List α → α), foldS g x = fold g d t) ∧ (Cl d t → ClX x)
theorem Alk.of {d : Nat} (t : T d) : Alk ⟨d, t⟩ t := ⟨fun _ _ => rfl, id⟩
section
variable {nb : List UInt8 → Int} {rsv : List UInt8 → Bool} {l : List Tk}
variable {dc : Int → List UInt8}
end

section
variable (leaf : Tk → Option Sx)
end
section
variable {leaf : Tk → Option Sx} {l : List Tk}
end
section
variable {nb : List UInt8 → Int} {rsv : List UInt8 → Bool} {l : List Tk}
end

/-- What stands behind: nothing, a blank or a bracket. -/
def Post (post : List UInt8) : Prop := post = [] ∨ ∃ c r, post = c :: r ∧ (c = 32 ∨ c = 41 ∨ c = 10)
theorem Post.fst {a post : List UInt8} (ha : a ≠ []) (h : Post post) : runes (a ++ post) = runes a ++ runes post ∧ fst1 (runes a ++ runes post) = fst1 (runes a) := by
  rcases h with rfl | ⟨c, r, rfl, hc⟩
  · rw [List.append_nil, runes_nil, List.append_nil]; exact ⟨rfl, rfl⟩
  · have hc8 : c.toNat < 128 := by rcases hc with rfl | rfl | rfl <;> decide
    have hr := runes_stop a.length a (Nat.le_refl _) hc8 r
    have hne : runes a ≠ [] := by rw [runes_cons ha]; simp
    refine ⟨hr, ?_⟩
    rw [runes_ascii hc8]
    refine fst1_stop ?_ _ _ hne
    rcases hc with rfl | rfl | rfl
    · exact ⟨by decide, by decide, by decide, by decide⟩
    · exact ⟨by decide, by decide, by decide, by decide⟩
    · exact ⟨by decide, by decide, by decide, by decide⟩



/-- The runes are one word of this kind, and no more. -/
structure OneW (K : Nat) (seg : List Ru) : Prop where
  k : K ≠ 0
  f : fst1 seg = (K, seg.length)
  g : ∀ v ∈ seg, Good v
  h : ∃ v t, seg = v :: t ∧ v.1 ≠ 10 ∧ v.1 ≠ 32 ∧ v.1 ≠ 9 ∧ v.1 ≠ 35
  l : (byt seg).length ≤ 12000
theorem OneW.runes {K : Nat} {seg : List Ru} (h : OneW K seg) : runes (byt seg) = seg := by
  have := runes_goods seg [] h.g
  rw [List.append_nil, runes_nil, List.append_nil] at this
  exact this
/-- A word's text has that word alone. -/
theorem OneW.words {K : Nat} {seg : List Ru} (h : OneW K seg) : wordsS (byt seg) = ([(K, seg, 1, 1)], (0, 0), 0) := by
  have hr := h.runes
  have hl := h.l
  have hf := h.f
  have hk := h.k
  unfold wordsS
  rw [if_neg (by omega), hr]
  obtain ⟨v, t, e, h1, h2, h3, h4⟩ := h.h
  rw [e] at hf ⊢
  rw [wrds_cons, if_neg h1, if_neg (fun q => q.elim h2 h3), if_neg h4, hf, if_neg hk, if_neg (by decide), List.take_length, List.drop_length, wrds_nil]
  rfl
theorem OneW.kind {K : Nat} {seg : List Ru} (h : OneW K seg) : (K = 1 ∧ nameS (byt seg) = true) ∨ (K = 2 ∧ numB (byt seg) = true) ∨ (K = 3 ∧ ∃ v t, seg = v :: t ∧ letter v.1 = false ∧ dgt v.1 = false) := by
  have hr := h.runes
  have hf := h.f
  have hk := h.k
  obtain ⟨v, t, e, _⟩ := h.h
  have hbne : byt seg ≠ [] := fun e0 => by rw [e0, runes_nil] at hr; rw [← hr] at e; cases e
  have hnx : (nx (byt seg)).1 = v.1 := by
    have := runes_cons hbne
    rw [hr, e] at this
    injection this with h1 _
    rw [e]
    exact (congrArg Prod.fst h1).symm
  rw [e, fst1_cons, ← e] at hf
  by_cases a : letter v.1 = true
  · rw [if_pos a] at hf
    by_cases b : spn seg ≤ 24
    · rw [if_pos b] at hf
      injection hf with h1 h2
      left
      refine ⟨h1.symm, ?_⟩
      unfold nameS
      have hs : spb (byt seg) = (byt seg).length := by unfold spb; rw [hr, h2, List.take_length]
      rw [hnx, a, hs, hr, decide_eq_true b]; simp
    · rw [if_neg b] at hf
      injection hf with h1 _
      exact absurd h1.symm hk
  · rw [if_neg a] at hf
    by_cases d : dgt v.1 = true
    · rw [if_pos d] at hf
      by_cases b : numb (seg.take (spn seg)) = true
      · rw [if_pos b] at hf
        injection hf with h1 h2
        right; left
        refine ⟨h1.symm, ?_⟩
        rw [h2, List.take_length] at b
        rw [numB_numb (l := byt seg) seg (fun v hv => by rw [hr]; exact hv)]
        exact b
      · rw [if_neg b] at hf
        injection hf with h1 _
        exact absurd h1.symm hk
    · rw [if_neg d] at hf
      by_cases b : sgn seg = 0
      · rw [if_pos b] at hf
        injection hf with h1 _
        exact absurd h1.symm hk
      · rw [if_neg b] at hf
        injection hf with h1 _
        right; right
        exact ⟨h1.symm, v, t, e, by simpa using a, by simpa using d⟩
section
variable {nb : List UInt8 → Int} {rsv : List UInt8 → Bool} {l : List Tk} {Q : Nat → Nat → Sx → Prop}
end

/-- Nothing but block X has turned, and new blocks. -/
abbrev Fx (X : Nat) (w w' : World) : Prop := w.grownBy w' (some X)
theorem Fx.refl (X : Nat) (w : World) : Fx X w w := ⟨rfl, rfl, rfl, Nat.le_refl _, fun _ _ _ => rfl⟩
theorem Fx.trans {X : Nat} {a b c : World} (h : Fx X a b) (k : Fx X b c) : Fx X a c :=
  ⟨k.os.trans h.os, k.tape.trans h.tape, k.output.trans h.output, Nat.le_trans h.size k.size, fun j hj hne => (k.block j (Nat.lt_of_lt_of_le hj h.size) hne).trans (h.block j hj hne)⟩
theorem Fx.of {X B : Nat} {a b : World} (h : Below B a b) (hB : a.heap.size ≤ B) : Fx X a b := ⟨h.os, h.tape, h.output, h.size, fun k hk _ => h.block k (by omega)⟩
theorem Fx.setX {X i : Nat} {a b : World} (h : Fx X a b) (u : Value) : Fx X a (b.setCell ⟨X, i, none⟩ u) :=
  ⟨h.os, h.tape, h.output, by simpa using h.size, fun k hk hne => (Below.heap_setCell _ _ _ _ (fun e => hne (congrArg some e))).trans (h.block k hk hne)⟩
theorem Fx.drewN {X : Nat} {a b : World} (h : Fx X a b) (m : Nat) : Fx X a (b.drewN m) := ⟨h.os, h.tape, h.output, h.size, h.block⟩
theorem Fx.drew {X : Nat} {a b : World} (h : Fx X a b) : Fx X a b.drew := ⟨h.os, h.tape, h.output, h.size, h.block⟩
theorem Fx.alloc {X : Nat} {a b : World} (h : Fx X a b) (o : Obj) : Fx X a (b.alloc o) := h.trans (Fx.of ((Below.refl b.heap.size b).alloc (Nat.le_refl _) o) (Nat.le_refl _))
theorem Fx.below {X : Nat} {a b : World} (h : Fx X a b) {B : Nat} (hB : B ≤ X) (hs : B ≤ a.heap.size) : Below B a b := ⟨h.os, h.tape, h.output, h.size, fun k hk => h.block k (by omega) (fun e => by have : k = X := Option.some.inj e; omega)⟩
/-- The words, in memory apart from X. -/
def RdL (w : World) (X : Nat) (a : Option Addr) (ws : List Wd) : Prop := ∀ (i : Nat) (hi : i < ws.length), ∃ g off, a = some ⟨g, off, none⟩ ∧ g < X ∧ w.cell? ⟨g, off + i * 4, none⟩ = some (.int .i64 ((ws[i]).1 : Int)) ∧ w.cell? ⟨g, off + i * 4 + 1, none⟩ = some (.string (txt (ws[i]).2.1)) ∧ w.cell? ⟨g, off + i * 4 + 2, none⟩ = some (.int .i64 (ws[i]).2.2.1) ∧ w.cell? ⟨g, off + i * 4 + 3, none⟩ = some (.int .i64 (ws[i]).2.2.2)
theorem RdL.fx {w w' : World} {X : Nat} {a : Option Addr} {ws : List Wd} (h : RdL w X a ws) (hX : X < w.heap.size) (hf : Fx X w w') : RdL w' X a ws := fun i hi => by
  obtain ⟨g, off, h1, h3, c0, c1, c2, c3⟩ := h i hi
  have hb : w'.heap[g]? = w.heap[g]? := hf.block g (by omega) (fun e => by have : g = X := Option.some.inj e; omega)
  have hc : ∀ j, w'.cell? ⟨g, j, none⟩ = w.cell? ⟨g, j, none⟩ := fun j => World.cell?_of_block (w := w) (a := ⟨g, j, none⟩) hb
  exact ⟨g, off, h1, h3, (hc _).trans c0, (hc _).trans c1, (hc _).trans c2, (hc _).trans c3⟩
/-- The reader in block X. -/
structure Rr (w : World) (X : Nat) (a : Option Addr) (cap : Nat) (ws : List Wd) (n : Nat) (b : Int) : Prop where
  c0 : w.cell? ⟨X, 0, none⟩ = some (.slice a ws.length cap)
  c1 : w.cell? ⟨X, 1, none⟩ = some (.int .i64 (n : Int))
  c2 : w.cell? ⟨X, 2, none⟩ = some (.int .i64 b)
  f1 : w.frozen? ⟨X, 1, none⟩ = false
  f2 : w.frozen? ⟨X, 2, none⟩ = false
  l : RdL w X a ws
theorem Rr.lt {w : World} {X : Nat} {a : Option Addr} {cap : Nat} {ws : List Wd} {n : Nat} {b : Int} (h : Rr w X a cap ws n b) : X < w.heap.size := World.block_lt_of_cell? w _ h.c0
theorem Rr.on {w w' : World} {X : Nat} {a : Option Addr} {cap : Nat} {ws : List Wd} {n : Nat} {b : Int} (h : Rr w X a cap ws n b) (hb : Below w.heap.size w w') : Rr w' X a cap ws n b := by
  have hX := h.lt
  have hc : ∀ i, w'.cell? ⟨X, i, none⟩ = w.cell? ⟨X, i, none⟩ := fun i => hb.cell (p := ⟨X, i, none⟩) hX
  have hf : ∀ i, w'.frozen? ⟨X, i, none⟩ = w.frozen? ⟨X, i, none⟩ := fun i => hb.frozen (p := ⟨X, i, none⟩) hX
  exact ⟨(hc 0).trans h.c0, (hc 1).trans h.c1, (hc 2).trans h.c2, (hf 1).trans h.f1, (hf 2).trans h.f2, h.l.fx hX (Fx.of hb (Nat.le_refl _))⟩
theorem Rr.set1 {w : World} {X : Nat} {a : Option Addr} {cap : Nat} {ws : List Wd} {n : Nat} {b : Int} (h : Rr w X a cap ws n b) (n' : Nat) : Rr (w.setCell ⟨X, 1, none⟩ (.int .i64 (n' : Int))) X a cap ws n' b :=
  ⟨cell_far4 (by omega) h.c0, cell_same4 h.c1, cell_far4 (by omega) h.c2, (World.frozen?_setCell _ _ _ _).trans h.f1, (World.frozen?_setCell _ _ _ _).trans h.f2, h.l.fx h.lt ((Fx.refl X w).setX _)⟩
theorem Rr.set2 {w : World} {X : Nat} {a : Option Addr} {cap : Nat} {ws : List Wd} {n : Nat} {b : Int} (h : Rr w X a cap ws n b) (b' : Int) : Rr (w.setCell ⟨X, 2, none⟩ (.int .i64 b')) X a cap ws n b' :=
  ⟨cell_far4 (by omega) h.c0, cell_far4 (by omega) h.c1, cell_same4 h.c2, (World.frozen?_setCell _ _ _ _).trans h.f1, (World.frozen?_setCell _ _ _ _).trans h.f2, h.l.fx h.lt ((Fx.refl X w).setX _)⟩
theorem draws (w : World) (m : Nat) : Below w.heap.size w (w.drewN m) := ⟨rfl, rfl, rfl, Nat.le_refl _, fun _ _ => rfl⟩
theorem Rr.far {w : World} {X N i : Nat} {a : Option Addr} {cap : Nat} {ws : List Wd} {n : Nat} {b : Int} (h : Rr w X a cap ws n b) (hN : X < N) (u : Value) : Rr (w.setCell ⟨N, i, none⟩ u) X a cap ws n b := by
  refine ⟨cell_far4 (by omega) h.c0, cell_far4 (by omega) h.c1, cell_far4 (by omega) h.c2, (World.frozen?_setCell _ _ _ _).trans h.f1, (World.frozen?_setCell _ _ _ _).trans h.f2, fun j hj => ?_⟩
  obtain ⟨g, off, h1, h3, d0, d1, d2, d3⟩ := h.l j hj
  exact ⟨g, off, h1, h3, cell_far4 (by omega) d0, cell_far4 (by omega) d1, cell_far4 (by omega) d2, cell_far4 (by omega) d3⟩

/-- A block of cells that may be written. -/
def Bn (w : World) (Y : Nat) (cs : List Value) : Prop := ∀ j u, cs[j]? = some u → w.cell? ⟨Y, j, none⟩ = some u ∧ w.frozen? ⟨Y, j, none⟩ = false
theorem Bn.lt {w : World} {Y : Nat} {c : Value} {cs : List Value} (h : Bn w Y (c :: cs)) : Y < w.heap.size := World.block_lt_of_cell? w _ (h 0 c rfl).1
theorem frozen_of_block {w w' : World} {Y j : Nat} (h : w'.heap[Y]? = w.heap[Y]?) : w'.frozen? ⟨Y, j, none⟩ = w.frozen? ⟨Y, j, none⟩ := by
  unfold World.frozen?
  rw [h]
theorem Bn.blk {w w' : World} {Y : Nat} {cs : List Value} (h : Bn w Y cs) (hb : w'.heap[Y]? = w.heap[Y]?) : Bn w' Y cs := fun j u hu =>
  ⟨keep_cell (p := ⟨Y, j, none⟩) hb (h j u hu).1, (frozen_of_block hb).trans (h j u hu).2⟩
theorem Bn.on {w w' : World} {Y : Nat} {c : Value} {cs : List Value} (h : Bn w Y (c :: cs)) (hb : Below w.heap.size w w') : Bn w' Y (c :: cs) := h.blk (hb.block Y h.lt)
theorem Bn.fx {w w' : World} {X Y : Nat} {c : Value} {cs : List Value} (h : Bn w Y (c :: cs)) (hf : Fx X w w') (hne : Y ≠ X) : Bn w' Y (c :: cs) := h.blk (hf.block Y h.lt (fun e => hne (Option.some.inj e)))
theorem Bn.far {w : World} {Y X i : Nat} {cs : List Value} (h : Bn w Y cs) (hne : X ≠ Y) (v : Value) : Bn (w.setCell ⟨X, i, none⟩ v) Y cs := h.blk (Below.heap_setCell _ _ _ _ (fun e => hne e.symm))
theorem Bn.set {w : World} {Y i : Nat} {cs : List Value} (h : Bn w Y cs) (hi : i < cs.length) (v : Value) : Bn (w.setCell ⟨Y, i, none⟩ v) Y (cs.set i v) := fun j u hu => by
  refine ⟨?_, (World.frozen?_setCell _ _ _ _).trans ?_⟩
  · by_cases hj : i = j
    · subst hj
      rw [List.getElem?_set_self hi] at hu
      obtain rfl := Option.some.inj hu
      exact cell_same4 (h i _ (List.getElem?_eq_getElem hi)).1
    · rw [List.getElem?_set_ne hj] at hu
      exact cell_far4 (by omega) (h j u hu).1
  · have hl : j < cs.length := by
      have := (List.getElem?_eq_some_iff.1 hu).1
      rwa [List.length_set] at this
    exact (h j _ (List.getElem?_eq_getElem hl)).2
theorem Bn.drew {w : World} {Y : Nat} {cs : List Value} (h : Bn w Y cs) : Bn w.drew Y cs := h
theorem Bn.new (w : World) (cs : List Value) (t : TypeId) (n : Nat) (hn : n = w.heap.size) : Bn (w.alloc (.cells cs.toArray t)) n cs := by
  subst hn
  intro j u hu
  refine ⟨?_, by simp⟩
  rw [World.cell?_alloc_new]
  simpa using hu

/-- The slice v reads as the list l, k cells an element. -/
def RdK {α : Type} (ok : Nat → Prop) (w : World) (k : Nat) (R : α → List Value → Prop) (l : List α) (v : Value) : Prop :=
  ∃ a cap, v = .slice a l.length cap ∧ l.length ≤ cap ∧ cap ≤ maxLen ∧
    ∀ (i : Nat) (hi : i < l.length), ∃ b off cs, a = some ⟨b, off, none⟩ ∧ ok b ∧ b < w.heap.size ∧ cs.length = k ∧ R l[i] cs ∧ ∀ j u, cs[j]? = some u → w.cell? ⟨b, off + i * k + j, none⟩ = some u
theorem rdK_none {α : Type} (ok : Nat → Prop) (w : World) (k : Nat) (R : α → List Value → Prop) : RdK ok w k R [] (.slice none 0 0) := ⟨none, 0, rfl, by simp, by simp [maxLen], fun i hi => absurd hi (by simp)⟩
theorem RdK.keep {α : Type} {ok ok' : Nat → Prop} {w w' : World} {k : Nat} {R R' : α → List Value → Prop} {l : List α} {v : Value} (h : RdK ok w k R l v) (hR : ∀ x ∈ l, ∀ u, R x u → R' x u) (hk : ∀ b, ok b → b < w.heap.size → ok' b ∧ w'.heap[b]? = w.heap[b]?) : RdK ok' w' k R' l v := by
  obtain ⟨a, cap, rfl, hc, hm, hcell⟩ := h
  refine ⟨a, cap, rfl, hc, hm, fun i hi => ?_⟩
  obtain ⟨b, off, cs, ha, ho, hb, hl, hr, hcs⟩ := hcell i hi
  obtain ⟨ho', hs⟩ := hk _ ho hb
  refine ⟨b, off, cs, ha, ho', ?_, hl, hR _ (List.getElem_mem hi) _ hr, fun j u hu => keep_cell (p := ⟨b, off + i * k + j, none⟩) hs (hcs j u hu)⟩
  rcases Nat.lt_or_ge b w'.heap.size with h | h
  · exact h
  · rw [Array.getElem?_eq_none h, Array.getElem?_eq_getElem hb] at hs
    cases hs
theorem RdK.form {α : Type} {ok : Nat → Prop} {w : World} {k : Nat} {R : α → List Value → Prop} {l : List α} {v : Value} (h : RdK ok w k R l v) : ∃ a cap, v = .slice a l.length cap ∧ l.length ≤ cap ∧ cap ≤ maxLen := by
  obtain ⟨a, cap, h1, h2, h3, _⟩ := h
  exact ⟨a, cap, h1, h2, h3⟩
/-- A reading that stays where its blocks stay. -/
def Kp {α : Type} (R : (Nat → Prop) → World → α → List Value → Prop) : Prop := ∀ ⦃ok ok' : Nat → Prop⦄ ⦃w w' : World⦄ ⦃x : α⦄ ⦃cs : List Value⦄, R ok w x cs → (∀ b, ok b → b < w.heap.size → ok' b ∧ w'.heap[b]? = w.heap[b]?) → R ok' w' x cs
/-- The slice v is the call's own, from block base on, of k cells an element, and holds l; what lies behind its cells lies apart. -/
def OwnK {α : Type} (w : World) (base e k : Nat) (R : (Nat → Prop) → World → α → List Value → Prop) (v : Value) (l : List α) : Prop :=
  ∃ qs : List (List Value), w.ownsRow base e k v l.length qs.flatten ∧ qs.length = l.length ∧ ∀ (i : Nat) (h : i < l.length) (h' : i < qs.length), (qs[i]).length = k ∧ R (fun b => base ≤ b ∧ v.ownBlock ≠ some b) w l[i] qs[i]
theorem OwnK.keep {α : Type} {w w' : World} {base e k : Nat} {R : (Nat → Prop) → World → α → List Value → Prop} {v : Value} {l : List α} (hR : Kp R) (h : OwnK w base e k R v l) (hk : ∀ b, base ≤ b → b < w.heap.size → w'.heap[b]? = w.heap[b]?) : OwnK w' base e k R v l := by
  obtain ⟨qs, ho, hl, hr⟩ := h
  refine ⟨qs, ownsRow_keep ho (fun g hg => ?_), hl, fun i h h' => ⟨(hr i h h').1, hR (hr i h h').2 (fun b hb hlt => ⟨hb, hk b hb.1 hlt⟩)⟩⟩
  obtain ⟨a, b⟩ := ownsRow_lt ho g hg
  exact hk g a b
theorem OwnK.on {α : Type} {w w' : World} {base e k : Nat} {R : (Nat → Prop) → World → α → List Value → Prop} {v : Value} {l : List α} (hR : Kp R) (h : OwnK w base e k R v l) (hb : Below w.heap.size w w') : OwnK w' base e k R v l := h.keep hR (fun b _ hlt => hb.block b hlt)
theorem OwnK.fx {α : Type} {w w' : World} {base e k X : Nat} {R : (Nat → Prop) → World → α → List Value → Prop} {v : Value} {l : List α} (hR : Kp R) (h : OwnK w base e k R v l) (hf : Fx X w w') (hX : X < base) : OwnK w' base e k R v l :=
  h.keep hR (fun b hb hlt => hf.block b hlt (fun e => by have : b = X := Option.some.inj e; omega))
theorem OwnK.set {α : Type} {w : World} {base e k : Nat} {R : (Nat → Prop) → World → α → List Value → Prop} {v : Value} {l : List α} (hR : Kp R) (h : OwnK w base e k R v l) {X i : Nat} (hX : X < base) (u : Value) : OwnK (w.setCell ⟨X, i, none⟩ u) base e k R v l :=
  h.keep hR (fun b hb _ => Below.heap_setCell _ _ _ _ (fun e => by have : b = X := e; omega))
theorem OwnK.form {α : Type} {w : World} {base e k : Nat} {R : (Nat → Prop) → World → α → List Value → Prop} {v : Value} {l : List α} (h : OwnK w base e k R v l) : ∃ a cap, v = .slice a l.length cap ∧ l.length ≤ cap ∧ cap ≤ maxLen := by
  obtain ⟨qs, ho, _⟩ := h
  rcases ho.2 with ⟨h1, h2⟩ | ⟨g, cap, cur, h1, _, _, h3, h4, _⟩
  · exact ⟨none, 0, by rw [h1, h2], by omega, by simp [maxLen]⟩
  · exact ⟨_, _, h1, h3, h4⟩
/-- One more. The new one's memory lies from lo on, and the old row's block below. -/
theorem OwnK.snoc {α : Type} {w w' : World} {base e k lo n : Nat} {R : (Nat → Prop) → World → α → List Value → Prop} {v v' : Value} {l : List α} {p : α} {cs : List Value} {qs : List (List Value)} (hR : Kp R) (hk : cs.length = k)
    (hn : l.length = n) (ho : w.ownsRow base e k v n qs.flatten) (hl : qs.length = l.length) (hr : ∀ (i : Nat) (h : i < l.length) (h' : i < qs.length), (qs[i]).length = k ∧ R (fun b => base ≤ b ∧ v.ownBlock ≠ some b) w l[i] qs[i])
    (ho' : w'.ownsRow base e k v' (n + 1) (qs.flatten ++ cs)) (hg : w.grownBy w' v.ownBlock) (hat : v'.ownBlock = v.ownBlock ∨ v'.ownBlock = some w.heap.size)
    (hp : R (fun b => lo ≤ b) w p cs) (hlo : base ≤ lo) (hv : ∀ x, v.ownBlock = some x → x < lo) : OwnK w' base e k R v' (l ++ [p]) := by
  subst hn
  have key : ∀ b, base ≤ b ∧ v.ownBlock ≠ some b → b < w.heap.size → (base ≤ b ∧ v'.ownBlock ≠ some b) ∧ w'.heap[b]? = w.heap[b]? := fun b hb hlt => by
    refine ⟨⟨hb.1, fun e => ?_⟩, hg.block b hlt (fun e => hb.2 e.symm)⟩
    rcases hat with h | h
    · exact hb.2 (h ▸ e)
    · rw [h] at e; have : w.heap.size = b := Option.some.inj e; omega
  refine ⟨qs ++ [cs], ?_, by simp [hl], fun i h h' => ?_⟩
  · rw [List.flatten_append, List.length_append]
    simpa using ho'
  · rcases Nat.lt_or_ge i l.length with hi | hi
    · rw [List.getElem_append_left hi, List.getElem_append_left (by omega)]
      exact ⟨(hr i hi (by omega)).1, hR (hr i hi (by omega)).2 key⟩
    · have : i = l.length := by simp at h; omega
      subst this
      have e1 : (l ++ [p])[l.length] = p := by simp
      have e2 : (qs ++ [cs])[l.length]'h' = cs := by simp [← hl]
      rw [e1, e2]
      exact ⟨hk, hR hp (fun b hb hlt => key b ⟨by omega, fun e => by have := hv b e; omega⟩ hlt)⟩
theorem flat_at {k : Nat} : ∀ (qs : List (List Value)) (i j : Nat) (h : i < qs.length) (u : Value), (∀ (i : Nat) (h : i < qs.length), (qs[i]).length = k) → (qs[i])[j]? = some u → qs.flatten[i * k + j]? = some u
  | [], i, j, h, u, _, _ => by simp at h
  | x :: t, 0, j, h, u, hk, hu => by
    have hu' : x[j]? = some u := hu
    have hj := (List.getElem?_eq_some_iff.1 hu').1
    rw [List.flatten_cons, Nat.zero_mul, Nat.zero_add, List.getElem?_append_left hj]
    exact hu'
  | x :: t, i + 1, j, h, u, hk, hu => by
    have hx : x.length = k := hk 0 (by simp)
    have e : (i + 1) * k + j = x.length + (i * k + j) := by rw [hx, Nat.succ_mul]; omega
    rw [List.flatten_cons, e, List.getElem?_append_right (by omega), Nat.add_sub_cancel_left]
    exact flat_at t i j (by simpa using h) u (fun i h => hk (i + 1) (by simpa using h)) hu
/-- It reads as the list. -/
theorem OwnK.rd {α : Type} {w : World} {base e k : Nat} {R : (Nat → Prop) → World → α → List Value → Prop} {v : Value} {l : List α} (hR : Kp R) (h : OwnK w base e k R v l) : RdK (fun b => base ≤ b) w k (R (fun b => base ≤ b) w) l v := by
  obtain ⟨qs, ho, hl, hr⟩ := h
  have hc := fun g => World.ownsRow.cells ho (g := g)
  rcases ho.2 with ⟨rfl, hn⟩ | ⟨g, cap, cur, rfl, hb, hg, hnc, hcm, hcs, htake⟩
  · have hx : l = [] := List.eq_nil_of_length_eq_zero hn
    subst hx
    exact rdK_none _ w k _
  · refine ⟨some ⟨g, 0, none⟩, cap, rfl, hnc, hcm, fun i hi => ⟨g, 0, qs[i], rfl, hb, (Array.getElem?_eq_some_iff.1 hg).1, (hr i hi (by omega)).1, hR (hr i hi (by omega)).2 (fun b hb _ => ⟨hb.1, rfl⟩), fun j u hu => ?_⟩⟩
    have := hc g rfl (i * k + j) u (flat_at qs i j (by omega) u (fun i h => (hr i (by omega) h).1) hu)
    rw [add_plain] at this
    rw [Nat.zero_add]
    rwa [Nat.zero_add] at this
/-- Read from a lower block on. -/
theorem RdK.low {α : Type} {w : World} {base lo k : Nat} {R : (Nat → Prop) → World → α → List Value → Prop} {v : Value} {l : List α} (hR : Kp R) (h : RdK (fun b => base ≤ b) w k (R (fun b => base ≤ b) w) l v) (hlo : lo ≤ base) : RdK (fun b => lo ≤ b) w k (R (fun b => lo ≤ b) w) l v :=
  h.keep (fun x _ u hu => hR hu (fun b hb _ => ⟨by omega, rfl⟩)) (fun b hb _ => ⟨by omega, rfl⟩)
theorem RdK.stay {α : Type} {ok ok' : Nat → Prop} {w w' : World} {k : Nat} {R : (Nat → Prop) → World → α → List Value → Prop} {v : Value} {l : List α} (hR : Kp R) (h : RdK ok w k (R ok w) l v) (hk : ∀ b, ok b → b < w.heap.size → ok' b ∧ w'.heap[b]? = w.heap[b]?) : RdK ok' w' k (R ok' w') l v :=
  h.keep (fun x _ u hu => hR hu hk) hk

theorem cells_new {w : World} {cs : List Value} {e : TypeId} : ∀ j u, cs[j]? = some u → (w.alloc (.cells cs.toArray e)).cell? ((⟨w.heap.size, 0, none⟩ : Addr).add j) = some u := fun j u hu => by
  rw [add_plain, Nat.zero_add]
  exact (Bn.new w cs e _ rfl j u hu).1
theorem src_row {P : Program} {t e : TypeId} (ht : P.underlying t = some (.slice e)) (w : World) {k : Nat} (cs : List Value) (hk : cs.length = k) (h1 : ∀ u ∈ cs, u.oneCell' = true) : Src P k t (.slice (some ⟨w.heap.size, 0, none⟩) 1 1) 1 cs (w.alloc (.cells cs.toArray e)) :=
  Src.ofSlice _ ht _ 1 1 _ (by rw [Nat.one_mul]; exact hk) cells_new h1
/-- Nothing but two blocks has turned, and new blocks. -/
structure Fy (X Y : Nat) (w w' : World) : Prop where
  os : w'.os = w.os
  tape : w'.tape = w.tape
  output : w'.output = w.output
  size : w.heap.size ≤ w'.heap.size
  block : ∀ k, k < w.heap.size → k ≠ X → k ≠ Y → w'.heap[k]? = w.heap[k]?
theorem Fy.of {X Y : Nat} {a b : World} (h : Fx X a b) : Fy X Y a b := ⟨h.os, h.tape, h.output, h.size, fun k hk h1 _ => h.block k hk (fun e => h1 (Option.some.inj e))⟩
theorem Fy.trans {X Y : Nat} {a b c : World} (h : Fy X Y a b) (k : Fy X Y b c) : Fy X Y a c :=
  ⟨k.os.trans h.os, k.tape.trans h.tape, k.output.trans h.output, Nat.le_trans h.size k.size, fun j hj h1 h2 => (k.block j (Nat.lt_of_lt_of_le hj h.size) h1 h2).trans (h.block j hj h1 h2)⟩

/-- As OwnK; nothing of it lies in a block that is bad. -/
def OwnB {α : Type} (w : World) (base : Nat) (bad : Nat → Prop) (e k : Nat) (R : (Nat → Prop) → World → α → List Value → Prop) (v : Value) (l : List α) : Prop :=
  ∃ qs : List (List Value), w.ownsRow base e k v l.length qs.flatten ∧ qs.length = l.length ∧ (∀ (i : Nat) (h : i < l.length) (h' : i < qs.length), (qs[i]).length = k ∧ R (fun b => base ≤ b ∧ v.ownBlock ≠ some b ∧ ¬ bad b) w l[i] qs[i]) ∧ ∀ g, v.ownBlock = some g → ¬ bad g
theorem OwnB.keep {α : Type} {w w' : World} {base e k : Nat} {bad bad' : Nat → Prop} {R : (Nat → Prop) → World → α → List Value → Prop} {v : Value} {l : List α} (hR : Kp R) (h : OwnB w base bad e k R v l) (hk : ∀ b, base ≤ b → ¬ bad b → b < w.heap.size → w'.heap[b]? = w.heap[b]? ∧ ¬ bad' b) : OwnB w' base bad' e k R v l := by
  obtain ⟨qs, ho, hl, hr, hg0⟩ := h
  refine ⟨qs, ownsRow_keep ho (fun g hg => ?_), hl, fun i h h' => ⟨(hr i h h').1, hR (hr i h h').2 (fun b hb hlt => ⟨⟨hb.1, hb.2.1, (hk b hb.1 hb.2.2 hlt).2⟩, (hk b hb.1 hb.2.2 hlt).1⟩)⟩, fun g hg => ?_⟩
  · obtain ⟨a, b⟩ := ownsRow_lt ho g hg
    exact (hk g a (hg0 g hg) b).1
  · obtain ⟨a, b⟩ := ownsRow_lt ho g hg
    exact (hk g a (hg0 g hg) b).2
theorem OwnB.on {α : Type} {w w' : World} {base e k : Nat} {bad : Nat → Prop} {R : (Nat → Prop) → World → α → List Value → Prop} {v : Value} {l : List α} (hR : Kp R) (h : OwnB w base bad e k R v l) (hb : Below w.heap.size w w') : OwnB w' base bad e k R v l := h.keep hR (fun b _ hbad hlt => ⟨hb.block b hlt, hbad⟩)
theorem OwnB.fx {α : Type} {w w' : World} {base e k X : Nat} {bad : Nat → Prop} {R : (Nat → Prop) → World → α → List Value → Prop} {v : Value} {l : List α} (hR : Kp R) (h : OwnB w base bad e k R v l) (hf : Fx X w w') (hX : X < base) : OwnB w' base bad e k R v l :=
  h.keep hR (fun b hb hbad hlt => ⟨hf.block b hlt (fun e => by have : b = X := Option.some.inj e; omega), hbad⟩)
theorem OwnB.set {α : Type} {w : World} {base e k : Nat} {bad : Nat → Prop} {R : (Nat → Prop) → World → α → List Value → Prop} {v : Value} {l : List α} (hR : Kp R) (h : OwnB w base bad e k R v l) {X i : Nat} (hX : X < base) (u : Value) : OwnB (w.setCell ⟨X, i, none⟩ u) base bad e k R v l :=
  h.keep hR (fun b hb hbad _ => ⟨Below.heap_setCell _ _ _ _ (fun e => by have : b = X := e; omega), hbad⟩)
theorem OwnB.form {α : Type} {w : World} {base e k : Nat} {bad : Nat → Prop} {R : (Nat → Prop) → World → α → List Value → Prop} {v : Value} {l : List α} (h : OwnB w base bad e k R v l) : ∃ a cap, v = .slice a l.length cap ∧ l.length ≤ cap ∧ cap ≤ maxLen := by
  obtain ⟨qs, ho, _⟩ := h
  rcases ho.2 with ⟨h1, h2⟩ | ⟨g, cap, cur, h1, _, _, h3, h4, _⟩
  · exact ⟨none, 0, by rw [h1, h2], by omega, by simp [maxLen]⟩
  · exact ⟨_, _, h1, h3, h4⟩
theorem OwnB.lt {α : Type} {w : World} {base e k : Nat} {bad : Nat → Prop} {R : (Nat → Prop) → World → α → List Value → Prop} {v : Value} {l : List α} (h : OwnB w base bad e k R v l) : ∀ g, v.ownBlock = some g → base ≤ g ∧ g < w.heap.size := by
  obtain ⟨qs, ho, _⟩ := h
  exact ownsRow_lt ho
/-- The other row has grown. -/
theorem OwnB.other {α : Type} {w w' : World} {base e k : Nat} {u u' : Value} {R : (Nat → Prop) → World → α → List Value → Prop} {v : Value} {l : List α} (hR : Kp R) (h : OwnB w base (fun b => u.ownBlock = some b) e k R v l) (hg : w.grownBy w' u.ownBlock) (hat : u'.ownBlock = u.ownBlock ∨ u'.ownBlock = some w.heap.size) : OwnB w' base (fun b => u'.ownBlock = some b) e k R v l :=
  h.keep hR (fun b hb hbad hlt => ⟨hg.block b hlt (fun e => hbad e.symm), fun q => by
    rcases hat with h | h
    · exact hbad (h ▸ q)
    · rw [h] at q; have : w.heap.size = b := Option.some.inj q; omega⟩)
theorem OwnB.snoc {α : Type} {w w' : World} {base e k lo n : Nat} {bad : Nat → Prop} {R : (Nat → Prop) → World → α → List Value → Prop} {v v' : Value} {l : List α} {p : α} {cs : List Value} {qs : List (List Value)} (hR : Kp R) (hk : cs.length = k)
    (hn : l.length = n) (ho : w.ownsRow base e k v n qs.flatten) (hl : qs.length = l.length) (hr : ∀ (i : Nat) (h : i < l.length) (h' : i < qs.length), (qs[i]).length = k ∧ R (fun b => base ≤ b ∧ v.ownBlock ≠ some b ∧ ¬ bad b) w l[i] qs[i])
    (ho' : w'.ownsRow base e k v' (n + 1) (qs.flatten ++ cs)) (hg : w.grownBy w' v.ownBlock) (hat : v'.ownBlock = v.ownBlock ∨ v'.ownBlock = some w.heap.size)
    (hp : R (fun b => lo ≤ b) w p cs) (hlo : base ≤ lo) (hv : ∀ x, v.ownBlock = some x → x < lo) (hbad : ∀ b, bad b → b < lo ∧ b < w.heap.size) (hvb : ∀ g, v.ownBlock = some g → ¬ bad g) : OwnB w' base bad e k R v' (l ++ [p]) := by
  subst hn
  have key : ∀ b, base ≤ b ∧ v.ownBlock ≠ some b ∧ ¬ bad b → b < w.heap.size → (base ≤ b ∧ v'.ownBlock ≠ some b ∧ ¬ bad b) ∧ w'.heap[b]? = w.heap[b]? := fun b hb hlt => by
    refine ⟨⟨hb.1, fun e => ?_, hb.2.2⟩, hg.block b hlt (fun e => hb.2.1 e.symm)⟩
    rcases hat with h | h
    · exact hb.2.1 (h ▸ e)
    · rw [h] at e; have : w.heap.size = b := Option.some.inj e; omega
  refine ⟨qs ++ [cs], ?_, by simp [hl], fun i h h' => ?_, fun g hg' => ?_⟩
  · rw [List.flatten_append, List.length_append]
    simpa using ho'
  · rcases Nat.lt_or_ge i l.length with hi | hi
    · rw [List.getElem_append_left hi, List.getElem_append_left (by omega)]
      exact ⟨(hr i hi (by omega)).1, hR (hr i hi (by omega)).2 key⟩
    · have : i = l.length := by simp at h; omega
      subst this
      have e1 : (l ++ [p])[l.length] = p := by simp
      have e2 : (qs ++ [cs])[l.length]'h' = cs := by simp [← hl]
      rw [e1, e2]
      exact ⟨hk, hR hp (fun b hb hlt => key b ⟨by omega, fun e => by have := hv b e; omega, fun q => by have := (hbad b q).1; omega⟩ hlt)⟩
  · rcases hat with h | h
    · exact hvb g (h ▸ hg')
    · rw [h] at hg'
      have : w.heap.size = g := Option.some.inj hg'
      intro q
      have := (hbad g q).2
      omega
theorem OwnB.rd {α : Type} {w : World} {base e k : Nat} {bad : Nat → Prop} {R : (Nat → Prop) → World → α → List Value → Prop} {v : Value} {l : List α} (hR : Kp R) (h : OwnB w base bad e k R v l) : RdK (fun b => base ≤ b) w k (R (fun b => base ≤ b) w) l v := by
  obtain ⟨qs, ho, hl, hr, _⟩ := h
  exact OwnK.rd hR ⟨qs, ho, hl, fun i h h' => ⟨(hr i h h').1, hR (hr i h h').2 (fun b hb _ => ⟨⟨hb.1, hb.2.1⟩, rfl⟩)⟩⟩
/-- Cells written one behind the other. -/
def putL (w : World) (g : Nat) : Nat → List Value → World
  | _, [] => w
  | o, c :: cs => putL (w.setCell ⟨g, o, none⟩ c) g (o + 1) cs
theorem putL_own : ∀ (cs zs xs ys : List Value) (w : World) (base e k : Nat) (g n cap o : Nat), zs.length = cs.length → xs.length = o → w.ownsRow base e k (.slice (some ⟨g, 0, none⟩) n cap) n (xs ++ zs ++ ys) → (putL w g o cs).ownsRow base e k (.slice (some ⟨g, 0, none⟩) n cap) n (xs ++ cs ++ ys)
  | [], zs, xs, ys, w, base, e, k, g, n, cap, o, hz, hx, h => by
    have : zs = [] := List.eq_nil_of_length_eq_zero (by simpa using hz)
    subst this
    exact h
  | c :: cs, [], xs, ys, w, base, e, k, g, n, cap, o, hz, hx, h => by simp at hz
  | c :: cs, z :: zs, xs, ys, w, base, e, k, g, n, cap, o, hz, hx, h => by
    have h1 := (World.ownsRow.stored h o c).1
    have e1 : (xs ++ z :: zs ++ ys).set o c = (xs ++ [c]) ++ zs ++ ys := by
      subst hx
      simp
    rw [e1] at h1
    have h2 := putL_own cs zs (xs ++ [c]) ys _ base e k g n cap (o + 1) (by simpa using hz) (by simp [hx]) h1
    have e2 : xs ++ [c] ++ cs ++ ys = xs ++ (c :: cs) ++ ys := by simp
    rw [e2] at h2
    exact h2
theorem putL_heap : ∀ (cs : List Value) (w : World) (g o k : Nat), k ≠ g → (putL w g o cs).heap[k]? = w.heap[k]?
  | [], w, g, o, k, h => rfl
  | c :: cs, w, g, o, k, h => by
    unfold putL
    rw [putL_heap cs _ g (o + 1) k h]
    exact Below.heap_setCell _ _ _ _ (fun e => h e)

abbrev In2 := ByteArray × Int
def trI (b : Bool) : Int := if b then 1 else 0
/-- A number laid on the stack (its first is its top): the error, the stack. -/
def psh (n : Int) (st : List Int) : Int × List Int := if n < -1000000000 ∨ 1000000000 < n then (3, st) else (0, n :: st)
/-- What an operator makes of two. -/
def wkI (s : List UInt8) (x y : Int) : Int :=
  if s = [43] then x + y else if s = [45] then x - y else if s = [42] then x * y else if s = [60] then trI (decide (x < y)) else if s = [60, 61] then trI (decide (x ≤ y))
  else if s = [61, 61] then trI (x == y) else trI (x != y)
def oneI (s : List UInt8) (x : Int) : Int := if s = [110, 101, 103] then -x else if s = [110, 111, 116] then trI (x == 0) else trI (x != 0)
def lodI (vs : List Int) (n : Int) (st : List Int) : Int × List Int := if n < 0 ∨ n ≥ (vs.length : Int) then (2, st) else psh (vs.getD n.toNat 0) st
def litI (n : Int) (st : List Int) : Int × List Int := if n < 0 then (3, st) else psh n st
def on1 (s : List UInt8) : List Int → Int × List Int
  | [] => (2, [])
  | x :: r => psh (oneI s x) r
def on2 (s : List UInt8) : List Int → Int × List Int
  | [] => (2, [])
  | [_] => (2, [])
  | y :: x :: r => psh (wkI s x y) r
/-- A jump: how many are passed over, the error, the stack. -/
def jmpS (o : Bool) (n : Int) (beh : Nat) (st : List Int) : Nat × Int × List Int :=
  if n < 0 ∨ n > (beh : Int) then (0, 2, st) else match st with
    | [] => (0, 2, [])
    | x :: r => if (x != 0) = o then (n.toNat, 0, trI o :: r) else (0, 0, r)
def isOne (s : List UInt8) : Bool := s == [110, 111, 116] || s == [110, 101, 103] || s == [98, 111, 111, 108]
def isTwo (s : List UInt8) : Bool := s == [43] || s == [45] || s == [42] || s == [60] || s == [60, 61] || s == [61, 61] || s == [33, 61]
/-- An instruction: how many are passed over, the error, the stack. -/
def stpI (vs : List Int) (s : List UInt8) (n : Int) (beh : Nat) (st : List Int) : Nat × Int × List Int :=
  if s = [112, 117, 115, 104] then (0, litI n st) else if s = [108, 111, 97, 100] then (0, lodI vs n st) else if isOne s then (0, on1 s st) else if isTwo s then (0, on2 s st)
  else if s = [97, 110, 100] then jmpS false n beh st else if s = [111, 114] then jmpS true n beh st else (0, 2, st)
/-- All numbers of a stack are in range. -/
def InR (st : List Int) : Prop := ∀ x ∈ st, -1000000000 ≤ x ∧ x ≤ 1000000000
theorem psh_in {n : Int} {st : List Int} (h : InR st) : InR (psh n st).2 := by
  unfold psh
  split
  · exact h
  · intro x hx
    rcases List.mem_cons.1 hx with rfl | hx
    · omega
    · exact h x hx
theorem psh_len (n : Int) (st : List Int) : (psh n st).2.length ≤ st.length + 1 := by
  unfold psh
  split <;> simp
theorem InR.tail {x : Int} {st : List Int} (h : InR (x :: st)) : InR st := fun y hy => h y (List.mem_cons_of_mem _ hy)
/-- The machine in block X: its variables, its stack, which lies behind it. -/
structure Mc (w : World) (X : Nat) (vv sv : Value) (st : List Int) : Prop where
  b : Bn w X [vv, sv]
  s : w.ownsRow (X + 1) 2 1 sv st.length (st.reverse.map (Value.int .i64))
theorem i64_info : (Try.prog.info? 2).map (fun i => (i.zero, i.size, i.bytes)) = some (some (.int .i64 0), 1, 8) := by kernel_rfl
theorem i64_inf : ∃ i, Try.prog.info? 2 = some i ∧ i.zero = some (.int .i64 0) ∧ i.size = 1 ∧ i.bytes = 8 := by
  have h := i64_info
  cases hq : Try.prog.info? 2 with
  | none => rw [hq] at h; cases h
  | some i =>
    rw [hq] at h
    simp only [Option.map_some, Option.some.injEq, Prod.mk.injEq] at h
    exact ⟨i, rfl, h.1, h.2.1, h.2.2⟩
theorem src_int (w : World) (n : Int) (k : Nat) (hk : k = w.heap.size) : Src Try.prog 1 28 (.slice (some ⟨k, 0, none⟩) 1 1) 1 [.int .i64 n] (w.alloc (.cells #[.int .i64 n] 2)) := by
  subst hk
  exact src_row Try.underlying28 w [.int .i64 n] rfl (by simp [Value.oneCell'])
theorem orow_form {w : World} {base e n : Nat} {v : Value} {xs : List Value} (h : w.ownsRow base e 1 v n xs) : ∃ a cap, v = .slice a n cap ∧ n ≤ cap ∧ cap ≤ maxLen := by
  rcases h.2 with ⟨h1, h2⟩ | ⟨g, cap, cur, h1, _, _, h3, h4, _⟩
  · exact ⟨none, 0, by rw [h1, h2], by omega, by simp [maxLen]⟩
  · exact ⟨_, _, h1, h3, h4⟩
end Go.Proofs.Ytpdkmbifibkepaa

/- The program's machine: what is small, push and pop. -/
namespace Go.Proofs.Ytpdkmbifibkepaa
open Go.RowKit Go.Lib
set_option linter.unusedSimpArgs false
set_option linter.unusedVariables false
attribute [local go_sem ↓] Go.wp_at_zero Go.wp_at_succ

theorem itruth_any (b : Bool) (w : World) : Calls Try.prog 44 #[.bool b] w fun e w' => e = .returned (.int .i64 (trI b)) ∧ w = w' := by
  cases b
  · go_enter Try.func44, Try.ntmps44
    go_wp2
    go_ret
    exact ⟨rfl, rfl⟩
  · go_enter Try.func44, Try.ntmps44
    go_wp2
    go_ret
    exact ⟨rfl, rfl⟩
theorem iout_any (n : Int) (w : World) : Calls Try.prog 60 #[.int .i64 n] w fun e w' => e = .returned (.bool (decide (n < -1000000000 ∨ 1000000000 < n))) ∧ w = w' := by
  by_cases h1 : n < -1000000000
  · have e1 : decide (n < -1000000000 ∨ 1000000000 < n) = true := decide_eq_true (.inl h1)
    rw [e1]
    go_enter Try.func60, Try.ntmps60
    go_wp2
    go_ret
    exact ⟨rfl, rfl⟩
  by_cases h2 : 1000000000 < n
  · have e1 : decide (n < -1000000000 ∨ 1000000000 < n) = true := decide_eq_true (.inr h2)
    rw [e1]
    have h3 : n > 1000000000 := h2
    go_enter Try.func60, Try.ntmps60
    go_wp2
    go_ret
    exact ⟨rfl, rfl⟩
  have e1 : decide (n < -1000000000 ∨ 1000000000 < n) = false := decide_eq_false (by omega)
  rw [e1]
  have h3 : ¬ n > 1000000000 := h2
  go_enter Try.func60, Try.ntmps60
  go_wp2
  go_ret
  exact ⟨rfl, rfl⟩
set_option maxHeartbeats 1000000 in
theorem ipush_any {w : World} {X : Nat} {vv sv : Value} {st : List Int} (h : Mc w X vv sv st) (n : Int) (hl : st.length ≤ 4000) :
    Calls Try.prog 42 #[.pointer (some ⟨X, 0, none⟩), .int .i64 n] w fun e w' => e = .returned (.int .i64 (psh n st).1) ∧ (∃ sv', Mc w' X vv sv' (psh n st).2) ∧ Below X w w' := by
  have ho := fun w1 => iout_any n w1
  unfold psh
  by_cases hn : n < -1000000000 ∨ 1000000000 < n
  · rw [if_pos hn]
    rw [decide_eq_true hn] at ho
    go_enter Try.func42, Try.ntmps42
    go_wp2_with (first
      | (go_at_call 60; refine (ho _).mono ?_; rintro e w1 ⟨rfl, rfl⟩)
      | fail)
    go_ret
    exact ⟨rfl, ⟨_, h⟩, Below.refl _ _⟩
  · rw [if_neg hn]
    rw [decide_eq_false hn] at ho
    obtain ⟨c1, f1⟩ := h.b 1 _ rfl
    obtain ⟨a0, cap0, rfl, hlc, hcm⟩ := orow_form h.s
    have hal : Below w.heap.size w (w.alloc (.cells #[.int .i64 n] 2)) := (Below.refl _ _).alloc (Nat.le_refl _) _
    have hXl := h.b.lt
    have hown := World.ownsRow.alloc h.s (.cells #[.int .i64 n] 2)
    have hB1 := h.b.on hal
    obtain ⟨i0, hi, hz0, hz1, hz2⟩ := i64_inf
    have hsrc := src_int w n _ rfl
    unfold maxLen at hcm
    go_enter Try.func42, Try.ntmps42
    go_wp2_with (first
      | (go_at_call 60; refine (ho _).mono ?_; rintro e w1 ⟨rfl, rfl⟩)
      | (at_builtin; refine wpList_append_at _ rfl _ _ 28 28 rfl (X + 1) 2 i0 (.int .i64 0) 1 8 Try.underlying28 hi hz0 hz1 hz2 rfl (.slice a0 st.length cap0) st.length _ rfl hown _ _ _ rfl hsrc 1 (.inr (by omega)) (Nat.le_refl _) (by unfold maxLen; omega) (by simp; omega) ?_; intro vb wb hOb hgb hat; obtain ⟨a2, cap2, rfl, hlc2, hcm2⟩ := orow_form hOb; have hbb : Below (X + 1) (w.alloc (.cells #[.int .i64 n] 2)) wb := (Below.refl _ _).grown hgb (by simp; omega) (fun k hk => (World.ownsRow.lt h.s k hk).1); have hB2 := hB1.blk (hbb.block X (Nat.lt_succ_self X)); obtain ⟨d1, g1⟩ := hB2 1 _ rfl)
      | fail)
    go_ret
    refine ⟨rfl, ⟨_, hB2.set (i := 1) (by simp) _, ?_⟩, ?_⟩
    · rw [List.length_cons, List.reverse_cons, List.map_append, List.map_singleton]
      exact ownsRow_setCell_below hOb (Nat.lt_succ_self X) _
    · exact ((hal.mono (Nat.le_of_lt hXl)).trans (hbb.mono (Nat.le_succ X))).setCell (Nat.le_refl _) _
theorem own_top {w : World} {base e : Nat} {v : Value} {x : Int} {st : List Int} (h : w.ownsRow base e 1 v (x :: st).length ((x :: st).reverse.map (Value.int .i64))) : ∃ g cap, v = .slice (some ⟨g, 0, none⟩) (st.length + 1) cap ∧ st.length + 1 ≤ cap ∧ cap ≤ maxLen ∧ base ≤ g ∧ g < w.heap.size ∧
    w.cell? ⟨g, st.length, none⟩ = some (.int .i64 x) ∧ w.ownsRow base e 1 (.slice (some ⟨g, 0, none⟩) st.length cap) st.length (st.reverse.map (Value.int .i64)) := by
  rw [List.length_cons, List.reverse_cons, List.map_append, List.map_singleton] at h
  have hl : (st.reverse.map (Value.int .i64)).length = st.length := by simp
  have hc := fun g => World.ownsRow.cells h (g := g)
  rcases h.2 with ⟨_, h2⟩ | ⟨g, cap, cur, rfl, hb, hg, hnc, hcm, hcs, htake⟩
  · omega
  · have c0 := hc g rfl st.length (.int .i64 x) (by rw [List.getElem?_append_right (by omega), hl, Nat.sub_self]; rfl)
    rw [show (⟨g, 0, none⟩ : Addr).add st.length = ⟨g, st.length, none⟩ by unfold Addr.add; split <;> simp_all] at c0
    refine ⟨g, cap, rfl, hnc, hcm, hb, (Array.getElem?_eq_some_iff.1 hg).1, c0, by simp, .inr ⟨g, cap, cur, rfl, hb, hg, by omega, hcm, hcs, ?_⟩⟩
    have h3 := congrArg (List.take st.length) htake
    rw [List.take_take] at h3
    simp only [Nat.mul_one] at h3 ⊢
    rw [Nat.min_eq_left (by omega), List.take_left' hl] at h3
    exact h3
theorem ipop_nil {w : World} {X : Nat} {vv sv : Value} (h : Mc w X vv sv []) :
    Calls Try.prog 43 #[.pointer (some ⟨X, 0, none⟩)] w fun e w' => e = .returned (.tuple #[.int .i64 0, .int .i64 2]) ∧ w = w' := by
  obtain ⟨c1, f1⟩ := h.b 1 _ rfl
  obtain ⟨a0, cap0, rfl, hlc, hcm⟩ := orow_form h.s
  clear h
  go_enter Try.func43, Try.ntmps43
  go_wp2
  go_ret2
  exact ⟨rfl, rfl⟩
set_option maxHeartbeats 1000000 in
theorem ipop_cons {w : World} {X : Nat} {vv sv : Value} {x : Int} {st : List Int} (h : Mc w X vv sv (x :: st)) (hl : st.length ≤ 4000) :
    Calls Try.prog 43 #[.pointer (some ⟨X, 0, none⟩)] w fun e w' => e = .returned (.tuple #[.int .i64 x, .int .i64 0]) ∧ (∃ sv', Mc w' X vv sv' st) ∧ Below X w w' := by
  obtain ⟨c1, f1⟩ := h.b 1 _ rfl
  obtain ⟨g, cap, rfl, h1, h2, h3, h4, c2, ho⟩ := own_top h.s
  have hXl := h.b.lt
  unfold maxLen at h2
  have j1 : ¬ (st.length : Int) < 0 := by omega
  have j2 : (0 : Int) ≤ (st.length : Int) := by omega
  have j3 : (st.length : Int) < (st.length : Int) + 1 := by omega
  have j4 : (st.length : Int) ≤ (cap : Int) := by omega
  have j5 : IntKind.i64.wrap ((st.length : Int) + 1 - 1) = (st.length : Int) := by rw [IntKind.wrap_i64]; omega
  go_enter Try.func43, Try.ntmps43
  go_wp2
  go_ret2
  exact ⟨rfl, ⟨_, h.b.set (i := 1) (by simp) _, ownsRow_setCell_below ho (Nat.lt_succ_self X) _⟩, (Below.refl X w).setCell (show X ≤ X from Nat.le_refl X) _⟩

theorem imul_bd {x y : Int} (h1 : -1000000000 ≤ x ∧ x ≤ 1000000000) (h2 : -1000000000 ≤ y ∧ y ≤ 1000000000) : -1000000000000000000 ≤ x * y ∧ x * y ≤ 1000000000000000000 := by
  have a1 : (x * y).natAbs = x.natAbs * y.natAbs := Int.natAbs_mul x y
  have a2 : x.natAbs * y.natAbs ≤ 1000000000 * 1000000000 := Nat.mul_le_mul (by omega) (by omega)
  omega
theorem istr (s : ByteArray) (x : List UInt8) : (s.toList == x) = (s.data.toList == x) := by rw [ByteArray.toList_eq]
theorem iliteral_any {w : World} {X : Nat} {vv sv : Value} {st : List Int} (h : Mc w X vv sv st) (n : Int) (hl : st.length ≤ 4000) :
    Calls Try.prog 30 #[.pointer (some ⟨X, 0, none⟩), .int .i64 n] w fun e w' => e = .returned (.int .i64 (litI n st).1) ∧ (∃ sv', Mc w' X vv sv' (litI n st).2) ∧ Below X w w' := by
  have hp := ipush_any h n hl
  unfold litI
  by_cases hn : n < 0
  · rw [if_pos hn]
    clear hp
    go_enter Try.func30, Try.ntmps30
    go_wp2
    go_ret
    exact ⟨rfl, ⟨_, h⟩, Below.refl _ _⟩
  · rw [if_neg hn]
    go_enter Try.func30, Try.ntmps30
    go_wp2_with (first
      | (go_at_call 42; refine hp.mono ?_; rintro e w1 ⟨rfl, hm, b1⟩)
      | fail)
    go_ret
    exact ⟨rfl, hm, b1⟩
theorem getD_at {vs : List Int} {n : Int} (h1 : ¬ n < 0) (h2 : ¬ n ≥ (vs.length : Int)) : ∃ h : n.toNat < vs.length, vs.getD n.toNat 0 = vs[n.toNat] := by
  have h : n.toNat < vs.length := by omega
  exact ⟨h, by simp [List.getD, h]⟩
theorem iload_any {w : World} {X : Nat} {sv : Value} {st vs : List Int} {va : Option Addr} {vn vc : Nat} {ok : Nat → Prop} (h : Mc w X (.slice va vn vc) sv st) (hv : RdK ok w 1 (fun x cs => cs = [Value.int .i64 x]) vs (.slice va vn vc)) (n : Int) (hl : st.length ≤ 4000) :
    Calls Try.prog 31 #[.pointer (some ⟨X, 0, none⟩), .int .i64 n] w fun e w' => e = .returned (.int .i64 (lodI vs n st).1) ∧ (∃ sv', Mc w' X (.slice va vn vc) sv' (lodI vs n st).2) ∧ Below X w w' := by
  obtain ⟨a1, cap1, he, h1, h2, h3⟩ := hv
  simp only [Value.slice.injEq] at he
  obtain ⟨rfl, rfl, rfl⟩ := he
  obtain ⟨c0, f0⟩ := h.b 0 _ rfl
  have hp := fun n => ipush_any h n hl
  unfold maxLen at h2
  have hw1 : IntKind.i64.wrap (vs.length : Int) = (vs.length : Int) := by rw [IntKind.wrap_i64]; omega
  unfold lodI
  by_cases hn : n < 0
  · rw [if_pos (.inl hn)]
    clear hp h3
    go_enter Try.func31, Try.ntmps31
    go_wp2
    go_ret
    exact ⟨rfl, ⟨_, h⟩, Below.refl _ _⟩
  by_cases hm : n ≥ (vs.length : Int)
  · rw [if_pos (.inr hm)]
    clear hp h3
    go_enter Try.func31, Try.ntmps31
    go_wp2
    go_ret
    exact ⟨rfl, ⟨_, h⟩, Below.refl _ _⟩
  rw [if_neg (by omega)]
  obtain ⟨hlt, hg⟩ := getD_at hn hm
  rw [hg]
  obtain ⟨b, off, cs, rfl, _, hb, _, rfl, hc⟩ := h3 n.toNat hlt
  obtain ⟨k, hk⟩ : ∃ k : Nat, n.toNat = k := ⟨_, rfl⟩
  have hnk : n = (k : Int) := by omega
  have hp' := hp (vs[n.toNat])
  generalize vs[n.toNat] = x at *
  rw [hk] at hc
  subst hnk
  have C0 : w.cell? ⟨b, off + k, none⟩ = some (.int .i64 x) := by have := hc 0 _ rfl; rwa [Nat.mul_one, Nat.add_zero] at this
  have j1 : (0 : Int) ≤ (k : Int) := by omega
  have j2 : (k : Int) < (vs.length : Int) := by omega
  clear hc hk hp hg h3
  go_enter Try.func31, Try.ntmps31
  go_wp2_with (first
    | (go_at_call 42; refine hp'.mono ?_; rintro e w1 ⟨rfl, hmm, b1⟩)
    | fail)
  go_ret
  exact ⟨rfl, hmm, b1⟩
end Go.Proofs.Ytpdkmbifibkepaa
