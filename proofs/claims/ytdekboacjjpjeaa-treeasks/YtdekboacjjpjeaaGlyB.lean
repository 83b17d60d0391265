
/- What the walks share: a text's bytes, names, numbers, signs, places, words in memory. -/
import Derived.Test.YtdekboacjjpjeaaGlyA
import Derived.Test.YtdekboacjjpjeaaStp
namespace Go.Proofs.Ytdekboacjjpjeaa
open Go.RowKit Go.Lib
set_option linter.unusedSimpArgs false
set_option linter.unusedVariables false

/-- A text's bytes. -/
abbrev bl (s : ByteArray) : List UInt8 := s.data.toList

theorem bl_length (s : ByteArray) : (bl s).length = s.size := rfl

theorem letter_eq (r : Int) : letter r = (decide (97 ≤ r) && decide (r ≤ 122) || decide (65 ≤ r) && decide (r ≤ 90) || decide (1072 ≤ r) && decide (r ≤ 1103)) := by
  unfold letter
  rw [Bool.eq_iff_iff]
  simp
  omega

theorem dgt_eq (r : Int) : dgt r = (decide (48 ≤ r) && decide (r ≤ 57)) := by
  unfold dgt
  rw [Bool.eq_iff_iff]
  simp

theorem ret_bool {a b : Bool} (h : a = b) : Ending.returned (.bool a) = .returned (.bool b) := by rw [h]

abbrev tup2 (a : Int) (b : Nat) : Value := .tuple #[.int .i32 a, .int .i64 (b : Int)]

/-- m runes that may stand in a name, of k bytes, lie behind us. -/
structure Adv (l : List UInt8) (m k : Nat) : Prop where
  le : k ≤ l.length
  left : runes (l.drop k) = (runes l).drop m
  cnt : spn (runes l) = m + spn (runes (l.drop k))
  size : (byt ((runes l).take m)).length = k
  few : m ≤ k

theorem Adv.zero (l : List UInt8) : Adv l 0 0 := ⟨by omega, rfl, by simp, rfl, by omega⟩

theorem drop_ne {l : List UInt8} {k : Nat} (h : k < l.length) : l.drop k ≠ [] := by
  intro e
  have := congrArg List.length e
  rw [List.length_drop] at this
  simp at this
  omega

theorem byt_split (rs : List Ru) (m : Nat) : (byt rs).length = (byt (rs.take m)).length + (byt (rs.drop m)).length := by
  rw [← List.length_append, ← byt_append, List.take_append_drop]

theorem Adv.step {l : List UInt8} {m k : Nat} (h : Adv l m k) (hk : k < l.length) (hi : insd (nx (l.drop k)).1 = true) : Adv l (m + 1) (k + (nx (l.drop k)).2) := by
  have hne := drop_ne hk
  have hc := runes_cons hne
  have hle := nx_le hne
  have hps := nx_pos hne
  rw [List.length_drop] at hle
  have hd : (runes l).drop m = ((nx (l.drop k)).1, (l.drop k).take (nx (l.drop k)).2) :: runes ((l.drop k).drop (nx (l.drop k)).2) := by rw [← h.left, hc]
  have hd1 : (runes l).drop (m + 1) = runes (l.drop (k + (nx (l.drop k)).2)) := by
    have := congrArg List.tail hd
    rw [List.tail_drop, List.tail_cons, List.drop_drop] at this
    exact this
  refine ⟨by omega, hd1.symm, ?_, ?_, by have := h.few; omega⟩
  · rw [h.cnt, hc, List.drop_drop]
    show m + (if insd (nx (l.drop k)).1 = true then spn _ + 1 else 0) = _
    rw [if_pos hi]
    omega
  · have e1 := byt_split (runes l) (m + 1)
    rw [hd1, byt_runes _ _ (Nat.le_refl _), byt_runes _ _ (Nat.le_refl _), List.length_drop] at e1
    omega

theorem Adv.stop {l : List UInt8} {m k : Nat} (h : Adv l m k) (hs : l.length ≤ k ∨ insd (nx (l.drop k)).1 = false) : spn (runes l) = m := by
  rw [h.cnt]
  rcases hs with hs | hs
  · rw [List.drop_eq_nil_of_le hs]; rfl
  · by_cases hk : l.length ≤ k
    · rw [List.drop_eq_nil_of_le hk]; rfl
    · rw [runes_cons (drop_ne (by omega))]
      show m + (if insd (nx (l.drop k)).1 = true then _ else 0) = m
      rw [if_neg (by rw [hs]; decide)]
      omega

/-- How many bytes the runes have that may stand in a name, ahead. -/
def spb (l : List UInt8) : Nat := (byt ((runes l).take (spn (runes l)))).length

theorem bl_from (s : ByteArray) (k : Nat) : bl (s.extract k s.size) = (bl s).drop k := by
  show (s.extract k s.size).data.toList = _
  rw [Lib.extract_data, List.take_of_length_le]
  rw [List.length_drop]
  exact Nat.le_refl _

/-- Is a text a name? -/
def nameS (l : List UInt8) : Bool := letter (nx l).1 && ((spb l : Int) == (l.length : Int)) && decide (spn (runes l) ≤ 24)

theorem head_small (c : UInt8) (r : List UInt8) : ∃ t, runes (c :: r) = ((nx (c :: r)).1, (c :: r).take (nx (c :: r)).2) :: t ∧ (c.toNat < 128 → t = runes r ∧ (nx (c :: r)).1 = (c.toNat : Int)) ∧ (¬ c.toNat < 128 → (nx (c :: r)).1 = -1 ∨ 128 ≤ (nx (c :: r)).1) := by
  refine ⟨_, runes_cons (by simp), fun h => ?_, fun h => nx_big h r⟩
  rw [nx_ascii h]
  exact ⟨rfl, rfl⟩

theorem one_big {a : Int} (h : a = -1 ∨ 128 ≤ a) : one a = 0 := by unfold one; rw [if_neg (by omega)]

theorem pair_big1 {a b : Int} (h : a = -1 ∨ 128 ≤ a) : pair a b = false := decide_eq_false (by omega)

theorem pair_big2 {a b : Int} (h : b = -1 ∨ 128 ≤ b) : pair a b = false := decide_eq_false (by omega)

theorem sgn_head (v : Ru) (t : List Ru) (h : v.1 = -1 ∨ 128 ≤ v.1) : sgn (v :: t) = 0 := by
  match t with
  | [] => exact one_big h
  | u :: t =>
    show (if pair v.1 u.1 = true then 2 else one v.1) = 0
    rw [pair_big1 h, one_big h]; rfl

theorem sgn_one (c : UInt8) : sgn (runes [c]) = one (c.toNat : Int) := by
  by_cases h : c.toNat < 128
  · rw [runes_ascii h]; rfl
  · obtain ⟨t, e, _, hb⟩ := head_small c []
    rw [e, sgn_head _ _ (hb h), one_big (.inr (by omega))]

theorem sgn_two (c d : UInt8) (r : List UInt8) : sgn (runes (c :: d :: r)) = if pair (c.toNat : Int) (d.toNat : Int) = true then 2 else one (c.toNat : Int) := by
  by_cases h : c.toNat < 128
  · rw [runes_ascii h]
    obtain ⟨t, e, hs, hb⟩ := head_small d r
    rw [e]
    show (if pair (c.toNat : Int) (nx (d :: r)).1 = true then 2 else one (c.toNat : Int)) = _
    by_cases hd : d.toNat < 128
    · rw [(hs hd).2]
    · rw [pair_big2 (hb hd), pair_big2 (b := (d.toNat : Int)) (.inr (by omega))]
  · obtain ⟨t, e, _, hb⟩ := head_small c (d :: r)
    rw [e, sgn_head _ _ (hb h), pair_big1 (a := (c.toNat : Int)) (.inr (by omega)), one_big (.inr (by omega))]
    rfl

theorem and_no {p q : Prop} [Decidable p] [Decidable q] (h : ¬ (p ∧ q)) : (decide p && decide q) = false := by
  rw [Bool.and_eq_false_iff]
  rcases Decidable.not_and_iff_or_not.1 h with h | h
  · exact .inl (decide_eq_false h)
  · exact .inr (decide_eq_false h)

theorem ret_i64 {a b : Int} (h : a = b) : Ending.returned (.int .i64 a) = .returned (.int .i64 b) := by rw [h]

theorem two_beq (s : ByteArray) (c d x y : UInt8) (r : List UInt8) (h : bl s = c :: d :: r) : ((s.extract 0 2).toList == [x, y]) = (decide (c = x) && decide (d = y)) := by
  have e : (s.extract 0 2).toList = [c, d] := by
    rw [ByteArray.toList_eq]
    show (s.extract 0 2).data.toList = _
    rw [Lib.extract_data, show s.data.toList = c :: d :: r from h]; rfl
  rw [e]
  rw [Bool.eq_iff_iff]
  simp

theorem one_yes {a : Int} (h : a = 123 ∨ a = 125 ∨ a = 40 ∨ a = 41 ∨ a = 61 ∨ a = 33 ∨ a = 60 ∨ a = 43 ∨ a = 45 ∨ a = 42) : one a = 1 := if_pos h

theorem one_no {a : Int} (h : ¬ (a = 123 ∨ a = 125 ∨ a = 40 ∨ a = 41 ∨ a = 61 ∨ a = 33 ∨ a = 60 ∨ a = 43 ∨ a = 45 ∨ a = 42)) : one a = 0 := if_neg h

def dB (c : UInt8) : Bool := decide (48 ≤ c.toNat ∧ c.toNat ≤ 57)

def valB (n : Int) : List UInt8 → Int
  | [] => n
  | c :: r => valB (10 * n + ((c.toNat : Int) - 48)) r

def numB (l : List UInt8) : Bool := decide (1 ≤ l.length ∧ l.length ≤ 10) && !(decide ((l.headD 0).toNat = 48) && decide (1 < l.length)) && l.all dB && decide (valB 0 l ≤ 1000000000)

theorem numB_len {l : List UInt8} (h : ¬ (1 ≤ l.length ∧ l.length ≤ 10)) : numB l = false := by unfold numB; rw [decide_eq_false h]; rfl

theorem numB_nought {c : UInt8} {r : List UInt8} (hc : c.toNat = 48) (h : 1 < (c :: r).length) : numB (c :: r) = false := by
  have h2 : decide (((c :: r).headD 0).toNat = 48) = true := decide_eq_true hc
  unfold numB
  rw [h2, decide_eq_true h]
  simp

theorem numB_not {l : List UInt8} (h : l.all dB = false) : numB l = false := by unfold numB; rw [h]; simp

theorem numB_all {l : List UInt8} (h1 : 1 ≤ l.length ∧ l.length ≤ 10) (h2 : ¬ ((l.headD 0).toNat = 48 ∧ 1 < l.length)) (h : l.all dB = true) : numB l = decide (valB 0 l ≤ 1000000000) := by
  have h3 := and_no h2
  unfold numB
  rw [decide_eq_true h1, h3, h]
  simp

theorem get_bl (s : ByteArray) (k : Nat) (h : k < s.size) : s[k] = (bl s)[k]'(by rw [bl_length]; exact h) := rfl

theorem valB_step {l : List UInt8} {k : Nat} {n v : Int} (h : valB n (l.drop k) = v) (hk : k < l.length) : valB (10 * n + (((l[k]).toNat : Int) - 48)) (l.drop (k + 1)) = v := by
  rw [← h, List.drop_eq_getElem_cons (i := k) hk]
  rfl

theorem valB_end {l : List UInt8} {k : Nat} {n v : Int} (h : valB n (l.drop k) = v) (hk : l.length ≤ k) : n = v := by
  rw [← h, List.drop_eq_nil_of_le hk]; rfl

theorem all_step {l : List UInt8} {k : Nat} (h : (l.take k).all dB = true) (hk : k < l.length) (hd : dB l[k] = true) : (l.take (k + 1)).all dB = true := by
  rw [List.take_succ_eq_append_getElem hk, List.all_append, h]
  simp [hd]

theorem all_no {l : List UInt8} {k : Nat} (hk : k < l.length) (hd : dB l[k] = false) : l.all dB = false := by
  rw [List.all_eq_false]
  exact ⟨l[k], List.getElem_mem _, by rw [hd]; decide⟩

theorem dB_yes {c : UInt8} (h : 48 ≤ c.toNat ∧ c.toNat ≤ 57) : dB c = true := decide_eq_true h

theorem dB_no {c : UInt8} (h : ¬ (48 ≤ c.toNat ∧ c.toNat ≤ 57)) : dB c = false := decide_eq_false h

theorem pow_le9 {k : Nat} (h : k ≤ 9) : (10 : Int) ^ k ≤ 1000000000 := by
  have : (10 : Nat) ^ k ≤ 10 ^ 9 := Nat.pow_le_pow_right (by omega) h
  have e : ((10 ^ k : Nat) : Int) = (10 : Int) ^ k := by simp
  omega

theorem pow_next (k : Nat) : (10 : Int) ^ (k + 1) = 10 ^ k * 10 := Int.pow_succ 10 k

/-- A rune's first byte tells whether it is of ASCII. -/
theorem runes_form : ∀ (n : Nat) (l : List UInt8), l.length ≤ n → ∀ v ∈ runes l, ∃ c r, v.2 = c :: r ∧ (c.toNat < 128 → v.1 = (c.toNat : Int) ∧ r = []) ∧ (¬ c.toNat < 128 → v.1 = -1 ∨ 128 ≤ v.1)
  | 0, l, h, v, hv => by
    have : l = [] := List.eq_nil_of_length_eq_zero (by omega)
    subst this; cases hv
  | n + 1, [], h, v, hv => by cases hv
  | n + 1, c :: r, h, v, hv => by
    by_cases hc : c.toNat < 128
    · rw [runes_ascii hc] at hv
      rcases List.mem_cons.1 hv with rfl | hv
      · exact ⟨c, [], rfl, fun _ => ⟨rfl, rfl⟩, fun h => absurd hc h⟩
      · exact runes_form n r (by simp at h; omega) v hv
    · have hp := nx_pos (l := c :: r) (by simp)
      rw [runes_cons (by simp)] at hv
      rcases List.mem_cons.1 hv with rfl | hv
      · obtain ⟨m, hm⟩ : ∃ m, (nx (c :: r)).2 = m + 1 := ⟨(nx (c :: r)).2 - 1, by omega⟩
        exact ⟨c, r.take m, by rw [hm, List.take_succ_cons], fun h => absurd h hc, fun _ => nx_big hc r⟩
      · exact runes_form n _ (by rw [List.length_drop]; omega) v hv

theorem form (l : List UInt8) : ∀ v ∈ runes l, ∃ c r, v.2 = c :: r ∧ (c.toNat < 128 → v.1 = (c.toNat : Int) ∧ r = []) ∧ (¬ c.toNat < 128 → v.1 = -1 ∨ 128 ≤ v.1) := runes_form _ l (Nat.le_refl _)

/-- An ASCII rune has one byte. -/
theorem asc_one {l : List UInt8} {v : Ru} (hv : v ∈ runes l) (h : 0 ≤ v.1 ∧ v.1 < 128) : ∃ c, v.2 = [c] ∧ v.1 = (c.toNat : Int) := by
  obtain ⟨c, r, e, h1, h2⟩ := form l v hv
  by_cases hc : c.toNat < 128
  · obtain ⟨a, b⟩ := h1 hc
    exact ⟨c, by rw [e, b], a⟩
  · have := h2 hc; omega

theorem digits_bytes {l : List UInt8} : ∀ (vs : List Ru), (∀ v ∈ vs, v ∈ runes l) → vs.all (fun v => dgt v.1) = true → (byt vs).length = vs.length ∧ (byt vs).all dB = true ∧ (∀ n, valB n (byt vs) = val n vs) ∧ (vs ≠ [] → ((byt vs).headD 0).toNat = ((vs.headD (0, [])).1).toNat)
  | [], _, _ => ⟨rfl, rfl, fun _ => rfl, fun h => absurd rfl h⟩
  | v :: t, hm, ha => by
    simp only [List.all_cons, Bool.and_eq_true] at ha
    have hd : 48 ≤ v.1 ∧ v.1 ≤ 57 := of_decide_eq_true ha.1
    obtain ⟨c, e1, e2⟩ := asc_one (hm v (by simp)) (by omega)
    obtain ⟨i1, i2, i3, i4⟩ := digits_bytes t (fun x hx => hm x (by simp [hx])) ha.2
    have eb : byt (v :: t) = c :: byt t := by rw [byt_cons, e1]; rfl
    rw [eb]
    refine ⟨by simp [i1], ?_, fun n => ?_, fun _ => ?_⟩
    · simp only [List.all_cons, i2, Bool.and_true]
      exact dB_yes (by omega)
    · show valB (10 * n + ((c.toNat : Int) - 48)) (byt t) = val (10 * n + (v.1 - 48)) t
      rw [i3, e2]
    · simp [e2]

theorem not_digits {l : List UInt8} : ∀ (vs : List Ru), (∀ v ∈ vs, v ∈ runes l) → vs.all (fun v => dgt v.1) = false → (byt vs).all dB = false
  | [], _, h => by simp at h
  | v :: t, hm, ha => by
    rw [byt_cons, List.all_append]
    simp only [List.all_cons, Bool.and_eq_false_iff] at ha
    rw [Bool.and_eq_false_iff]
    rcases ha with ha | ha
    · left
      have hd : ¬ (48 ≤ v.1 ∧ v.1 ≤ 57) := of_decide_eq_false ha
      obtain ⟨c, r, e, h1, h2⟩ := form l v (hm v (by simp))
      rw [e, List.all_cons, Bool.and_eq_false_iff]
      left
      refine dB_no (fun h => hd ?_)
      have := (h1 (by omega)).1
      omega
    · right
      exact not_digits t (fun x hx => hm x (by simp [hx])) ha

theorem numB_numb {l : List UInt8} (vs : List Ru) (hm : ∀ v ∈ vs, v ∈ runes l) : numB (byt vs) = numb vs := by
  cases ha : vs.all (fun v => dgt v.1) with
  | false =>
    rw [numB_not (not_digits vs hm ha)]
    unfold numb
    rw [ha]; simp
  | true =>
    obtain ⟨i1, i2, i3, i4⟩ := digits_bytes vs hm ha
    unfold numB numb
    rw [i1, i2, i3, ha]
    by_cases hn : vs = []
    · subst hn; rfl
    · have h4 := i4 hn
      have h5 : decide (((byt vs).headD 0).toNat = 48) = decide ((vs.headD (0, [])).1 = 48) := by
        match vs, hn with
        | v :: t, _ =>
          simp only [List.all_cons, Bool.and_eq_true] at ha
          have hd : 48 ≤ v.1 ∧ v.1 ≤ 57 := of_decide_eq_true ha.1
          have h6 : ((byt (v :: t)).headD 0).toNat = v.1.toNat := h4
          show decide (((byt (v :: t)).headD 0).toNat = 48) = decide (v.1 = 48)
          by_cases hq : v.1 = 48
          · rw [decide_eq_true hq]; exact decide_eq_true (by omega)
          · rw [decide_eq_false hq]; exact decide_eq_false (by omega)
      rw [h5]

/-- The bytes of the runes ahead that may stand in a name. -/
theorem take_spb (l : List UInt8) : l.take (spb l) = byt ((runes l).take (spn (runes l))) := by
  have e := byt_runes _ l (Nat.le_refl _)
  have e2 : byt ((runes l).take (spn (runes l))) ++ byt ((runes l).drop (spn (runes l))) = l := by rw [← byt_append, List.take_append_drop, e]
  have e3 : ∀ (a b : List UInt8), a ++ b = l → l.take a.length = a := fun a b h => by rw [← h]; exact List.take_left
  exact e3 _ _ e2

theorem spb_le (l : List UInt8) : spb l ≤ l.length := by
  have := byt_split (runes l) (spn (runes l))
  rw [byt_runes _ l (Nat.le_refl _)] at this
  unfold spb
  omega

theorem good_spn (l : List UInt8) : ∀ v ∈ (runes l).take (spn (runes l)), Good v := fun v hv => runes_are_good _ l (Nat.le_refl _) v (List.mem_of_mem_take hv) (insd_ne (spn_all _ v hv))

theorem runes_spn (l : List UInt8) : runes (byt ((runes l).take (spn (runes l)))) = (runes l).take (spn (runes l)) := by
  have := runes_goods _ [] (good_spn l)
  rwa [List.append_nil, runes_nil, List.append_nil] at this

theorem name_spb {l : List UInt8} (hl : l ≠ []) (h : letter (nx l).1 = true) : nameS (l.take (spb l)) = decide (spn (runes l) ≤ 24) := by
  have hc := runes_cons hl
  have hp : 1 ≤ spn (runes l) := by rw [hc]; exact spn_pos (letter_insd h)
  have hr := runes_spn l
  have hs := spn_take (runes l)
  have hb : spb (byt ((runes l).take (spn (runes l)))) = (byt ((runes l).take (spn (runes l)))).length := by
    unfold spb
    rw [hr, hs, List.take_take, Nat.min_self]
  have hne : byt ((runes l).take (spn (runes l))) ≠ [] := by
    intro e
    rw [e] at hr
    have := congrArg List.length hr
    rw [List.length_take, runes_nil] at this
    have h7 := spn_le (runes l)
    simp only [List.length_nil] at this
    omega
  have hh : (nx (byt ((runes l).take (spn (runes l))))).1 = (nx l).1 := by
    have e1 := runes_cons hne
    rw [hr, hc] at e1
    obtain ⟨m, hm⟩ : ∃ m, spn (runes l) = m + 1 := ⟨spn (runes l) - 1, by omega⟩
    rw [hc] at hm
    rw [hm, List.take_succ_cons] at e1
    have := congrArg (fun x => x.headD ((0, []) : Ru)) e1
    simp only [List.headD_cons] at this
    rw [hc, hm, List.take_succ_cons]
    exact (congrArg Prod.fst this).symm
  rw [take_spb]
  unfold nameS
  rw [hh, h, hb, hr, hs]
  simp

theorem sgn_bytes (l : List UInt8) : (byt ((runes l).take (sgn (runes l)))).length = sgn (runes l) := by
  have key : ∀ v ∈ (runes l).take (sgn (runes l)), 0 ≤ v.1 ∧ v.1 < 128 := by
    intro v hv
    match hr : runes l with
    | [] => rw [hr] at hv; simp at hv
    | [u] =>
      rw [hr] at hv
      have hm := List.mem_of_mem_take hv
      rcases List.mem_cons.1 hm with rfl | hm
      · have h0 : one v.1 ≠ 0 := fun e => by rw [show sgn [v] = one v.1 from rfl, e] at hv; simp at hv
        unfold one at h0
        split at h0
        · omega
        · exact absurd rfl h0
      · simp at hm
    | u :: x :: t =>
      rw [hr] at hv
      have e : sgn (u :: x :: t) = if pair u.1 x.1 = true then 2 else one u.1 := rfl
      by_cases hp : pair u.1 x.1 = true
      · rw [e, if_pos hp] at hv
        have := of_decide_eq_true hp
        simp only [List.take_succ_cons, List.take_zero, List.mem_cons, List.not_mem_nil, or_false] at hv
        rcases hv with rfl | rfl <;> omega
      · rw [e, if_neg hp] at hv
        unfold one at hv
        split at hv
        · simp only [List.take_succ_cons, List.take_zero, List.mem_cons, List.not_mem_nil, or_false] at hv
          subst hv; omega
        · simp at hv
  have h2 : ∀ (vs : List Ru), (∀ v ∈ vs, v ∈ runes l) → (∀ v ∈ vs, 0 ≤ v.1 ∧ v.1 < 128) → (byt vs).length = vs.length := by
    intro vs
    induction vs with
    | nil => intro _ _; rfl
    | cons v t ih =>
      intro hm hk
      obtain ⟨c, e1, _⟩ := asc_one (hm v (by simp)) (hk v (by simp))
      rw [byt_cons, e1, List.length_append, ih (fun x hx => hm x (by simp [hx])) (fun x hx => hk x (by simp [hx]))]
      simp; omega
  rw [h2 _ (fun v hv => List.mem_of_mem_take hv) key, List.length_take]
  have := sgn_le (runes l)
  omega

/-- How many bytes the word has that a text begins with. -/
def firstB (l : List UInt8) : Nat := (byt ((runes l).take (fst1 (runes l)).2)).length

theorem bl_to (s : ByteArray) (k : Nat) : bl (s.extract 0 k) = (bl s).take k := by
  show (s.extract 0 k).data.toList = _
  rw [Lib.extract_data]; rfl

abbrev tup3 (a b c : Nat) : Value := .tuple #[.int .i64 (a : Int), .int .i64 (b : Int), .int .i64 (c : Int)]

/-- The place behind runes. -/
def endR : List Ru → Int → Int → Int × Int
  | [], ln, co => (ln, co)
  | v :: t, ln, co => if v.1 = 10 then endR t (ln + 1) 1 else endR t ln (co + 1)

def szOf (v : Value) : Nat := match v with | .string s => s.size | _ => 0

/-- Two cells of a block stay behind a call. -/
theorem keep2 {w w' : World} {X : Nat} {a b : Value} (hb : Below w.heap.size w w') (h0 : w.cell? ⟨X, 0, none⟩ = some a) (h1 : w.cell? ⟨X, 1, none⟩ = some b) (f0 : w.frozen? ⟨X, 0, none⟩ = false) (f1 : w.frozen? ⟨X, 1, none⟩ = false) :
    w'.cell? ⟨X, 0, none⟩ = some a ∧ w'.cell? ⟨X, 1, none⟩ = some b ∧ w'.frozen? ⟨X, 0, none⟩ = false ∧ w'.frozen? ⟨X, 1, none⟩ = false := by
  have hX := World.block_lt_of_cell? w _ h0
  have hX' : X < w.heap.size := hX
  refine ⟨?_, ?_, ?_, ?_⟩
  · rw [hb.cell (p := ⟨X, 0, none⟩) hX']; exact h0
  · rw [hb.cell (p := ⟨X, 1, none⟩) hX']; exact h1
  · rw [hb.frozen (p := ⟨X, 0, none⟩) hX']; exact f0
  · rw [hb.frozen (p := ⟨X, 1, none⟩) hX']; exact f1

theorem new2 (w : World) (a b : Value) (T : TypeId) (n : Nat) (hn : n = w.heap.size) : (w.alloc (.cells #[a, b] T)).cell? ⟨n, 0, none⟩ = some a ∧ (w.alloc (.cells #[a, b] T)).cell? ⟨n, 1, none⟩ = some b ∧ (w.alloc (.cells #[a, b] T)).frozen? ⟨n, 0, none⟩ = false ∧ (w.alloc (.cells #[a, b] T)).frozen? ⟨n, 1, none⟩ = false := by
  subst hn
  refine ⟨by simp, by simp, by simp, by simp⟩

/-- A block of two cells. -/
def At (w : World) (X : Nat) (a b : Value) : Prop := w.cell? ⟨X, 0, none⟩ = some a ∧ w.cell? ⟨X, 1, none⟩ = some b ∧ w.frozen? ⟨X, 0, none⟩ = false ∧ w.frozen? ⟨X, 1, none⟩ = false

theorem At.keep {w w' : World} {X : Nat} {a b : Value} (h : At w X a b) (hb : Below w.heap.size w w') : At w' X a b := keep2 hb h.1 h.2.1 h.2.2.1 h.2.2.2

theorem cell_same {w : World} {p : Addr} {u v : Value} (h : w.cell? p = some u) : (w.setCell p v).cell? p = some v := World.cell?_setCell_same' w _ v (by rw [h]; rfl)

theorem cell_far {w : World} {X i Y j : Nat} {u v : Value} (hne : ¬ (X = Y ∧ i = j)) (h : w.cell? ⟨Y, j, none⟩ = some u) : (w.setCell ⟨X, i, none⟩ v).cell? ⟨Y, j, none⟩ = some u :=
  (World.cell?_setCell_other w ⟨X, i, none⟩ ⟨Y, j, none⟩ v (by simp; intro h1 h2; exact hne ⟨h1, h2⟩)).trans h

theorem At.set0 {w : World} {X : Nat} {a b : Value} (h : At w X a b) (v : Value) : At (w.setCell ⟨X, 0, none⟩ v) X v b :=
  ⟨cell_same h.1, cell_far (by omega) h.2.1, (World.frozen?_setCell _ _ _ _).trans h.2.2.1, (World.frozen?_setCell _ _ _ _).trans h.2.2.2⟩

theorem At.set1 {w : World} {X : Nat} {a b : Value} (h : At w X a b) (v : Value) : At (w.setCell ⟨X, 1, none⟩ v) X a v :=
  ⟨cell_far (by omega) h.1, cell_same h.2.1, (World.frozen?_setCell _ _ _ _).trans h.2.2.1, (World.frozen?_setCell _ _ _ _).trans h.2.2.2⟩

theorem At.far {w : World} {X Y i : Nat} {a b : Value} (h : At w Y a b) (hne : X ≠ Y) (v : Value) : At (w.setCell ⟨X, i, none⟩ v) Y a b :=
  ⟨cell_far (by omega) h.1, cell_far (by omega) h.2.1, (World.frozen?_setCell _ _ _ _).trans h.2.2.1, (World.frozen?_setCell _ _ _ _).trans h.2.2.2⟩

theorem At.new (w : World) (a b : Value) (T : TypeId) (n : Nat) (hn : n = w.heap.size) : At (w.alloc (.cells #[a, b] T)) n a b := new2 w a b T n hn

/-- A word's text. -/
def txt (seg : List Ru) : ByteArray := ⟨(byt seg).toArray⟩

def celW (x : Wd) : List Value := [.int .i64 (x.1 : Int), .string (txt x.2.1), .int .i64 x.2.2.1, .int .i64 x.2.2.2]

def celsW (l : List Wd) : List Value := l.flatMap celW

theorem celsW_snoc (l : List Wd) (x : Wd) : celsW (l ++ [x]) = celsW l ++ celW x := by simp [celsW]

/-- The slice value v is the call's own, from block base on, and holds the words l. -/
def OwnW (w : World) (base e : Nat) (v : Value) (l : List Wd) : Prop := w.ownsRow base e 4 v l.length (celsW l)

theorem ownW_nil (w : World) (base e : Nat) : OwnW w base e (.slice none 0 0) [] := World.ownsRow_nil w base e 4

theorem ownW_snoc {w : World} {base e : Nat} {v : Value} {l : List Wd} {x : Wd} (h : w.ownsRow base e 4 v (l.length + 1) (celsW l ++ celW x)) : OwnW w base e v (l ++ [x]) := by
  unfold OwnW
  rw [List.length_append, celsW_snoc]
  exact h

theorem OwnW.below {w w' : World} {base e : Nat} {v : Value} {l : List Wd} {B : Nat} (h : OwnW w base e v l) (hb : Below B w w') (hB : w.heap.size ≤ B) : OwnW w' base e v l := by
  refine ⟨h.1, ?_⟩
  rcases h.2 with hn | ⟨g, cap, cur, rfl, hbg, hg, rest⟩
  · exact .inl hn
  · refine .inr ⟨g, cap, cur, rfl, hbg, ?_, rest⟩
    rw [hb.block g (by have := (Array.getElem?_eq_some_iff.1 hg).1; omega)]
    exact hg

theorem OwnW.set {w : World} {base e : Nat} {v : Value} {l : List Wd} (h : OwnW w base e v l) {a : Addr} (ha : a.block < base) (u : Value) : OwnW (w.setCell a u) base e v l := ownsRow_setCell_below h ha u

theorem OwnW.base {w : World} {base base' e : Nat} {v : Value} {l : List Wd} (h : OwnW w base e v l) (hb : base' ≤ base) : OwnW w base' e v l :=
  ⟨h.1, h.2.elim Or.inl (fun ⟨g, cap, cur, hv, hg, r⟩ => Or.inr ⟨g, cap, cur, hv, Nat.le_trans hb hg, r⟩)⟩

/-- With the words acc ahead. -/
def comb (acc : List Wd) (r : Rs) : Rs := if r.2.2 = 0 then (acc ++ r.1, r.2) else r

theorem comb_nil (r : Rs) : comb [] r = r := by unfold comb; split <;> simp

theorem comb_pre (acc : List Wd) (w : Wd) (r : Rs) : comb acc (pre w r) = comb (acc ++ [w]) r := by
  unfold comb pre
  by_cases h : r.2.2 = 0
  · simp [h]
  · simp [h]

theorem comb_end (acc : List Wd) (ln co : Int) (n : Nat) : comb acc (wrds [] ln co n) = (acc, (0, 0), 0) := by rw [wrds_nil]; simp [comb]

theorem comb_err (acc : List Wd) (p : Int × Int) (e : Int) (h : e ≠ 0) : comb acc ([], p, e) = ([], p, e) := by unfold comb; rw [if_neg h]

/-- The first rune is an ASCII sign just if the first byte is. -/
theorem head_is (c : UInt8) (r : List UInt8) {k : Nat} (hk : k < 128) : (nx (c :: r)).1 = (k : Int) ↔ c.toNat = k := by
  by_cases h : c.toNat < 128
  · rw [nx_ascii h]; simp only; omega
  · have := nx_big h r
    constructor
    · intro e; omega
    · intro e; omega

theorem runes_small {c : UInt8} (r : List UInt8) {k : Nat} (hk : k < 128) (h : c.toNat = k) : runes (c :: r) = ((k : Int), [c]) :: runes r := by
  rw [runes_ascii (by omega), h]

theorem src_word_drew {P : Program} {t e : TypeId} (ht : P.underlying t = some (.slice e)) (w : World) (x : Wd) :
    Src P 4 t (.slice (some ⟨w.heap.size, 0, none⟩) 1 1) 1 (celW x) (w.alloc (.cells #[.int .i64 (x.1 : Int), .string (txt x.2.1), .int .i64 x.2.2.1, .int .i64 x.2.2.2] e)).drew := by
  have h := World.ownsRow_lit (base := w.heap.size) (e := e) (size := 4) w #[.int .i64 (x.1 : Int), .string (txt x.2.1), .int .i64 x.2.2.1, .int .i64 x.2.2.2] 1 (Nat.le_refl _) (by simp [maxLen]) (by simp)
  exact Src.ofSlice _ ht _ 1 1 _ (by simp [celW]) (by simpa [celW] using h.cells (g := w.heap.size) rfl) (by simp [celW, Value.oneCell'])

theorem runes_drop : ∀ (m : Nat) (l : List UInt8), m ≤ (runes l).length → runes (l.drop (byt ((runes l).take m)).length) = (runes l).drop m
  | 0, l, _ => rfl
  | m + 1, l, h => by
    by_cases hl : l = []
    · subst hl; simp [runes_nil] at h
    · have hc := runes_cons hl
      have hle := nx_le hl
      have ih := runes_drop m (l.drop (nx l).2) (by rw [hc] at h; simpa using h)
      rw [hc, List.take_succ_cons, List.drop_succ_cons, byt_cons, List.length_append, List.length_take, Nat.min_eq_left hle, ← ih, List.drop_drop]

theorem byt_ge {l : List UInt8} : ∀ (vs : List Ru), (∀ v ∈ vs, v ∈ runes l) → vs.length ≤ (byt vs).length
  | [], _ => Nat.le_refl _
  | v :: t, h => by
    obtain ⟨c, r, e, _⟩ := form l v (h v (by simp))
    have := byt_ge t (fun x hx => h x (by simp [hx]))
    rw [byt_cons, e]
    simp
    omega

theorem txt_eq (s : ByteArray) (m : Nat) : s.extract 0 (byt ((runes (bl s)).take m)).length = txt ((runes (bl s)).take m) := by
  have h1 := bl_to s (byt ((runes (bl s)).take m)).length
  have e := byt_runes _ (bl s) (Nat.le_refl _)
  have e2 : byt ((runes (bl s)).take m) ++ byt ((runes (bl s)).drop m) = bl s := by rw [← byt_append, List.take_append_drop, e]
  have e3 : ∀ (a b l : List UInt8), a ++ b = l → l.take a.length = a := fun a b l h => by rw [← h]; exact List.take_left
  rw [e3 _ _ _ e2] at h1
  have h2 : ∀ (t : ByteArray) (x : List UInt8), bl t = x → t = ⟨x.toArray⟩ := fun t x h => by
    apply ByteArray.ext
    show t.data = x.toArray
    rw [← h]
  exact h2 _ _ h1

theorem At.keepB {w w' : World} {X B : Nat} {a b : Value} (h : At w X a b) (hb : Below B w w') (hX : X < B) : At w' X a b := by
  refine ⟨?_, ?_, ?_, ?_⟩
  · rw [hb.cell (p := ⟨X, 0, none⟩) hX]; exact h.1
  · rw [hb.cell (p := ⟨X, 1, none⟩) hX]; exact h.2.1
  · rw [hb.frozen (p := ⟨X, 0, none⟩) hX]; exact h.2.2.1
  · rw [hb.frozen (p := ⟨X, 1, none⟩) hX]; exact h.2.2.2

/-- Runes up to the line's end that lie behind us: j of them. -/
structure Rem (R : List Ru) (j : Nat) (l : List UInt8) : Prop where
  left : runes l = R.drop j
  cnt : rest R = j + rest (runes l)

theorem Rem.zero {l : List UInt8} : Rem (runes l) 0 l := ⟨rfl, by omega⟩

theorem Rem.step {R : List Ru} {j : Nat} {c : UInt8} {r : List UInt8} (h : Rem R j (c :: r)) (hc : c.toNat ≠ 10) : Rem R (j + 1) ((c :: r).drop (nx (c :: r)).2) := by
  have hcs := runes_cons (l := c :: r) (by simp)
  have hd : R.drop (j + 1) = runes ((c :: r).drop (nx (c :: r)).2) := by
    have := congrArg List.tail (h.left.symm.trans hcs)
    rw [List.tail_drop, List.tail_cons] at this
    exact this
  refine ⟨hd.symm, ?_⟩
  have hne : ¬ (nx (c :: r)).1 = 10 := fun e => hc ((head_is c r (k := 10) (by omega)).1 e)
  rw [h.cnt, hcs]
  show j + (if (nx (c :: r)).1 = 10 then 0 else rest _ + 1) = _
  rw [if_neg hne]
  omega

theorem Rem.stop_nil {R : List Ru} {j : Nat} (h : Rem R j []) : rest R = j := h.cnt

theorem Rem.stop {R : List Ru} {j : Nat} {c : UInt8} {r : List UInt8} (h : Rem R j (c :: r)) (hc : c.toNat = 10) : rest R = j := by
  rw [h.cnt, runes_small r (k := 10) (by omega) hc]
  rfl
end Go.Proofs.Ytdekboacjjpjeaa
