/- Items' bytes, in plain lists; and that reading undoes them. -/
import Derived.Test.YtdbfblkdjijmmaaItems
import Derived.Test.YtdbfblkdjijmmaaUndo
namespace Go.Proofs.Ytdbfblkdjijmmaa
open Go.RowKit
set_option linter.unusedSimpArgs false
set_option linter.unusedVariables false

/-- A text with a number, or a number with a text. -/
def badI (x : It) : Bool := if x.1 then x.2.1 != 0 else x.2.2.size != 0
/-- An item's bytes. -/
def ib (x : It) : List Int := if x.1 then 2 :: tb x.2.2 else 1 :: nb x.2.1
/-- Items' bytes, behind their number. -/
def ibs (l : List It) : List Int := l.flatMap ib
/-- What Items answers: the bytes, the error. -/
def itemsS (l : List It) : List Int × Int := if l.any badI then ([], 1) else if 4000 < l.length then ([], 4) else (nb l.length ++ ibs l, 0)

theorem ibs_snoc (l : List It) (x : It) : ibs (l ++ [x]) = ibs l ++ ib x := by simp [ibs]
theorem itemsS_bad {l : List It} {i : Nat} (h : i < l.length) (hb : badI l[i] = true) : itemsS l = ([], 1) := by
  unfold itemsS
  rw [if_pos (List.any_eq_true.2 ⟨l[i], List.getElem_mem _, hb⟩)]
theorem any_good {l : List It} (h : ∀ (i : Nat) (hi : i < l.length), badI l[i] = false) : l.any badI = false := by
  rw [List.any_eq_false]
  intro x hx
  obtain ⟨i, hi, rfl⟩ := List.mem_iff_getElem.1 hx
  simp [h i hi]
theorem itemsS_long {l : List It} (h : ∀ (i : Nat) (hi : i < l.length), badI l[i] = false) (hl : 4000 < l.length) : itemsS l = ([], 4) := by
  unfold itemsS; rw [any_good h]; simp [hl]
theorem itemsS_ok {l : List It} (h : ∀ (i : Nat) (hi : i < l.length), badI l[i] = false) (hl : ¬ 4000 < l.length) : itemsS l = (nb l.length ++ ibs l, 0) := by
  unfold itemsS; rw [any_good h]; simp [hl]

theorem size0 {s : ByteArray} (h : s.size = 0) : s = ⟨#[]⟩ := by
  apply ByteArray.ext
  exact Array.eq_empty_of_size_eq_zero h

/-- A good item that fits. -/
def fits (x : It) : Prop := badI x = false ∧ -9223372036854775808 ≤ x.2.1 ∧ x.2.1 ≤ 9223372036854775807 ∧ x.2.2.size ≤ 9223372036854775807

theorem takeI_ib {x : It} (h : fits x) (z : List Int) : takeI (ib x ++ z) = (x, ((ib x).length : Int), true) := by
  obtain ⟨t, n, s⟩ := x
  obtain ⟨hb, h1, h2, h3⟩ := h
  dsimp only at h1 h2 h3
  cases t with
  | true =>
    have hn : n = 0 := by simpa [badI] using hb
    subst hn
    have e : ib (true, 0, s) ++ z = 2 :: (tb s ++ z) := by simp [ib]
    rw [e, takeI_txt (takeT_tb h3 z).symm, str_sb]
    simp [ib]; omega
  | false =>
    have hs : s.size = 0 := by simpa [badI] using hb
    have hs' := size0 hs
    subst hs'
    have e : ib (false, n, ⟨#[]⟩) ++ z = 1 :: (nb n ++ z) := by simp [ib]
    rw [e, takeI_num (takeN_nb ⟨h1, h2⟩ z).symm]
    simp [ib]; omega

theorem rdN_ibs : ∀ (l : List It) (z : List Int), (∀ x ∈ l, fits x) → rdN l.length (ibs l ++ z) = some (l, z)
  | [], z, _ => by simp [rdN, ibs]
  | x :: r, z, h => by
    have hx := takeI_ib (h x (by simp)) (ibs r ++ z)
    have e : ibs (x :: r) ++ z = ib x ++ (ibs r ++ z) := by simp [ibs]
    have hr := rdN_ibs r z (fun y hy => h y (List.mem_cons_of_mem _ hy))
    rw [e, List.length_cons]
    unfold rdN
    rw [hx]
    simp [hr]

theorem readS_ok {l : List It} (h : ∀ x ∈ l, fits x) (hl : ¬ 4000 < l.length) : readS (nb l.length ++ ibs l) = some l := by
  have e := takeN_nb (n := l.length) (by omega) (ibs l)
  rw [readS_good (n := l.length) (k := (nb l.length).length) e.symm (by omega), List.drop_left]
  have := rdN_ibs l [] h
  rw [List.append_nil] at this
  rw [this]
  rfl

theorem ib_bytes (x : It) : ∀ y ∈ ib x, 0 ≤ y ∧ y ≤ 255 := by
  intro y hy
  unfold ib at hy
  split at hy
  · rcases List.mem_cons.1 hy with rfl | h
    · omega
    · exact tb_bytes _ y h
  · rcases List.mem_cons.1 hy with rfl | h
    · omega
    · exact nb_bytes _ y h
theorem ibs_bytes (l : List It) : ∀ y ∈ ibs l, 0 ≤ y ∧ y ≤ 255 := by
  intro y hy
  obtain ⟨x, _, h⟩ := List.mem_flatMap.1 hy
  exact ib_bytes x y h
theorem itemsS_bytes (l : List It) : ∀ y ∈ (itemsS l).1, 0 ≤ y ∧ y ≤ 255 := by
  intro y hy
  unfold itemsS at hy
  split at hy
  · simp at hy
  · split at hy
    · simp at hy
    · exact (List.mem_append.1 hy).elim (nb_bytes _ y) (ibs_bytes l y)

/-- How long texts are, together. -/
def txts (l : List It) : Nat := (l.map fun x => x.2.2.size).sum
theorem txts_mem {x : It} : ∀ {l : List It}, x ∈ l → x.2.2.size ≤ txts l
  | [], h => by cases h
  | y :: r, h => by
    have e : txts (y :: r) = y.2.2.size + txts r := by simp [txts]
    rw [e]
    rcases List.mem_cons.1 h with rfl | h
    · omega
    · have := txts_mem h
      omega
theorem ib_len (x : It) : (ib x).length ≤ 10 + x.2.2.size := by
  unfold ib
  split
  · have := nb_le x.2.2.size
    have := sb_length x.2.2
    simp only [tb, List.length_cons, List.length_append]
    omega
  · have := nb_le x.2.1
    simp only [List.length_cons]
    omega
theorem ibs_len : ∀ l : List It, (ibs l).length ≤ 10 * l.length + txts l
  | [] => by simp [ibs, txts]
  | x :: r => by
    have h1 := ib_len x
    have h2 := ibs_len r
    have e : ibs (x :: r) = ib x ++ ibs r := by simp [ibs]
    have e2 : txts (x :: r) = x.2.2.size + txts r := by simp [txts]
    rw [e, e2, List.length_append, List.length_cons]
    omega
theorem ibs_take (l : List It) (j : Nat) : (ibs (l.take j)).length ≤ (ibs l).length := by
  have e : ibs l = ibs (l.take j) ++ ibs (l.drop j) := by unfold ibs; rw [← List.flatMap_append, List.take_append_drop]
  rw [e, List.length_append]
  omega

end Go.Proofs.Ytdbfblkdjijmmaa
