
/- What strings.Clone does: the same bytes. -/
import Derived.Shelf.Strconv.Clone
import Derived.Test.YtiddccohldjjcaaDoorGlyU
namespace Go.Proofs.YtiddccohldjjcaaDoor
open Go.Shelf Go.RowKit Go.Lib
set_option linter.unusedSimpArgs false
set_option linter.unusedVariables false

def renC : Ren := { f := fun x => match x with | 316 => 54 | n => n, t := fun x => match x with | 9 => 9 | 3 => 3 | 4 => 4 | 37 => 110 | 0 => 0 | 127 => 111 | 5 => 5 | n => n, g := fun x => x }
theorem laysC : LaysM.n316 Tryd.prog renC :=
  { mixed := by kernel_rfl, f316 := Tryd.func54.trans (congrArg some (by kernel_rfl)),
    t0 := Tryd.underlying0, a0 := Tryd.isAgg0, z0 := Tryd.sizeOf0, v0 := Tryd.zeroValue0, t3 := Tryd.underlying3, a3 := Tryd.isAgg3, z3 := Tryd.sizeOf3, v3 := Tryd.zeroValue3, t4 := Tryd.underlying4, a4 := Tryd.isAgg4, z4 := Tryd.sizeOf4, v4 := Tryd.zeroValue4,
    t9 := Tryd.underlying9, a9 := Tryd.isAgg9, z9 := Tryd.sizeOf9, v9 := Tryd.zeroValue9, t37 := Tryd.underlying110, a37 := Tryd.isAgg110, z37 := Tryd.sizeOf110, v37 := Tryd.zeroValue110,
    t127 := Tryd.underlying111, a127 := Tryd.isAgg111, z127 := Tryd.sizeOf111, v127 := Tryd.zeroValue111, t5 := Tryd.underlying5, a5 := Tryd.isAgg5, z5 := Tryd.sizeOf5, v5 := Tryd.zeroValue5,
    i0 := by kernel_rfl, i3 := by kernel_rfl, i4 := by kernel_rfl, i5 := by kernel_rfl, i9 := by kernel_rfl, i37 := by kernel_rfl, i127 := by kernel_rfl }
theorem pClone_any (s : ByteArray) (w : World) (hs : s.size ≤ 140737488351232) :
    Calls Tryd.prog 28 #[.string s] w fun e w' => e = .returned (.string s) ∧ Below w.heap.size w w' := by
  have h1 : Calls Tryd.prog 54 #[.string s] w fun e w' => e = .returned (.string s) ∧ Below w.heap.size w w' := Any.stringslite_Clone laysC s w (by omega)
  go_enter Tryd.func28, Tryd.ntmps28
  go_wp2_with (first
    | (go_at_call 54; refine h1.mono ?_; rintro e w1 ⟨rfl, b1⟩))
  go_ret
  exact ⟨rfl, b1⟩

/-- What is begun is a word just if it is right. -/
theorem right_word {l : List UInt8} (hl : l ≠ []) (h10 : (nx l).1 ≠ 10) (h32 : ¬ ((nx l).1 = 32 ∨ (nx l).1 = 9)) (h35 : (nx l).1 ≠ 35) :
    1 ≤ (pc l).1 ∧ (rightS (pc l).1 (l.take (pcB l)) = true → fst1 (runes l) = pc l) ∧ (rightS (pc l).1 (l.take (pcB l)) = false → (fst1 (runes l)).1 = 0) := by
  have hc := runes_cons hl
  have hf := fst1_cons ((nx l).1, l.take (nx l).2) (runes (l.drop (nx l).2))
  rw [← hc] at hf
  simp only at hf
  have htk : ∀ m, m ≤ (runes l).length → l.take (byt ((runes l).take m)).length = byt ((runes l).take m) := fun m _ => by
    have e2 : byt ((runes l).take m) ++ byt ((runes l).drop m) = l := by rw [← byt_append, List.take_append_drop, byt_runes _ l (Nat.le_refl _)]
    have e3 : ∀ (a b l : List UInt8), a ++ b = l → l.take a.length = a := fun a b l h => by rw [← h]; exact List.take_left
    exact e3 _ _ _ e2
  have hp : pc l = if letter (nx l).1 = true then (1, spn (runes l)) else if dgt (nx l).1 = true then (2, spn (runes l)) else (3, sgn (runes l)) := by
    unfold pc
    rw [if_neg (by omega), if_neg h35]
  unfold pcB
  rw [hp, hf]
  by_cases a : letter (nx l).1 = true
  · have hn := name_spb hl a
    have hsp : l.take (byt ((runes l).take (spn (runes l)))).length = l.take (spb l) := rfl
    simp only [if_pos a]
    rw [hsp]
    unfold rightS
    rw [if_pos rfl, hn]
    refine ⟨Nat.le_refl _, fun h => ?_, fun h => ?_⟩
    · rw [if_pos (of_decide_eq_true h)]
    · rw [if_neg (of_decide_eq_false h)]
  · simp only [if_neg a]
    by_cases d : dgt (nx l).1 = true
    · simp only [if_pos d]
      rw [htk _ (spn_le _)]
      unfold rightS
      rw [if_neg (by decide), if_pos rfl, numB_numb (l := l) _ (fun v hv => List.mem_of_mem_take hv)]
      refine ⟨by decide, fun h => ?_, fun h => ?_⟩
      · rw [if_pos h]
      · rw [if_neg (by rw [h]; decide)]
    · simp only [if_neg d]
      have hsb := sgn_bytes l
      rw [htk _ (sgn_le _)]
      unfold rightS
      rw [if_neg (by decide), if_neg (by decide), if_pos rfl]
      refine ⟨by decide, fun h => ?_, fun h => ?_⟩
      · rw [if_neg]
        intro e
        rw [e] at hsb
        have : byt ((runes l).take (sgn (runes l))) = [] := List.eq_nil_of_length_eq_zero (by rw [e]; exact hsb)
        rw [decide_eq_true this] at h
        cases h
      · rw [if_pos]
        have : byt ((runes l).take (sgn (runes l))) = [] := by simpa using h
        rw [this] at hsb
        exact hsb.symm
/-- None of a piece's runes but a line feed's own is one. -/
theorem spn_no10 {rs : List Ru} : ∀ v ∈ rs.take (spn rs), v.1 ≠ 10 := fun v hv e => by
  have := spn_all rs v hv
  rw [e] at this
  revert this
  decide
theorem sgn_no10 : ∀ (rs : List Ru), ∀ v ∈ rs.take (sgn rs), v.1 ≠ 10
  | [], v, h => by simp [sgn] at h
  | [u], v, h => by
    have hm := List.mem_of_mem_take h
    rcases List.mem_cons.1 hm with rfl | hm
    · intro e
      have : sgn [v] = 0 := by show one v.1 = 0; rw [e]; decide
      rw [this] at h
      simp at h
    · simp at hm
  | u :: x :: t, v, h => by
    have e : sgn (u :: x :: t) = if pair u.1 x.1 = true then 2 else one u.1 := rfl
    by_cases hp : pair u.1 x.1 = true
    · rw [e, if_pos hp] at h
      have := of_decide_eq_true hp
      simp only [List.take_succ_cons, List.take_zero, List.mem_cons, List.not_mem_nil, or_false] at h
      rcases h with rfl | rfl <;> omega
    · rw [e, if_neg hp] at h
      intro h10
      unfold one at h
      split at h
      · simp only [List.take_succ_cons, List.take_zero, List.mem_cons, List.not_mem_nil, or_false] at h
        subst h; omega
      · simp at h
theorem rest_no10 : ∀ (rs : List Ru), ∀ v ∈ rs.take (rest rs), v.1 ≠ 10
  | [], v, h => by simp [rest] at h
  | u :: t, v, h => by
    unfold rest at h
    by_cases hu : u.1 = 10
    · rw [if_pos hu] at h; simp at h
    · rw [if_neg hu, List.take_succ_cons] at h
      rcases List.mem_cons.1 h with rfl | h
      · exact hu
      · exact rest_no10 t v h
end Go.Proofs.YtiddccohldjjcaaDoor
