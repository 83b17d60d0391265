
/- What the program's Letter, digit, inWord, runSize, remarkSize, Name do. -/
import Derived.Test.YtiddccohldjjcaaDoorRows
import Derived.Test.YtiddccohldjjcaaDoorGlyB
import Derived.WalkSmall
namespace Go.Proofs.YtiddccohldjjcaaDoor
open Go.RowKit Go.Lib
set_option linter.unusedSimpArgs false
set_option linter.unusedVariables false

/-- What a range tells of a rune. -/
def rn (r : Int) : Int := if r = -1 then 65533 else r
theorem rn_small {r k : Int} (hk : 0 ≤ k ∧ k < 128) : rn r = k ↔ r = k := by unfold rn; split <;> omega
theorem letter_rn (r : Int) : letter (rn r) = letter r := by
  unfold rn
  split
  · rename_i h; subst h; decide
  · rfl
theorem dgt_rn (r : Int) : dgt (rn r) = dgt r := by
  unfold rn
  split
  · rename_i h; subst h; decide
  · rfl
theorem insd_rn (r : Int) : insd (rn r) = insd r := by
  unfold rn
  split
  · rename_i h; subst h; decide
  · rfl
theorem dec_nx {s : ByteArray} {pos : Nat} (h : pos < s.size) : ((Utf8.decode s pos).1 : Int) = rn (nx ((bl s).drop pos)).1 ∧ (Utf8.decode s pos).2 = (nx ((bl s).drop pos)).2 := by
  have hne := drop_ne (l := bl s) (k := pos) (by rw [bl_length]; exact h)
  have hd : decodeL ((bl s).drop pos) = Utf8.decode s pos := decodeL_drop s pos
  refine ⟨?_, by rw [nx_size hne, hd]⟩
  unfold nx rn
  rw [if_neg hne, hd]
  by_cases hc : (Utf8.decode s pos).1 = 65533 ∧ (Utf8.decode s pos).2 ≤ 1
  · rw [if_pos hc, if_pos rfl, hc.1]; rfl
  · rw [if_neg hc, if_neg (by simp only; omega)]

/-- m runes, of k bytes, lie behind us. -/
structure Gone (l : List UInt8) (m k : Nat) : Prop where
  le : k ≤ l.length
  left : runes (l.drop k) = (runes l).drop m
  size : (byt ((runes l).take m)).length = k
  few : m ≤ k
theorem Gone.zero (l : List UInt8) : Gone l 0 0 := ⟨by omega, rfl, rfl, by omega⟩
theorem Gone.step {l : List UInt8} {m k : Nat} (h : Gone l m k) (hk : k < l.length) : Gone l (m + 1) (k + (nx (l.drop k)).2) := by
  have hne := drop_ne hk
  have hc := runes_cons hne
  have hle := nx_le hne
  have hps := nx_pos hne
  rw [List.length_drop] at hle
  have hd : (runes l).drop m = ((nx (l.drop k)).1, (l.drop k).take (nx (l.drop k)).2) :: runes ((l.drop k).drop (nx (l.drop k)).2) := by rw [← h.left, hc]
  have hd1 : (runes l).drop (m + 1) = runes (l.drop (k + (nx (l.drop k)).2)) := by
    have := congrArg List.tail hd
    rw [List.tail_drop, List.tail_cons, List.drop_drop] at this
    exact this
  refine ⟨by omega, hd1.symm, ?_, by have := h.few; omega⟩
  have e1 := byt_split (runes l) (m + 1)
  rw [hd1, byt_runes _ _ (Nat.le_refl _), byt_runes _ _ (Nat.le_refl _), List.length_drop] at e1
  omega
theorem Gone.take {l : List UInt8} {m k : Nat} (h : Gone l m k) (hk : k < l.length) : (runes l).take (m + 1) = (runes l).take m ++ [((nx (l.drop k)).1, (l.drop k).take (nx (l.drop k)).2)] := by
  have hc := runes_cons (drop_ne hk)
  rw [h.left] at hc
  have hlt : m < (runes l).length := by
    rcases Nat.lt_or_ge m (runes l).length with h1 | h1
    · exact h1
    · rw [List.drop_eq_nil_of_le h1] at hc; cases hc
  rw [List.take_succ_eq_append_getElem hlt]
  rw [List.drop_eq_getElem_cons hlt] at hc
  rw [(List.cons.inj hc).1]

theorem rest_of : ∀ (m : Nat) (R : List Ru), m ≤ R.length → (∀ v ∈ R.take m, v.1 ≠ 10) → (R.drop m = [] ∨ ∃ v t, R.drop m = v :: t ∧ v.1 = 10) → rest R = m
  | 0, R, _, _, h => by
    rcases h with h | ⟨v, t, h, h10⟩
    · rw [List.drop_zero] at h; rw [h]; rfl
    · rw [List.drop_zero] at h; rw [h]; unfold rest; rw [if_pos h10]
  | m + 1, [], hm, _, _ => by simp at hm
  | m + 1, v :: t, hm, h1, h2 => by
    unfold rest
    rw [if_neg (h1 v (by simp)), rest_of m t (by simpa using hm) (fun x hx => h1 x (by simp [hx])) (by simpa using h2)]
/-- How many bytes a remark has, ahead. -/
def rsb (l : List UInt8) : Nat := (byt ((runes l).take (rest (runes l)))).length
theorem Gone.rest_end {l : List UInt8} {m k : Nat} (h : Gone l m k) (hn : ∀ v ∈ (runes l).take m, v.1 ≠ 10) (hs : l.length ≤ k ∨ (nx (l.drop k)).1 = 10) (hm : m ≤ (runes l).length) : rest (runes l) = m ∧ rsb l = k := by
  have e : rest (runes l) = m := by
    refine rest_of m _ hm hn ?_
    rw [← h.left]
    by_cases hk : l.length ≤ k
    · left; rw [List.drop_eq_nil_of_le hk]; rfl
    · right
      refine ⟨_, _, runes_cons (drop_ne (by omega)), ?_⟩
      rcases hs with hs | hs
      · omega
      · exact hs
  exact ⟨e, by unfold rsb; rw [e]; exact h.size⟩

theorem pLetter_any (r : Int) (w : World) : Calls Tryd.prog 48 #[.int .i32 r] w fun e w' => e = .returned (.bool (letter r)) ∧ w = w' := by
  rw [letter_eq]
  go_enter Tryd.func48, Tryd.ntmps48
  go_wp2
  all_goals go_ret
  all_goals (refine ⟨ret_bool ?_, rfl⟩; first | rfl | (rw [Bool.eq_iff_iff]; simp; omega) | (rw [Bool.eq_iff_iff]; simp [*]; omega))
theorem pDigit_any (r : Int) (w : World) : Calls Tryd.prog 50 #[.int .i32 r] w fun e w' => e = .returned (.bool (dgt r)) ∧ w = w' := by
  rw [dgt_eq]
  go_enter Tryd.func50, Tryd.ntmps50
  go_wp2
  all_goals go_ret
  all_goals (refine ⟨ret_bool ?_, rfl⟩; first | rfl | (rw [Bool.eq_iff_iff]; simp; omega) | (rw [Bool.eq_iff_iff]; simp [*]; omega))
theorem pInside_any (r : Int) (w : World) : Calls Tryd.prog 68 #[.int .i32 r] w fun e w' => e = .returned (.bool (insd r)) ∧ w = w' := by
  have h1 := pLetter_any r w
  have h2 := pDigit_any r w
  have h3 : insd r = (letter r || dgt r || r == 95) := rfl
  rw [h3]
  cases ha : letter r <;> rw [ha] at h1
  · cases hb : dgt r <;> rw [hb] at h2
    · go_enter Tryd.func68, Tryd.ntmps68
      go_wp2_with (first
        | (go_at_call 48; refine h1.mono ?_; rintro e w' ⟨rfl, rfl⟩)
        | (go_at_call 50; refine h2.mono ?_; rintro e w' ⟨rfl, rfl⟩))
      go_ret
      exact ⟨ret_bool (by simp), rfl⟩
    · go_enter Tryd.func68, Tryd.ntmps68
      go_wp2_with (first
        | (go_at_call 48; refine h1.mono ?_; rintro e w' ⟨rfl, rfl⟩)
        | (go_at_call 50; refine h2.mono ?_; rintro e w' ⟨rfl, rfl⟩))
      go_ret
      exact ⟨ret_bool (by simp), rfl⟩
  · go_enter Tryd.func68, Tryd.ntmps68
    go_wp2_with (first
      | (go_at_call 48; refine h1.mono ?_; rintro e w' ⟨rfl, rfl⟩)
      | (go_at_call 50; refine h2.mono ?_; rintro e w' ⟨rfl, rfl⟩))
    go_ret
    exact ⟨ret_bool (by simp), rfl⟩

set_option maxHeartbeats 400000 in
theorem pRun_any (s : ByteArray) (w : World) (hs : s.size ≤ 140737488351232) :
    Calls Tryd.prog 49 #[.string s] w fun e w' => e = .returned (.int .i64 (spb (bl s) : Int)) ∧ Below w.heap.size w w' := by
  go_enter Tryd.func49, Tryd.ntmps49
  go_wp2
  go_loopw [] (fun wr => ∃ (m k : Nat), wr.heap[w.heap.size]? = some (.stringIter s k) ∧ Hid (Adv (bl s) m k) ∧ Below w.heap.size w wr) (fun wr => s.size - wr.iterPos w.heap.size)
  case atStart => exact ⟨0, 0, World.iter_heap w s 0, Adv.zero _, (Below.refl _ w).alloc (Nat.le_refl _) _⟩
  case round =>
    obtain ⟨m, k, hit, ha, hb⟩ := hrel
    have hle := ha.out.le
    rw [bl_length] at hle
    by_cases hk : k < s.size
    · have hnx : ∀ ty, (Instr.next (.pointer (some ⟨w.heap.size, 0, none⟩)) true ty).run Tryd.prog wr = _ := fun ty => Lib.run_next_any_at wr w.heap.size s k ty hit hk
      obtain ⟨d1, d2⟩ := dec_nx hk
      have hne := drop_ne (l := bl s) (by rw [bl_length]; exact hk)
      have hps := nx_pos hne
      have hnl := nx_le hne
      rw [List.length_drop, bl_length] at hnl
      obtain ⟨r, hr⟩ : ∃ r, (nx ((bl s).drop k)).1 = r := ⟨_, rfl⟩
      obtain ⟨q, hq⟩ : ∃ q, (nx ((bl s).drop k)).2 = q := ⟨_, rfl⟩
      rw [hr] at d1
      rw [hq] at d2 hps hnl
      rw [d1, d2] at hnx
      have hit2 := Lib.iterAt_heap wr w.heap.size s k (k + q) hit
      have hb2 := Lib.below_iterAt hb (k := w.heap.size) (Nat.le_refl _) s (k + q)
      have h26 := fun w1 => pInside_any (rn r) w1
      rw [insd_rn] at h26
      cases hi : insd r with
      | true =>
        rw [hi] at h26
        have hA : Hid (Adv (bl s) (m + 1) (k + q)) := by have := ha.out.step (by rw [bl_length]; exact hk) (by rw [hr]; exact hi); rw [hq] at this; exact this
        clear hr hq hne hi d1 d2
        go_wp2_with (first
          | (go_at_call 68; refine (h26 _).mono ?_; rintro e w' ⟨rfl, rfl⟩))
        go_roundw
        case rel => exact ⟨m + 1, k + q, hit2, hA, hb2⟩
        case measure => rw [iterPos_of hit2, iterPos_of hit]; omega
      | false =>
        rw [hi] at h26
        have hE : Hid (spn (runes (bl s)) = m) := ha.out.stop (.inr (by rw [hr]; exact hi))
        have hZ : Hid (spb (bl s) = k) := by show spb (bl s) = k; unfold spb; rw [hE.out]; exact ha.out.size
        clear hr hq hne hi d1 d2
        go_wp2_with (first
          | (go_at_call 68; refine (h26 _).mono ?_; rintro e w' ⟨rfl, rfl⟩))
        go_ret
        rw [hZ.out]
        exact ⟨rfl, hb2⟩
    · have hnx : ∀ ty, (Instr.next (.pointer (some ⟨w.heap.size, 0, none⟩)) true ty).run Tryd.prog wr = _ := fun ty => Lib.run_next_end_at wr w.heap.size s k ty hit hk
      have hE : Hid (spn (runes (bl s)) = m) := ha.out.stop (.inl (by rw [bl_length]; omega))
      have hZ : Hid (spb (bl s) = k) := by show spb (bl s) = k; unfold spb; rw [hE.out]; exact ha.out.size
      have hks : k = s.size := by omega
      go_wp2
      go_ret
      rw [hZ.out, hks]
      exact ⟨rfl, hb⟩

set_option maxHeartbeats 400000 in
theorem pRemark_any (s : ByteArray) (w : World) (hs : s.size ≤ 140737488351232) :
    Calls Tryd.prog 47 #[.string s] w fun e w' => e = .returned (.int .i64 (rsb (bl s) : Int)) ∧ Below w.heap.size w w' := by
  go_enter Tryd.func47, Tryd.ntmps47
  go_wp2
  go_loopw [] (fun wr => ∃ (m k : Nat), wr.heap[w.heap.size]? = some (.stringIter s k) ∧ Hid (Gone (bl s) m k) ∧ Hid (∀ v ∈ (runes (bl s)).take m, v.1 ≠ 10) ∧ Hid (m ≤ (runes (bl s)).length) ∧ Below w.heap.size w wr) (fun wr => s.size - wr.iterPos w.heap.size)
  case atStart => exact ⟨0, 0, World.iter_heap w s 0, Gone.zero _, fun v hv => by simp at hv, Nat.zero_le _, (Below.refl _ w).alloc (Nat.le_refl _) _⟩
  case round =>
    obtain ⟨m, k, hit, ha, hno, hmr, hb⟩ := hrel
    have hle := ha.out.le
    rw [bl_length] at hle
    by_cases hk : k < s.size
    · have hnx : ∀ ty, (Instr.next (.pointer (some ⟨w.heap.size, 0, none⟩)) true ty).run Tryd.prog wr = _ := fun ty => Lib.run_next_any_at wr w.heap.size s k ty hit hk
      obtain ⟨d1, d2⟩ := dec_nx hk
      have hkl : k < (bl s).length := by rw [bl_length]; exact hk
      have hne := drop_ne hkl
      have hps := nx_pos hne
      have hnl := nx_le hne
      rw [List.length_drop, bl_length] at hnl
      have hst := ha.out.step hkl
      have htk := ha.out.take hkl
      have hre := fun h => ha.out.rest_end hno.out (.inr h) hmr.out
      have hml : m < (runes (bl s)).length := by
        have := congrArg List.length htk
        rw [List.length_append, List.length_take, List.length_take] at this
        simp at this
        omega
      obtain ⟨r, hr⟩ : ∃ r, (nx ((bl s).drop k)).1 = r := ⟨_, rfl⟩
      obtain ⟨q, hq⟩ : ∃ q, (nx ((bl s).drop k)).2 = q := ⟨_, rfl⟩
      rw [hr] at d1 htk hre
      rw [hq] at d2 hps hnl hst htk
      rw [d1, d2] at hnx
      have hit2 := Lib.iterAt_heap wr w.heap.size s k (k + q) hit
      have hb2 := Lib.below_iterAt hb (k := w.heap.size) (Nat.le_refl _) s (k + q)
      have h10 := rn_small (r := r) (k := 10) (by omega)
      by_cases hi : r = 10
      · have e1 : (rn r == 10) = true := by rw [h10.2 hi]; rfl
        have hZ : Hid (rsb (bl s) = k) := (hre hi).2
        clear hr hq hne hi d1 d2 htk hre hst h10
        go_wp2
        go_ret
        rw [hZ.out]
        exact ⟨rfl, hb2⟩
      · have e1 : (rn r == 10) = false := beq_eq_false_iff_ne.2 (fun e => hi (h10.1 e))
        have hN : Hid (∀ v ∈ (runes (bl s)).take (m + 1), v.1 ≠ 10) := fun v hv => by
          rw [htk] at hv
          rcases List.mem_append.1 hv with hv | hv
          · exact hno.out v hv
          · simp only [List.mem_singleton] at hv; rw [hv]; exact hi
        have hA : Hid (Gone (bl s) (m + 1) (k + q)) := hst
        have hM : Hid (m + 1 ≤ (runes (bl s)).length) := hml
        clear hr hq hne hi d1 d2 htk hre hst h10 hml
        go_wp2
        go_roundw
        case rel => exact ⟨m + 1, k + q, hit2, hA, hN, hM, hb2⟩
        case measure => rw [iterPos_of hit2, iterPos_of hit]; omega
    · have hnx : ∀ ty, (Instr.next (.pointer (some ⟨w.heap.size, 0, none⟩)) true ty).run Tryd.prog wr = _ := fun ty => Lib.run_next_end_at wr w.heap.size s k ty hit hk
      have hZ : Hid (rsb (bl s) = k) := (ha.out.rest_end hno.out (.inl (by rw [bl_length]; omega)) hmr.out).2
      have hks : k = s.size := by omega
      go_wp2
      go_ret
      rw [hZ.out, hks]
      exact ⟨rfl, hb⟩
end Go.Proofs.YtiddccohldjjcaaDoor
