import Derived.Test.YtccmmkhcacglhaaGreatDoorRows
import Derived.Test.YtccmmkhcacglhaaGreatDoorWa03
import Derived.WalkSmall

/- What the program's Letter, digit, inWord, runSize, remarkSize, Name do. -/
namespace Go.Proofs.YtccmmkhcacglhaaGreatDoor
open Go.RowKit Go.Lib
set_option linter.unusedSimpArgs false
set_option linter.unusedVariables false

/-- What a range tells of a rune. -/
def rn (r : Int) : Int := if r = -1 then 65533 else r
theorem rn_small {r k : Int} (hk : 0 ≤ k ∧ k < 128) : rn r = k ↔ r = k := by unfold rn; split <;> omega
theorem letter_rn (r : Int) : letter (rn r) = letter r := by
  unfold rn
  split
  · rename_i h; subst h; decide
  · rfl
theorem dgt_rn (r : Int) : dgt (rn r) = dgt r := by
  unfold rn
  split
  · rename_i h; subst h; decide
  · rfl
theorem insd_rn (r : Int) : insd (rn r) = insd r := by
  unfold rn
  split
  · rename_i h; subst h; decide
  · rfl
theorem dec_nx {s : ByteArray} {pos : Nat} (h : pos < s.size) : ((Utf8.decode s pos).1 : Int) = rn (nx ((bl s).drop pos)).1 ∧ (Utf8.decode s pos).2 = (nx ((bl s).drop pos)).2 := by
  have hne := drop_ne (l := bl s) (k := pos) (by rw [bl_length]; exact h)
  have hd : decodeL ((bl s).drop pos) = Utf8.decode s pos := decodeL_drop s pos
  refine ⟨?_, by rw [nx_size hne, hd]⟩
  unfold nx rn
  rw [if_neg hne, hd]
  by_cases hc : (Utf8.decode s pos).1 = 65533 ∧ (Utf8.decode s pos).2 ≤ 1
  · rw [if_pos hc, if_pos rfl, hc.1]; rfl
  · rw [if_neg hc, if_neg (by simp only; omega)]

/-- m runes, of k bytes, lie behind us. -/
structure Gone (l : List UInt8) (m k : Nat) : Prop where
  le : k ≤ l.length
  left : runes (l.drop k) = (runes l).drop m
  size : (byt ((runes l).take m)).length = k
  few : m ≤ k
theorem Gone.zero (l : List UInt8) : Gone l 0 0 := ⟨by omega, rfl, rfl, by omega⟩
theorem Gone.step {l : List UInt8} {m k : Nat} (h : Gone l m k) (hk : k < l.length) : Gone l (m + 1) (k + (nx (l.drop k)).2) := by
  have hne := drop_ne hk
  have hc := runes_cons hne
  have hle := nx_le hne
  have hps := nx_pos hne
  rw [List.length_drop] at hle
  have hd : (runes l).drop m = ((nx (l.drop k)).1, (l.drop k).take (nx (l.drop k)).2) :: runes ((l.drop k).drop (nx (l.drop k)).2) := by rw [← h.left, hc]
  have hd1 : (runes l).drop (m + 1) = runes (l.drop (k + (nx (l.drop k)).2)) := by
    have := congrArg List.tail hd
    rw [List.tail_drop, List.tail_cons, List.drop_drop] at this
    exact this
  refine ⟨by omega, hd1.symm, ?_, by have := h.few; omega⟩
  have e1 := byt_split (runes l) (m + 1)
  rw [hd1, byt_runes _ _ (Nat.le_refl _), byt_runes _ _ (Nat.le_refl _), List.length_drop] at e1
  omega
theorem Gone.take {l : List UInt8} {m k : Nat} (h : Gone l m k) (hk : k < l.length) : (runes l).take (m + 1) = (runes l).take m ++ [((nx (l.drop k)).1, (l.drop k).take (nx (l.drop k)).2)] := by
  have hc := runes_cons (drop_ne hk)
  rw [h.left] at hc
  have hlt : m < (runes l).length := by
    rcases Nat.lt_or_ge m (runes l).length with h1 | h1
    · exact h1
    · rw [List.drop_eq_nil_of_le h1] at hc; cases hc
  rw [List.take_succ_eq_append_getElem hlt]
  rw [List.drop_eq_getElem_cons hlt] at hc
  rw [(List.cons.inj hc).1]

theorem rest_of : ∀ (m : Nat) (R : List Ru), m ≤ R.length → (∀ v ∈ R.take m, v.1 ≠ 10) → (R.drop m = [] ∨ ∃ v t, R.drop m = v :: t ∧ v.1 = 10) → rest R = m
  | 0, R, _, _, h => by
    rcases h with h | ⟨v, t, h, h10⟩
    · rw [List.drop_zero] at h; rw [h]; rfl
    · rw [List.drop_zero] at h; rw [h]; unfold rest; rw [if_pos h10]
  | m + 1, [], hm, _, _ => by simp at hm
  | m + 1, v :: t, hm, h1, h2 => by
    unfold rest
    rw [if_neg (h1 v (by simp)), rest_of m t (by simpa using hm) (fun x hx => h1 x (by simp [hx])) (by simpa using h2)]
/-- How many bytes a remark has, ahead. -/
def rsb (l : List UInt8) : Nat := (byt ((runes l).take (rest (runes l)))).length
theorem Gone.rest_end {l : List UInt8} {m k : Nat} (h : Gone l m k) (hn : ∀ v ∈ (runes l).take m, v.1 ≠ 10) (hs : l.length ≤ k ∨ (nx (l.drop k)).1 = 10) (hm : m ≤ (runes l).length) : rest (runes l) = m ∧ rsb l = k := by
  have e : rest (runes l) = m := by
    refine rest_of m _ hm hn ?_
    rw [← h.left]
    by_cases hk : l.length ≤ k
    · left; rw [List.drop_eq_nil_of_le hk]; rfl
    · right
      refine ⟨_, _, runes_cons (drop_ne (by omega)), ?_⟩
      rcases hs with hs | hs
      · omega
      · exact hs
  exact ⟨e, by unfold rsb; rw [e]; exact h.size⟩

theorem pLetter_any (r : Int) (w : World) : Calls Tryz.prog 106 #[.int .i32 r] w fun e w' => e = .returned (.bool (letter r)) ∧ w = w' := by
  rw [letter_eq]
  go_enter Tryz.func106, Tryz.ntmps106
  go_wp2
  all_goals go_ret
  all_goals (refine ⟨ret_bool ?_, rfl⟩; first | rfl | (rw [Bool.eq_iff_iff]; simp; omega) | (rw [Bool.eq_iff_iff]; simp [*]; omega))
theorem pDigit_any (r : Int) (w : World) : Calls Tryz.prog 108 #[.int .i32 r] w fun e w' => e = .returned (.bool (dgt r)) ∧ w = w' := by
  rw [dgt_eq]
  go_enter Tryz.func108, Tryz.ntmps108
  go_wp2
  all_goals go_ret
  all_goals (refine ⟨ret_bool ?_, rfl⟩; first | rfl | (rw [Bool.eq_iff_iff]; simp; omega) | (rw [Bool.eq_iff_iff]; simp [*]; omega))
theorem pInside_any (r : Int) (w : World) : Calls Tryz.prog 139 #[.int .i32 r] w fun e w' => e = .returned (.bool (insd r)) ∧ w = w' := by
  have h1 := pLetter_any r w
  have h2 := pDigit_any r w
  have h3 : insd r = (letter r || dgt r || r == 95) := rfl
  rw [h3]
  cases ha : letter r <;> rw [ha] at h1
  · cases hb : dgt r <;> rw [hb] at h2
    · go_enter Tryz.func139, Tryz.ntmps139
      go_wp2_with (first
        | (go_at_call 106; refine h1.mono ?_; rintro e w' ⟨rfl, rfl⟩)
        | (go_at_call 108; refine h2.mono ?_; rintro e w' ⟨rfl, rfl⟩))
      go_ret
      exact ⟨ret_bool (by simp), rfl⟩
    · go_enter Tryz.func139, Tryz.ntmps139
      go_wp2_with (first
        | (go_at_call 106; refine h1.mono ?_; rintro e w' ⟨rfl, rfl⟩)
        | (go_at_call 108; refine h2.mono ?_; rintro e w' ⟨rfl, rfl⟩))
      go_ret
      exact ⟨ret_bool (by simp), rfl⟩
  · go_enter Tryz.func139, Tryz.ntmps139
    go_wp2_with (first
      | (go_at_call 106; refine h1.mono ?_; rintro e w' ⟨rfl, rfl⟩)
      | (go_at_call 108; refine h2.mono ?_; rintro e w' ⟨rfl, rfl⟩))
    go_ret
    exact ⟨ret_bool (by simp), rfl⟩

set_option maxHeartbeats 400000 in
theorem pRun_any (s : ByteArray) (w : World) (hs : s.size ≤ 140737488351232) :
    Calls Tryz.prog 107 #[.string s] w fun e w' => e = .returned (.int .i64 (spb (bl s) : Int)) ∧ Below w.heap.size w w' := by
  go_enter Tryz.func107, Tryz.ntmps107
  go_wp2
  go_loopw [] (fun wr => ∃ (m k : Nat), wr.heap[w.heap.size]? = some (.stringIter s k) ∧ Hid (Adv (bl s) m k) ∧ Below w.heap.size w wr) (fun wr => s.size - wr.iterPos w.heap.size)
  case atStart => exact ⟨0, 0, World.iter_heap w s 0, Adv.zero _, (Below.refl _ w).alloc (Nat.le_refl _) _⟩
  case round =>
    obtain ⟨m, k, hit, ha, hb⟩ := hrel
    have hle := ha.out.le
    rw [bl_length] at hle
    by_cases hk : k < s.size
    · have hnx : ∀ ty, (Instr.next (.pointer (some ⟨w.heap.size, 0, none⟩)) true ty).run Tryz.prog wr = _ := fun ty => Lib.run_next_any_at wr w.heap.size s k ty hit hk
      obtain ⟨d1, d2⟩ := dec_nx hk
      have hne := drop_ne (l := bl s) (by rw [bl_length]; exact hk)
      have hps := nx_pos hne
      have hnl := nx_le hne
      rw [List.length_drop, bl_length] at hnl
      obtain ⟨r, hr⟩ : ∃ r, (nx ((bl s).drop k)).1 = r := ⟨_, rfl⟩
      obtain ⟨q, hq⟩ : ∃ q, (nx ((bl s).drop k)).2 = q := ⟨_, rfl⟩
      rw [hr] at d1
      rw [hq] at d2 hps hnl
      rw [d1, d2] at hnx
      have hit2 := Lib.iterAt_heap wr w.heap.size s k (k + q) hit
      have hb2 := Lib.below_iterAt hb (k := w.heap.size) (Nat.le_refl _) s (k + q)
      have h26 := fun w1 => pInside_any (rn r) w1
      rw [insd_rn] at h26
      cases hi : insd r with
      | true =>
        rw [hi] at h26
        have hA : Hid (Adv (bl s) (m + 1) (k + q)) := by have := ha.out.step (by rw [bl_length]; exact hk) (by rw [hr]; exact hi); rw [hq] at this; exact this
        clear hr hq hne hi d1 d2
        go_wp2_with (first
          | (go_at_call 139; refine (h26 _).mono ?_; rintro e w' ⟨rfl, rfl⟩))
        go_roundw
        case rel => exact ⟨m + 1, k + q, hit2, hA, hb2⟩
        case measure => rw [iterPos_of hit2, iterPos_of hit]; omega
      | false =>
        rw [hi] at h26
        have hE : Hid (spn (runes (bl s)) = m) := ha.out.stop (.inr (by rw [hr]; exact hi))
        have hZ : Hid (spb (bl s) = k) := by show spb (bl s) = k; unfold spb; rw [hE.out]; exact ha.out.size
        clear hr hq hne hi d1 d2
        go_wp2_with (first
          | (go_at_call 139; refine (h26 _).mono ?_; rintro e w' ⟨rfl, rfl⟩))
        go_ret
        rw [hZ.out]
        exact ⟨rfl, hb2⟩
    · have hnx : ∀ ty, (Instr.next (.pointer (some ⟨w.heap.size, 0, none⟩)) true ty).run Tryz.prog wr = _ := fun ty => Lib.run_next_end_at wr w.heap.size s k ty hit hk
      have hE : Hid (spn (runes (bl s)) = m) := ha.out.stop (.inl (by rw [bl_length]; omega))
      have hZ : Hid (spb (bl s) = k) := by show spb (bl s) = k; unfold spb; rw [hE.out]; exact ha.out.size
      have hks : k = s.size := by omega
      go_wp2
      go_ret
      rw [hZ.out, hks]
      exact ⟨rfl, hb⟩

set_option maxHeartbeats 400000 in
theorem pRemark_any (s : ByteArray) (w : World) (hs : s.size ≤ 140737488351232) :
    Calls Tryz.prog 105 #[.string s] w fun e w' => e = .returned (.int .i64 (rsb (bl s) : Int)) ∧ Below w.heap.size w w' := by
  go_enter Tryz.func105, Tryz.ntmps105
  go_wp2
  go_loopw [] (fun wr => ∃ (m k : Nat), wr.heap[w.heap.size]? = some (.stringIter s k) ∧ Hid (Gone (bl s) m k) ∧ Hid (∀ v ∈ (runes (bl s)).take m, v.1 ≠ 10) ∧ Hid (m ≤ (runes (bl s)).length) ∧ Below w.heap.size w wr) (fun wr => s.size - wr.iterPos w.heap.size)
  case atStart => exact ⟨0, 0, World.iter_heap w s 0, Gone.zero _, fun v hv => by simp at hv, Nat.zero_le _, (Below.refl _ w).alloc (Nat.le_refl _) _⟩
  case round =>
    obtain ⟨m, k, hit, ha, hno, hmr, hb⟩ := hrel
    have hle := ha.out.le
    rw [bl_length] at hle
    by_cases hk : k < s.size
    · have hnx : ∀ ty, (Instr.next (.pointer (some ⟨w.heap.size, 0, none⟩)) true ty).run Tryz.prog wr = _ := fun ty => Lib.run_next_any_at wr w.heap.size s k ty hit hk
      obtain ⟨d1, d2⟩ := dec_nx hk
      have hkl : k < (bl s).length := by rw [bl_length]; exact hk
      have hne := drop_ne hkl
      have hps := nx_pos hne
      have hnl := nx_le hne
      rw [List.length_drop, bl_length] at hnl
      have hst := ha.out.step hkl
      have htk := ha.out.take hkl
      have hre := fun h => ha.out.rest_end hno.out (.inr h) hmr.out
      have hml : m < (runes (bl s)).length := by
        have := congrArg List.length htk
        rw [List.length_append, List.length_take, List.length_take] at this
        simp at this
        omega
      obtain ⟨r, hr⟩ : ∃ r, (nx ((bl s).drop k)).1 = r := ⟨_, rfl⟩
      obtain ⟨q, hq⟩ : ∃ q, (nx ((bl s).drop k)).2 = q := ⟨_, rfl⟩
      rw [hr] at d1 htk hre
      rw [hq] at d2 hps hnl hst htk
      rw [d1, d2] at hnx
      have hit2 := Lib.iterAt_heap wr w.heap.size s k (k + q) hit
      have hb2 := Lib.below_iterAt hb (k := w.heap.size) (Nat.le_refl _) s (k + q)
      have h10 := rn_small (r := r) (k := 10) (by omega)
      by_cases hi : r = 10
      · have e1 : (rn r == 10) = true := by rw [h10.2 hi]; rfl
        have hZ : Hid (rsb (bl s) = k) := (hre hi).2
        clear hr hq hne hi d1 d2 htk hre hst h10
        go_wp2
        go_ret
        rw [hZ.out]
        exact ⟨rfl, hb2⟩
      · have e1 : (rn r == 10) = false := beq_eq_false_iff_ne.2 (fun e => hi (h10.1 e))
        have hN : Hid (∀ v ∈ (runes (bl s)).take (m + 1), v.1 ≠ 10) := fun v hv => by
          rw [htk] at hv
          rcases List.mem_append.1 hv with hv | hv
          · exact hno.out v hv
          · simp only [List.mem_singleton] at hv; rw [hv]; exact hi
        have hA : Hid (Gone (bl s) (m + 1) (k + q)) := hst
        have hM : Hid (m + 1 ≤ (runes (bl s)).length) := hml
        clear hr hq hne hi d1 d2 htk hre hst h10 hml
        go_wp2
        go_roundw
        case rel => exact ⟨m + 1, k + q, hit2, hA, hN, hM, hb2⟩
        case measure => rw [iterPos_of hit2, iterPos_of hit]; omega
    · have hnx : ∀ ty, (Instr.next (.pointer (some ⟨w.heap.size, 0, none⟩)) true ty).run Tryz.prog wr = _ := fun ty => Lib.run_next_end_at wr w.heap.size s k ty hit hk
      have hZ : Hid (rsb (bl s) = k) := (ha.out.rest_end hno.out (.inl (by rw [bl_length]; omega)) hmr.out).2
      have hks : k = s.size := by omega
      go_wp2
      go_ret
      rw [hZ.out, hks]
      exact ⟨rfl, hb⟩
end Go.Proofs.YtccmmkhcacglhaaGreatDoor

/- What the program's Name, number, behind and End do. -/
namespace Go.Proofs.YtccmmkhcacglhaaGreatDoor
open Go.RowKit Go.Lib
set_option linter.unusedSimpArgs false
set_option linter.unusedVariables false

theorem nameS_short {l : List UInt8} (h : spb l ≠ l.length) : nameS l = false := by
  unfold nameS
  have : ((spb l : Int) == (l.length : Int)) = false := beq_eq_false_iff_ne.2 (by omega)
  rw [this]; simp
theorem nameS_head {l : List UInt8} (h : letter (nx l).1 = false) : nameS l = false := by
  unfold nameS
  rw [h]; simp
theorem nameS_all {l : List UInt8} {m : Nat} (h1 : letter (nx l).1 = true) (h2 : spb l = l.length) (h3 : spn (runes l) = m) : nameS l = decide ((m : Int) ≤ 24) := by
  unfold nameS
  rw [h1, h2, h3]
  rw [Bool.eq_iff_iff]
  simp
  omega

set_option maxHeartbeats 1000000 in
theorem pName_any (s : ByteArray) (w : World) (hs : s.size ≤ 140737488351232) :
    Calls Tryz.prog 95 #[.string s] w fun e w' => e = .returned (.bool (nameS (bl s))) ∧ Below w.heap.size w w' := by
  go_enter Tryz.func95, Tryz.ntmps95
  go_wp2
  go_loopw [3] (fun c wr => ∃ (m k : Nat), c = .int .i64 (m : Int) ∧ wr.heap[w.heap.size]? = some (.stringIter s k) ∧ Hid (Adv (bl s) m k) ∧ (m = 0 → k = 0) ∧ Hid (0 < m → letter (nx (bl s)).1 = true) ∧ Below w.heap.size w wr) (fun _ wr => s.size - wr.iterPos w.heap.size)
  case atStart => exact ⟨0, 0, rfl, World.iter_heap w s 0, Adv.zero _, fun _ => rfl, fun h => by omega, (Below.refl _ w).alloc (Nat.le_refl _) _⟩
  case round =>
    obtain ⟨m, k, rfl, hit, ha, hm0, hlt, hb⟩ := hrel
    have hle := ha.out.le
    have hfw := ha.out.few
    rw [bl_length] at hle
    by_cases hk : k < s.size
    · have hnx : ∀ ty, (Instr.next (.pointer (some ⟨w.heap.size, 0, none⟩)) true ty).run Tryz.prog wr = _ := fun ty => Lib.run_next_any_at wr w.heap.size s k ty hit hk
      obtain ⟨d1, d2⟩ := dec_nx hk
      have hne := drop_ne (l := bl s) (by rw [bl_length]; exact hk)
      have hps := nx_pos hne
      have hnl := nx_le hne
      rw [List.length_drop, bl_length] at hnl
      obtain ⟨r, hr⟩ : ∃ r, (nx ((bl s).drop k)).1 = r := ⟨_, rfl⟩
      obtain ⟨q, hq⟩ : ∃ q, (nx ((bl s).drop k)).2 = q := ⟨_, rfl⟩
      rw [hr] at d1
      rw [hq] at d2 hps hnl
      rw [d1, d2] at hnx
      have hit2 := Lib.iterAt_heap wr w.heap.size s k (k + q) hit
      have hb2 := Lib.below_iterAt hb (k := w.heap.size) (Nat.le_refl _) s (k + q)
      have h26 := fun w1 => pInside_any (rn r) w1
      have h27 := fun w1 => pLetter_any (rn r) w1
      rw [insd_rn] at h26
      rw [letter_rn] at h27
      cases hi : insd r with
      | true =>
        rw [hi] at h26
        have hA : Hid (Adv (bl s) (m + 1) (k + q)) := by have := ha.out.step (by rw [bl_length]; exact hk) (by rw [hr]; exact hi); rw [hq] at this; exact this
        by_cases hmz : m = 0
        · have e0 : ((m : Int) == 0) = true := by simp; omega
          have hk0 := hm0 hmz
          have hrr : (nx (bl s)).1 = r := by rw [← hr, hk0]; rfl
          cases hl : letter r with
          | true =>
            rw [hl] at h27
            have hL : Hid (0 < m + 1 → letter (nx (bl s)).1 = true) := fun _ => by rw [hrr]; exact hl
            clear hr hq hne hi d1 d2 hrr hl hm0 hmz hk0
            go_wp2_with (first
              | (go_at_call 139; refine (h26 _).mono ?_; rintro e w' ⟨rfl, rfl⟩)
              | (go_at_call 106; refine (h27 _).mono ?_; rintro e w' ⟨rfl, rfl⟩))
            go_roundw
            case rel => exact ⟨m + 1, k + q, by go_num, hit2, hA, fun h => by omega, hL, hb2⟩
            case measure => rw [iterPos_of hit2, iterPos_of hit]; omega
          | false =>
            rw [hl] at h27
            have hF : Hid (nameS (bl s) = false) := nameS_head (by rw [hrr]; exact hl)
            clear hr hq hne hi d1 d2 hrr hl hm0 hmz hk0
            go_wp2_with (first
              | (go_at_call 139; refine (h26 _).mono ?_; rintro e w' ⟨rfl, rfl⟩)
              | (go_at_call 106; refine (h27 _).mono ?_; rintro e w' ⟨rfl, rfl⟩))
            go_ret
            rw [hF.out]
            exact ⟨rfl, hb2⟩
        · have e0 : ((m : Int) == 0) = false := beq_eq_false_iff_ne.2 (by omega)
          have hL : Hid (0 < m + 1 → letter (nx (bl s)).1 = true) := fun _ => hlt.out (by omega)
          clear hr hq hne hi d1 d2 hm0 hmz
          go_wp2_with (first
            | (go_at_call 139; refine (h26 _).mono ?_; rintro e w' ⟨rfl, rfl⟩))
          go_roundw
          case rel => exact ⟨m + 1, k + q, by go_num, hit2, hA, fun h => by omega, hL, hb2⟩
          case measure => rw [iterPos_of hit2, iterPos_of hit]; omega
      | false =>
        rw [hi] at h26
        have hE : Hid (spn (runes (bl s)) = m) := ha.out.stop (.inr (by rw [hr]; exact hi))
        have hZ : Hid (spb (bl s) = k) := by show spb (bl s) = k; unfold spb; rw [hE.out]; exact ha.out.size
        have hF : Hid (nameS (bl s) = false) := nameS_short (by rw [hZ.out, bl_length]; omega)
        clear hr hq hne hi d1 d2 hm0
        go_wp2_with (first
          | (go_at_call 139; refine (h26 _).mono ?_; rintro e w' ⟨rfl, rfl⟩))
        go_ret
        rw [hF.out]
        exact ⟨rfl, hb2⟩
    · have hnx : ∀ ty, (Instr.next (.pointer (some ⟨w.heap.size, 0, none⟩)) true ty).run Tryz.prog wr = _ := fun ty => Lib.run_next_end_at wr w.heap.size s k ty hit hk
      have hE : Hid (spn (runes (bl s)) = m) := ha.out.stop (.inl (by rw [bl_length]; omega))
      have hZ : Hid (spb (bl s) = k) := by show spb (bl s) = k; unfold spb; rw [hE.out]; exact ha.out.size
      have hks : k = s.size := by omega
      by_cases hmz : m = 0
      · have hF : Hid (nameS (bl s) = false) := by
          have : bl s = [] := List.eq_nil_of_length_eq_zero (by rw [bl_length]; have := hm0 hmz; omega)
          show nameS (bl s) = false
          rw [this]; rfl
        subst hmz
        clear hm0
        go_wp2
        go_ret
        rw [hF.out]
        exact ⟨rfl, hb⟩
      · have hF : Hid (nameS (bl s) = decide ((m : Int) ≤ 24)) := nameS_all (hlt.out (by omega)) (by rw [hZ.out, hks]; rfl) hE.out
        have e1 : (1 : Int) ≤ (m : Int) := by omega
        clear hm0
        go_wp2
        all_goals go_ret
        all_goals rw [hF.out]
        all_goals exact ⟨rfl, hb⟩

theorem nx_dB {l : List UInt8} {k : Nat} {d : UInt8} (h : k < l.length) (hd : l[k] = d) : dgt (nx (l.drop k)).1 = dB d ∧ (dB d = true → nx (l.drop k) = ((d.toNat : Int), 1)) := by
  have e : l.drop k = d :: l.drop (k + 1) := by rw [List.drop_eq_getElem_cons h, hd]
  rw [e]
  by_cases hs : d.toNat < 128
  · rw [nx_ascii hs]
    refine ⟨?_, fun _ => rfl⟩
    unfold dgt dB
    rw [Bool.eq_iff_iff]
    simp
    omega
  · have hb := nx_big hs (l.drop (k + 1))
    have e1 : dB d = false := dB_no (by omega)
    rw [e1]
    refine ⟨decide_eq_false (by omega), fun h => by cases h⟩

set_option maxHeartbeats 2000000 in
theorem pNumber_any (s : ByteArray) (w : World) (hs : s.size ≤ 140737488351232) :
    Calls Tryz.prog 110 #[.string s] w fun e w' => e = .returned (.bool (numB (bl s))) ∧ Below w.heap.size w w' := by
  have hlen : (bl s).length = s.size := rfl
  by_cases h1 : s.size < 1
  · rw [numB_len (by omega)]
    have hz : s = ⟨#[]⟩ := by
      apply ByteArray.ext
      exact Array.eq_empty_of_size_eq_zero (show s.data.size = 0 by show s.size = 0; omega)
    subst hz
    go_enter Tryz.func110, Tryz.ntmps110
    go_wp2
    go_ret
    exact ⟨rfl, Below.refl _ _⟩
  have he0 : (s.toList == []) = false := by
    rw [ByteArray.toList_eq, beq_eq_false_iff_ne]
    intro e
    have := congrArg List.length e
    simp at this
    have h2 : s.size = 0 := by show s.data.size = 0; rw [this]; rfl
    omega
  by_cases h2 : 10 < s.size
  · rw [numB_len (by omega)]
    have e2 : (s.size : Int) > 10 := by omega
    go_enter Tryz.func110, Tryz.ntmps110
    go_wp2
    go_ret
    exact ⟨rfl, Below.refl _ _⟩
  have e2 : ¬ (s.size : Int) > 10 := by omega
  obtain ⟨c, r, hl⟩ : ∃ c r, bl s = c :: r := by
    match hb : bl s with
    | [] => rw [hb] at hlen; simp at hlen; omega
    | c :: r => exact ⟨c, r, rfl⟩
  have hs0 : s[0] = c := by rw [get_bl]; simp [hl]
  have hz : (0 : Int) < (s.size : Int) := by omega
  by_cases h3 : c.toNat = 48 ∧ 1 < s.size
  · rw [hl, numB_nought h3.1 (by rw [← hl, hlen]; exact h3.2)]
    have e3 : ((c.toNat : Int) == 48) = true := by simp; omega
    have e4 : (s.size : Int) > 1 := by omega
    clear h3
    go_enter Tryz.func110, Tryz.ntmps110
    go_wp2
    go_ret
    exact ⟨rfl, Below.refl _ _⟩
  have hL1 : 1 ≤ (bl s).length ∧ (bl s).length ≤ 10 := by omega
  have hL2 : ¬ (((bl s).headD 0).toNat = 48 ∧ 1 < (bl s).length) := by rw [hlen, hl]; exact h3
  have HA : Hid ((bl s).all dB = true → numB (bl s) = decide (valB 0 (bl s) ≤ 1000000000)) := fun h => numB_all hL1 hL2 h
  have H0 : Hid (valB 0 ((bl s).drop 0) = valB 0 (bl s)) := rfl
  clear hL2 hL1 hl
  by_cases h1s : 1 < s.size
  · have e4 : (s.size : Int) > 1 := by omega
    have e3 : ((c.toNat : Int) == 48) = false := beq_eq_false_iff_ne.2 (by omega)
    clear h3
    go_enter Tryz.func110, Tryz.ntmps110
    go_wp2
    go_loopw [3] (fun a wr => ∃ (n : Int) (k : Nat), a = .int .i64 n ∧ wr.heap[w.heap.size]? = some (.stringIter s k) ∧ k ≤ s.size ∧ Hid (valB n ((bl s).drop k) = valB 0 (bl s)) ∧ Hid (((bl s).take k).all dB = true) ∧ 0 ≤ n ∧ Hid (n < 10 ^ k) ∧ Below w.heap.size w wr) (fun _ wr => s.size - wr.iterPos w.heap.size)
    case atStart => exact ⟨0, 0, rfl, World.iter_heap w s 0, by omega, H0, rfl, by omega, (show (0 : Int) < 10 ^ 0 by decide), (Below.refl _ w).alloc (Nat.le_refl _) _⟩
    case round =>
      obtain ⟨n, k, rfl, hit, hk, hv, ha, hn0, hn1, hb⟩ := hrel
      by_cases hlt : k < s.size
      · have hnx : ∀ ty, (Instr.next (.pointer (some ⟨w.heap.size, 0, none⟩)) true ty).run Tryz.prog wr = _ := fun ty => Lib.run_next_any_at wr w.heap.size s k ty hit hlt
        obtain ⟨d1, d2⟩ := dec_nx hlt
        have hkl : k < (bl s).length := by rw [hlen]; exact hlt
        obtain ⟨d, hdl⟩ : ∃ d, (bl s)[k] = d := ⟨_, rfl⟩
        obtain ⟨f1, f2⟩ := nx_dB hkl hdl
        have h26 := fun w1 => pDigit_any (rn (nx ((bl s).drop k)).1) w1
        rw [dgt_rn, f1] at h26
        have hp := pow_le9 (k := k) (by omega)
        have hnb : n < 1000000000 := by have := hn1.out; omega
        cases hdg : dB d with
        | true =>
          rw [hdg] at h26
          have hdd : 48 ≤ d.toNat ∧ d.toNat ≤ 57 := of_decide_eq_true hdg
          rw [f2 hdg] at d1 d2 h26
          have hrn : rn ((d.toNat : Int), 1).1 = (d.toNat : Int) := by unfold rn; rw [if_neg (by simp only; omega)]
          rw [hrn] at d1 h26
          rw [d1, d2] at hnx
          have hit2 := Lib.iterAt_heap wr w.heap.size s k (k + 1) hit
          have hb2 := Lib.below_iterAt hb (k := w.heap.size) (Nat.le_refl _) s (k + 1)
          have hA : Hid (((bl s).take (k + 1)).all dB = true) := all_step ha.out hkl (by rw [hdl]; exact hdg)
          have hV : Hid (valB (10 * n + ((d.toNat : Int) - 48)) ((bl s).drop (k + 1)) = valB 0 (bl s)) := by have := valB_step hv.out hkl; rw [hdl] at this; exact this
          have hN : Hid (10 * n + ((d.toNat : Int) - 48) < 10 ^ (k + 1)) := by show 10 * n + ((d.toNat : Int) - 48) < 10 ^ (k + 1); rw [pow_next]; have := hn1.out; omega
          have w1 : IntKind.i32.wrap ((d.toNat : Int) - 48) = (d.toNat : Int) - 48 := by rw [IntKind.wrap_i32]; omega
          have hN0 : 0 ≤ 10 * n + ((d.toNat : Int) - 48) := by omega
          clear hdl hp f1 f2 d1 d2 hdg hrn
          go_wp2_with (first
            | (go_at_call 108; refine (h26 _).mono ?_; rintro e w' ⟨rfl, rfl⟩))
          go_roundw
          case rel => exact ⟨_, k + 1, rfl, hit2, by omega, hV, hA, hN0, hN, hb2⟩
          case measure => rw [iterPos_of hit2, iterPos_of hit]; omega
        | false =>
          rw [hdg] at h26
          have hF : Hid (numB (bl s) = false) := numB_not (all_no (k := k) hkl (by rw [hdl]; exact hdg))
          have hps := nx_pos (drop_ne hkl)
          obtain ⟨x, hx⟩ : ∃ x, rn (nx ((bl s).drop k)).1 = x := ⟨_, rfl⟩
          obtain ⟨q, hq⟩ : ∃ q, (nx ((bl s).drop k)).2 = q := ⟨_, rfl⟩
          rw [hx] at d1 h26
          rw [hq] at d2
          rw [d1, d2] at hnx
          have hb2 := Lib.below_iterAt hb (k := w.heap.size) (Nat.le_refl _) s (k + q)
          clear hdl hp f1 f2 d1 d2 hdg hx hq hps
          go_wp2_with (first
            | (go_at_call 108; refine (h26 _).mono ?_; rintro e w' ⟨rfl, rfl⟩))
          go_ret
          rw [hF.out]
          exact ⟨rfl, hb2⟩
      · have hnx : ∀ ty, (Instr.next (.pointer (some ⟨w.heap.size, 0, none⟩)) true ty).run Tryz.prog wr = _ := fun ty => Lib.run_next_end_at wr w.heap.size s k ty hit hlt
        have hall : Hid ((bl s).all dB = true) := by have := ha.out; rw [List.take_of_length_le (by rw [hlen]; omega)] at this; exact this
        have hval : Hid (valB 0 (bl s) = n) := (valB_end hv.out (by rw [hlen]; omega)).symm
        have hF : Hid (numB (bl s) = decide (n ≤ 1000000000)) := by show numB (bl s) = _; rw [HA.out hall.out, hval.out]
        clear hn0
        go_wp2
        all_goals go_ret
        all_goals rw [hF.out]
        all_goals exact ⟨rfl, hb⟩
  · have e4 : ¬ (s.size : Int) > 1 := by omega
    clear h3
    go_enter Tryz.func110, Tryz.ntmps110
    go_wp2
    go_loopw [3] (fun a wr => ∃ (n : Int) (k : Nat), a = .int .i64 n ∧ wr.heap[w.heap.size]? = some (.stringIter s k) ∧ k ≤ s.size ∧ Hid (valB n ((bl s).drop k) = valB 0 (bl s)) ∧ Hid (((bl s).take k).all dB = true) ∧ 0 ≤ n ∧ Hid (n < 10 ^ k) ∧ Below w.heap.size w wr) (fun _ wr => s.size - wr.iterPos w.heap.size)
    case atStart => exact ⟨0, 0, rfl, World.iter_heap w s 0, by omega, H0, rfl, by omega, (show (0 : Int) < 10 ^ 0 by decide), (Below.refl _ w).alloc (Nat.le_refl _) _⟩
    case round =>
      obtain ⟨n, k, rfl, hit, hk, hv, ha, hn0, hn1, hb⟩ := hrel
      by_cases hlt : k < s.size
      · have hnx : ∀ ty, (Instr.next (.pointer (some ⟨w.heap.size, 0, none⟩)) true ty).run Tryz.prog wr = _ := fun ty => Lib.run_next_any_at wr w.heap.size s k ty hit hlt
        obtain ⟨d1, d2⟩ := dec_nx hlt
        have hkl : k < (bl s).length := by rw [hlen]; exact hlt
        obtain ⟨d, hdl⟩ : ∃ d, (bl s)[k] = d := ⟨_, rfl⟩
        obtain ⟨f1, f2⟩ := nx_dB hkl hdl
        have h26 := fun w1 => pDigit_any (rn (nx ((bl s).drop k)).1) w1
        rw [dgt_rn, f1] at h26
        have hp := pow_le9 (k := k) (by omega)
        have hnb : n < 1000000000 := by have := hn1.out; omega
        cases hdg : dB d with
        | true =>
          rw [hdg] at h26
          have hdd : 48 ≤ d.toNat ∧ d.toNat ≤ 57 := of_decide_eq_true hdg
          rw [f2 hdg] at d1 d2 h26
          have hrn : rn ((d.toNat : Int), 1).1 = (d.toNat : Int) := by unfold rn; rw [if_neg (by simp only; omega)]
          rw [hrn] at d1 h26
          rw [d1, d2] at hnx
          have hit2 := Lib.iterAt_heap wr w.heap.size s k (k + 1) hit
          have hb2 := Lib.below_iterAt hb (k := w.heap.size) (Nat.le_refl _) s (k + 1)
          have hA : Hid (((bl s).take (k + 1)).all dB = true) := all_step ha.out hkl (by rw [hdl]; exact hdg)
          have hV : Hid (valB (10 * n + ((d.toNat : Int) - 48)) ((bl s).drop (k + 1)) = valB 0 (bl s)) := by have := valB_step hv.out hkl; rw [hdl] at this; exact this
          have hN : Hid (10 * n + ((d.toNat : Int) - 48) < 10 ^ (k + 1)) := by show 10 * n + ((d.toNat : Int) - 48) < 10 ^ (k + 1); rw [pow_next]; have := hn1.out; omega
          have w1 : IntKind.i32.wrap ((d.toNat : Int) - 48) = (d.toNat : Int) - 48 := by rw [IntKind.wrap_i32]; omega
          have hN0 : 0 ≤ 10 * n + ((d.toNat : Int) - 48) := by omega
          clear hdl hp f1 f2 d1 d2 hdg hrn
          go_wp2_with (first
            | (go_at_call 108; refine (h26 _).mono ?_; rintro e w' ⟨rfl, rfl⟩))
          go_roundw
          case rel => exact ⟨_, k + 1, rfl, hit2, by omega, hV, hA, hN0, hN, hb2⟩
          case measure => rw [iterPos_of hit2, iterPos_of hit]; omega
        | false =>
          rw [hdg] at h26
          have hF : Hid (numB (bl s) = false) := numB_not (all_no (k := k) hkl (by rw [hdl]; exact hdg))
          have hps := nx_pos (drop_ne hkl)
          obtain ⟨x, hx⟩ : ∃ x, rn (nx ((bl s).drop k)).1 = x := ⟨_, rfl⟩
          obtain ⟨q, hq⟩ : ∃ q, (nx ((bl s).drop k)).2 = q := ⟨_, rfl⟩
          rw [hx] at d1 h26
          rw [hq] at d2
          rw [d1, d2] at hnx
          have hb2 := Lib.below_iterAt hb (k := w.heap.size) (Nat.le_refl _) s (k + q)
          clear hdl hp f1 f2 d1 d2 hdg hx hq hps
          go_wp2_with (first
            | (go_at_call 108; refine (h26 _).mono ?_; rintro e w' ⟨rfl, rfl⟩))
          go_ret
          rw [hF.out]
          exact ⟨rfl, hb2⟩
      · have hnx : ∀ ty, (Instr.next (.pointer (some ⟨w.heap.size, 0, none⟩)) true ty).run Tryz.prog wr = _ := fun ty => Lib.run_next_end_at wr w.heap.size s k ty hit hlt
        have hall : Hid ((bl s).all dB = true) := by have := ha.out; rw [List.take_of_length_le (by rw [hlen]; omega)] at this; exact this
        have hval : Hid (valB 0 (bl s) = n) := (valB_end hv.out (by rw [hlen]; omega)).symm
        have hF : Hid (numB (bl s) = decide (n ≤ 1000000000)) := by show numB (bl s) = _; rw [HA.out hall.out, hval.out]
        clear hn0
        go_wp2
        all_goals go_ret
        all_goals rw [hF.out]
        all_goals exact ⟨rfl, hb⟩
end Go.Proofs.YtccmmkhcacglhaaGreatDoor

/- What the program's signSize does. -/
namespace Go.Proofs.YtccmmkhcacglhaaGreatDoor
open Go.RowKit Go.Lib
set_option linter.unusedSimpArgs false
set_option linter.unusedVariables false

set_option maxHeartbeats 2000000 in
theorem pSign_one (s : ByteArray) (w : World) (c : UInt8) (h0 : 0 < s.size) (h1 : ¬ 1 < s.size) (hs0 : s[0] = c) (G : Nat) (hg : one (c.toNat : Int) = G) :
    Calls Tryz.prog 109 #[.string s] w fun e w' => e = .returned (.int .i64 (G : Int)) ∧ w = w' := by
  have hz : (0 : Int) < (s.size : Int) := by omega
  have hz1 : ¬ (1 : Int) < (s.size : Int) := by omega
  by_cases f0 : c.toNat = 123
  · have g0 : ((c.toNat : Int) == 123) = true := by simp; omega
    have hG : 1 = G := by rw [← hg]; exact (one_yes (by omega)).symm
    clear f0 hg
    subst hG
    go_enter Tryz.func109, Tryz.ntmps109
    go_wp2
    go_ret
    exact ⟨rfl, rfl⟩
  have g0 : ((c.toNat : Int) == 123) = false := beq_eq_false_iff_ne.2 (by omega)
  by_cases f1 : c.toNat = 125
  · have g1 : ((c.toNat : Int) == 125) = true := by simp; omega
    have hG : 1 = G := by rw [← hg]; exact (one_yes (by omega)).symm
    clear f1 hg f0
    subst hG
    go_enter Tryz.func109, Tryz.ntmps109
    go_wp2
    go_ret
    exact ⟨rfl, rfl⟩
  have g1 : ((c.toNat : Int) == 125) = false := beq_eq_false_iff_ne.2 (by omega)
  by_cases f2 : c.toNat = 40
  · have g2 : ((c.toNat : Int) == 40) = true := by simp; omega
    have hG : 1 = G := by rw [← hg]; exact (one_yes (by omega)).symm
    clear f2 hg f0 f1
    subst hG
    go_enter Tryz.func109, Tryz.ntmps109
    go_wp2
    go_ret
    exact ⟨rfl, rfl⟩
  have g2 : ((c.toNat : Int) == 40) = false := beq_eq_false_iff_ne.2 (by omega)
  by_cases f3 : c.toNat = 41
  · have g3 : ((c.toNat : Int) == 41) = true := by simp; omega
    have hG : 1 = G := by rw [← hg]; exact (one_yes (by omega)).symm
    clear f3 hg f0 f1 f2
    subst hG
    go_enter Tryz.func109, Tryz.ntmps109
    go_wp2
    go_ret
    exact ⟨rfl, rfl⟩
  have g3 : ((c.toNat : Int) == 41) = false := beq_eq_false_iff_ne.2 (by omega)
  by_cases f4 : c.toNat = 61
  · have g4 : ((c.toNat : Int) == 61) = true := by simp; omega
    have hG : 1 = G := by rw [← hg]; exact (one_yes (by omega)).symm
    clear f4 hg f0 f1 f2 f3
    subst hG
    go_enter Tryz.func109, Tryz.ntmps109
    go_wp2
    go_ret
    exact ⟨rfl, rfl⟩
  have g4 : ((c.toNat : Int) == 61) = false := beq_eq_false_iff_ne.2 (by omega)
  by_cases f5 : c.toNat = 33
  · have g5 : ((c.toNat : Int) == 33) = true := by simp; omega
    have hG : 1 = G := by rw [← hg]; exact (one_yes (by omega)).symm
    clear f5 hg f0 f1 f2 f3 f4
    subst hG
    go_enter Tryz.func109, Tryz.ntmps109
    go_wp2
    go_ret
    exact ⟨rfl, rfl⟩
  have g5 : ((c.toNat : Int) == 33) = false := beq_eq_false_iff_ne.2 (by omega)
  by_cases f6 : c.toNat = 60
  · have g6 : ((c.toNat : Int) == 60) = true := by simp; omega
    have hG : 1 = G := by rw [← hg]; exact (one_yes (by omega)).symm
    clear f6 hg f0 f1 f2 f3 f4 f5
    subst hG
    go_enter Tryz.func109, Tryz.ntmps109
    go_wp2
    go_ret
    exact ⟨rfl, rfl⟩
  have g6 : ((c.toNat : Int) == 60) = false := beq_eq_false_iff_ne.2 (by omega)
  by_cases f7 : c.toNat = 43
  · have g7 : ((c.toNat : Int) == 43) = true := by simp; omega
    have hG : 1 = G := by rw [← hg]; exact (one_yes (by omega)).symm
    clear f7 hg f0 f1 f2 f3 f4 f5 f6
    subst hG
    go_enter Tryz.func109, Tryz.ntmps109
    go_wp2
    go_ret
    exact ⟨rfl, rfl⟩
  have g7 : ((c.toNat : Int) == 43) = false := beq_eq_false_iff_ne.2 (by omega)
  by_cases f8 : c.toNat = 45
  · have g8 : ((c.toNat : Int) == 45) = true := by simp; omega
    have hG : 1 = G := by rw [← hg]; exact (one_yes (by omega)).symm
    clear f8 hg f0 f1 f2 f3 f4 f5 f6 f7
    subst hG
    go_enter Tryz.func109, Tryz.ntmps109
    go_wp2
    go_ret
    exact ⟨rfl, rfl⟩
  have g8 : ((c.toNat : Int) == 45) = false := beq_eq_false_iff_ne.2 (by omega)
  by_cases f9 : c.toNat = 42
  · have g9 : ((c.toNat : Int) == 42) = true := by simp; omega
    have hG : 1 = G := by rw [← hg]; exact (one_yes (by omega)).symm
    clear f9 hg f0 f1 f2 f3 f4 f5 f6 f7 f8
    subst hG
    go_enter Tryz.func109, Tryz.ntmps109
    go_wp2
    go_ret
    exact ⟨rfl, rfl⟩
  have g9 : ((c.toNat : Int) == 42) = false := beq_eq_false_iff_ne.2 (by omega)
  have hG : 0 = G := by rw [← hg]; exact (one_no (by omega)).symm
  clear hg f0 f1 f2 f3 f4 f5 f6 f7 f8 f9
  subst hG
  go_enter Tryz.func109, Tryz.ntmps109
  go_wp2
  go_ret
  exact ⟨rfl, rfl⟩

set_option maxHeartbeats 2000000 in
theorem pSign_two (s : ByteArray) (w : World) (c : UInt8) (h1 : 1 < s.size) (hs0 : s[0] = c) (G : Nat) (hg : one (c.toNat : Int) = G)
    (p0 : ((s.extract 0 2).toList == [61, 61]) = false)
    (p1 : ((s.extract 0 2).toList == [33, 61]) = false)
    (p2 : ((s.extract 0 2).toList == [60, 61]) = false)
    (p3 : ((s.extract 0 2).toList == [38, 38]) = false)
    (p4 : ((s.extract 0 2).toList == [124, 124]) = false)
    : Calls Tryz.prog 109 #[.string s] w fun e w' => e = .returned (.int .i64 (G : Int)) ∧ w = w' := by
  have hz : (0 : Int) < (s.size : Int) := by omega
  have hz1 : (1 : Int) < (s.size : Int) := by omega
  have hz2 : (2 : Int) ≤ (s.size : Int) := by omega
  by_cases f0 : c.toNat = 123
  · have g0 : ((c.toNat : Int) == 123) = true := by simp; omega
    have hG : 1 = G := by rw [← hg]; exact (one_yes (by omega)).symm
    clear f0 hg
    subst hG
    go_enter Tryz.func109, Tryz.ntmps109
    go_wp2
    go_ret
    exact ⟨rfl, rfl⟩
  have g0 : ((c.toNat : Int) == 123) = false := beq_eq_false_iff_ne.2 (by omega)
  by_cases f1 : c.toNat = 125
  · have g1 : ((c.toNat : Int) == 125) = true := by simp; omega
    have hG : 1 = G := by rw [← hg]; exact (one_yes (by omega)).symm
    clear f1 hg f0
    subst hG
    go_enter Tryz.func109, Tryz.ntmps109
    go_wp2
    go_ret
    exact ⟨rfl, rfl⟩
  have g1 : ((c.toNat : Int) == 125) = false := beq_eq_false_iff_ne.2 (by omega)
  by_cases f2 : c.toNat = 40
  · have g2 : ((c.toNat : Int) == 40) = true := by simp; omega
    have hG : 1 = G := by rw [← hg]; exact (one_yes (by omega)).symm
    clear f2 hg f0 f1
    subst hG
    go_enter Tryz.func109, Tryz.ntmps109
    go_wp2
    go_ret
    exact ⟨rfl, rfl⟩
  have g2 : ((c.toNat : Int) == 40) = false := beq_eq_false_iff_ne.2 (by omega)
  by_cases f3 : c.toNat = 41
  · have g3 : ((c.toNat : Int) == 41) = true := by simp; omega
    have hG : 1 = G := by rw [← hg]; exact (one_yes (by omega)).symm
    clear f3 hg f0 f1 f2
    subst hG
    go_enter Tryz.func109, Tryz.ntmps109
    go_wp2
    go_ret
    exact ⟨rfl, rfl⟩
  have g3 : ((c.toNat : Int) == 41) = false := beq_eq_false_iff_ne.2 (by omega)
  by_cases f4 : c.toNat = 61
  · have g4 : ((c.toNat : Int) == 61) = true := by simp; omega
    have hG : 1 = G := by rw [← hg]; exact (one_yes (by omega)).symm
    clear f4 hg f0 f1 f2 f3
    subst hG
    go_enter Tryz.func109, Tryz.ntmps109
    go_wp2
    go_ret
    exact ⟨rfl, rfl⟩
  have g4 : ((c.toNat : Int) == 61) = false := beq_eq_false_iff_ne.2 (by omega)
  by_cases f5 : c.toNat = 33
  · have g5 : ((c.toNat : Int) == 33) = true := by simp; omega
    have hG : 1 = G := by rw [← hg]; exact (one_yes (by omega)).symm
    clear f5 hg f0 f1 f2 f3 f4
    subst hG
    go_enter Tryz.func109, Tryz.ntmps109
    go_wp2
    go_ret
    exact ⟨rfl, rfl⟩
  have g5 : ((c.toNat : Int) == 33) = false := beq_eq_false_iff_ne.2 (by omega)
  by_cases f6 : c.toNat = 60
  · have g6 : ((c.toNat : Int) == 60) = true := by simp; omega
    have hG : 1 = G := by rw [← hg]; exact (one_yes (by omega)).symm
    clear f6 hg f0 f1 f2 f3 f4 f5
    subst hG
    go_enter Tryz.func109, Tryz.ntmps109
    go_wp2
    go_ret
    exact ⟨rfl, rfl⟩
  have g6 : ((c.toNat : Int) == 60) = false := beq_eq_false_iff_ne.2 (by omega)
  by_cases f7 : c.toNat = 43
  · have g7 : ((c.toNat : Int) == 43) = true := by simp; omega
    have hG : 1 = G := by rw [← hg]; exact (one_yes (by omega)).symm
    clear f7 hg f0 f1 f2 f3 f4 f5 f6
    subst hG
    go_enter Tryz.func109, Tryz.ntmps109
    go_wp2
    go_ret
    exact ⟨rfl, rfl⟩
  have g7 : ((c.toNat : Int) == 43) = false := beq_eq_false_iff_ne.2 (by omega)
  by_cases f8 : c.toNat = 45
  · have g8 : ((c.toNat : Int) == 45) = true := by simp; omega
    have hG : 1 = G := by rw [← hg]; exact (one_yes (by omega)).symm
    clear f8 hg f0 f1 f2 f3 f4 f5 f6 f7
    subst hG
    go_enter Tryz.func109, Tryz.ntmps109
    go_wp2
    go_ret
    exact ⟨rfl, rfl⟩
  have g8 : ((c.toNat : Int) == 45) = false := beq_eq_false_iff_ne.2 (by omega)
  by_cases f9 : c.toNat = 42
  · have g9 : ((c.toNat : Int) == 42) = true := by simp; omega
    have hG : 1 = G := by rw [← hg]; exact (one_yes (by omega)).symm
    clear f9 hg f0 f1 f2 f3 f4 f5 f6 f7 f8
    subst hG
    go_enter Tryz.func109, Tryz.ntmps109
    go_wp2
    go_ret
    exact ⟨rfl, rfl⟩
  have g9 : ((c.toNat : Int) == 42) = false := beq_eq_false_iff_ne.2 (by omega)
  have hG : 0 = G := by rw [← hg]; exact (one_no (by omega)).symm
  clear hg f0 f1 f2 f3 f4 f5 f6 f7 f8 f9
  subst hG
  go_enter Tryz.func109, Tryz.ntmps109
  go_wp2
  go_ret
  exact ⟨rfl, rfl⟩

set_option maxHeartbeats 2000000 in
theorem pSign_any (s : ByteArray) (w : World) (h0 : 0 < s.size) :
    Calls Tryz.prog 109 #[.string s] w fun e w' => e = .returned (.int .i64 (sgn (runes (bl s)) : Int)) ∧ w = w' := by
  have hlen : (bl s).length = s.size := rfl
  by_cases h1 : 1 < s.size
  · obtain ⟨c, d, r, hl⟩ : ∃ c d r, bl s = c :: d :: r := by
      match hb : bl s with
      | [] => rw [hb] at hlen; simp at hlen; omega
      | [_] => rw [hb] at hlen; simp at hlen; omega
      | c :: d :: r => exact ⟨c, d, r, rfl⟩
    have hs0 : s[0] = c := by
      have : s[0] = (bl s)[0]'(by omega) := rfl
      rw [this]; simp [hl]
    have hq : ∀ x y : UInt8, ((s.extract 0 2).toList == [x, y]) = (decide (c = x) && decide (d = y)) := fun x y => two_beq s c d x y r hl
    rw [hl, sgn_two]
    have hz : (0 : Int) < (s.size : Int) := by omega
    have hz1 : (1 : Int) < (s.size : Int) := by omega
    have hz2 : (2 : Int) ≤ (s.size : Int) := by omega
    by_cases a0 : c = 61 ∧ d = 61
    · have p0 : ((s.extract 0 2).toList == [61, 61]) = true := by rw [hq]; simp [a0.1, a0.2]
      have hG : (if pair (c.toNat : Int) (d.toNat : Int) = true then 2 else one (c.toNat : Int)) = 2 := by rw [a0.1, a0.2]; decide
      rw [hG]
      clear hq a0 hG
      go_enter Tryz.func109, Tryz.ntmps109
      go_wp2
      go_ret
      exact ⟨rfl, rfl⟩
    have p0 : ((s.extract 0 2).toList == [61, 61]) = false := by rw [hq]; exact and_no a0
    by_cases a1 : c = 33 ∧ d = 61
    · have p1 : ((s.extract 0 2).toList == [33, 61]) = true := by rw [hq]; simp [a1.1, a1.2]
      have hG : (if pair (c.toNat : Int) (d.toNat : Int) = true then 2 else one (c.toNat : Int)) = 2 := by rw [a1.1, a1.2]; decide
      rw [hG]
      clear hq a1 hG a0
      go_enter Tryz.func109, Tryz.ntmps109
      go_wp2
      go_ret
      exact ⟨rfl, rfl⟩
    have p1 : ((s.extract 0 2).toList == [33, 61]) = false := by rw [hq]; exact and_no a1
    by_cases a2 : c = 60 ∧ d = 61
    · have p2 : ((s.extract 0 2).toList == [60, 61]) = true := by rw [hq]; simp [a2.1, a2.2]
      have hG : (if pair (c.toNat : Int) (d.toNat : Int) = true then 2 else one (c.toNat : Int)) = 2 := by rw [a2.1, a2.2]; decide
      rw [hG]
      clear hq a2 hG a0 a1
      go_enter Tryz.func109, Tryz.ntmps109
      go_wp2
      go_ret
      exact ⟨rfl, rfl⟩
    have p2 : ((s.extract 0 2).toList == [60, 61]) = false := by rw [hq]; exact and_no a2
    by_cases a3 : c = 38 ∧ d = 38
    · have p3 : ((s.extract 0 2).toList == [38, 38]) = true := by rw [hq]; simp [a3.1, a3.2]
      have hG : (if pair (c.toNat : Int) (d.toNat : Int) = true then 2 else one (c.toNat : Int)) = 2 := by rw [a3.1, a3.2]; decide
      rw [hG]
      clear hq a3 hG a0 a1 a2
      go_enter Tryz.func109, Tryz.ntmps109
      go_wp2
      go_ret
      exact ⟨rfl, rfl⟩
    have p3 : ((s.extract 0 2).toList == [38, 38]) = false := by rw [hq]; exact and_no a3
    by_cases a4 : c = 124 ∧ d = 124
    · have p4 : ((s.extract 0 2).toList == [124, 124]) = true := by rw [hq]; simp [a4.1, a4.2]
      have hG : (if pair (c.toNat : Int) (d.toNat : Int) = true then 2 else one (c.toNat : Int)) = 2 := by rw [a4.1, a4.2]; decide
      rw [hG]
      clear hq a4 hG a0 a1 a2 a3
      go_enter Tryz.func109, Tryz.ntmps109
      go_wp2
      go_ret
      exact ⟨rfl, rfl⟩
    have p4 : ((s.extract 0 2).toList == [124, 124]) = false := by rw [hq]; exact and_no a4
    have hp : pair (c.toNat : Int) (d.toNat : Int) = false := by
      have hi : ∀ (x : UInt8) (k : Nat), (k : Int) = (x.toNat : Int) → x = UInt8.ofNat k := fun x k h => by
        have e : k = x.toNat := by omega
        rw [e]; simp
      refine decide_eq_false ?_
      rintro (⟨hb, ha⟩ | ⟨ha, hb⟩ | ⟨ha, hb⟩)
      · rcases ha with ha | ha | ha
        · exact a0 ⟨hi c 61 ha.symm, hi d 61 hb.symm⟩
        · exact a1 ⟨hi c 33 ha.symm, hi d 61 hb.symm⟩
        · exact a2 ⟨hi c 60 ha.symm, hi d 61 hb.symm⟩
      · exact a3 ⟨hi c 38 ha.symm, hi d 38 hb.symm⟩
      · exact a4 ⟨hi c 124 ha.symm, hi d 124 hb.symm⟩
    have hG : (if pair (c.toNat : Int) (d.toNat : Int) = true then 2 else one (c.toNat : Int)) = one (c.toNat : Int) := by rw [hp]; rfl
    rw [hG]
    exact pSign_two s w c h1 hs0 _ rfl p0 p1 p2 p3 p4
  · obtain ⟨c, hl⟩ : ∃ c, bl s = [c] := by
      match hb : bl s with
      | [] => rw [hb] at hlen; simp at hlen; omega
      | [c] => exact ⟨c, rfl⟩
      | _ :: _ :: _ => rw [hb] at hlen; simp at hlen; omega
    have hs0 : s[0] = c := by
      have : s[0] = (bl s)[0]'(by omega) := rfl
      rw [this]; simp [hl]
    rw [hl, sgn_one]
    exact pSign_one s w c h0 h1 hs0 _ rfl
end Go.Proofs.YtccmmkhcacglhaaGreatDoor
