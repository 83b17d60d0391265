
/- What the program's Name, number, behind and End do. -/
import Derived.Test.YtiddccohldjjcaaDoorGlyP
namespace Go.Proofs.YtiddccohldjjcaaDoor
open Go.RowKit Go.Lib
set_option linter.unusedSimpArgs false
set_option linter.unusedVariables false

theorem nameS_short {l : List UInt8} (h : spb l ≠ l.length) : nameS l = false := by
  unfold nameS
  have : ((spb l : Int) == (l.length : Int)) = false := beq_eq_false_iff_ne.2 (by omega)
  rw [this]; simp
theorem nameS_head {l : List UInt8} (h : letter (nx l).1 = false) : nameS l = false := by
  unfold nameS
  rw [h]; simp
theorem nameS_all {l : List UInt8} {m : Nat} (h1 : letter (nx l).1 = true) (h2 : spb l = l.length) (h3 : spn (runes l) = m) : nameS l = decide ((m : Int) ≤ 24) := by
  unfold nameS
  rw [h1, h2, h3]
  rw [Bool.eq_iff_iff]
  simp
  omega

set_option maxHeartbeats 1000000 in
theorem pName_any (s : ByteArray) (w : World) (hs : s.size ≤ 140737488351232) :
    Calls Tryd.prog 52 #[.string s] w fun e w' => e = .returned (.bool (nameS (bl s))) ∧ Below w.heap.size w w' := by
  go_enter Tryd.func52, Tryd.ntmps52
  go_wp2
  go_loopw [3] (fun c wr => ∃ (m k : Nat), c = .int .i64 (m : Int) ∧ wr.heap[w.heap.size]? = some (.stringIter s k) ∧ Hid (Adv (bl s) m k) ∧ (m = 0 → k = 0) ∧ Hid (0 < m → letter (nx (bl s)).1 = true) ∧ Below w.heap.size w wr) (fun _ wr => s.size - wr.iterPos w.heap.size)
  case atStart => exact ⟨0, 0, rfl, World.iter_heap w s 0, Adv.zero _, fun _ => rfl, fun h => by omega, (Below.refl _ w).alloc (Nat.le_refl _) _⟩
  case round =>
    obtain ⟨m, k, rfl, hit, ha, hm0, hlt, hb⟩ := hrel
    have hle := ha.out.le
    have hfw := ha.out.few
    rw [bl_length] at hle
    by_cases hk : k < s.size
    · have hnx : ∀ ty, (Instr.next (.pointer (some ⟨w.heap.size, 0, none⟩)) true ty).run Tryd.prog wr = _ := fun ty => Lib.run_next_any_at wr w.heap.size s k ty hit hk
      obtain ⟨d1, d2⟩ := dec_nx hk
      have hne := drop_ne (l := bl s) (by rw [bl_length]; exact hk)
      have hps := nx_pos hne
      have hnl := nx_le hne
      rw [List.length_drop, bl_length] at hnl
      obtain ⟨r, hr⟩ : ∃ r, (nx ((bl s).drop k)).1 = r := ⟨_, rfl⟩
      obtain ⟨q, hq⟩ : ∃ q, (nx ((bl s).drop k)).2 = q := ⟨_, rfl⟩
      rw [hr] at d1
      rw [hq] at d2 hps hnl
      rw [d1, d2] at hnx
      have hit2 := Lib.iterAt_heap wr w.heap.size s k (k + q) hit
      have hb2 := Lib.below_iterAt hb (k := w.heap.size) (Nat.le_refl _) s (k + q)
      have h26 := fun w1 => pInside_any (rn r) w1
      have h27 := fun w1 => pLetter_any (rn r) w1
      rw [insd_rn] at h26
      rw [letter_rn] at h27
      cases hi : insd r with
      | true =>
        rw [hi] at h26
        have hA : Hid (Adv (bl s) (m + 1) (k + q)) := by have := ha.out.step (by rw [bl_length]; exact hk) (by rw [hr]; exact hi); rw [hq] at this; exact this
        by_cases hmz : m = 0
        · have e0 : ((m : Int) == 0) = true := by simp; omega
          have hk0 := hm0 hmz
          have hrr : (nx (bl s)).1 = r := by rw [← hr, hk0]; rfl
          cases hl : letter r with
          | true =>
            rw [hl] at h27
            have hL : Hid (0 < m + 1 → letter (nx (bl s)).1 = true) := fun _ => by rw [hrr]; exact hl
            clear hr hq hne hi d1 d2 hrr hl hm0 hmz hk0
            go_wp2_with (first
              | (go_at_call 68; refine (h26 _).mono ?_; rintro e w' ⟨rfl, rfl⟩)
              | (go_at_call 48; refine (h27 _).mono ?_; rintro e w' ⟨rfl, rfl⟩))
            go_roundw
            case rel => exact ⟨m + 1, k + q, by go_num, hit2, hA, fun h => by omega, hL, hb2⟩
            case measure => rw [iterPos_of hit2, iterPos_of hit]; omega
          | false =>
            rw [hl] at h27
            have hF : Hid (nameS (bl s) = false) := nameS_head (by rw [hrr]; exact hl)
            clear hr hq hne hi d1 d2 hrr hl hm0 hmz hk0
            go_wp2_with (first
              | (go_at_call 68; refine (h26 _).mono ?_; rintro e w' ⟨rfl, rfl⟩)
              | (go_at_call 48; refine (h27 _).mono ?_; rintro e w' ⟨rfl, rfl⟩))
            go_ret
            rw [hF.out]
            exact ⟨rfl, hb2⟩
        · have e0 : ((m : Int) == 0) = false := beq_eq_false_iff_ne.2 (by omega)
          have hL : Hid (0 < m + 1 → letter (nx (bl s)).1 = true) := fun _ => hlt.out (by omega)
          clear hr hq hne hi d1 d2 hm0 hmz
          go_wp2_with (first
            | (go_at_call 68; refine (h26 _).mono ?_; rintro e w' ⟨rfl, rfl⟩))
          go_roundw
          case rel => exact ⟨m + 1, k + q, by go_num, hit2, hA, fun h => by omega, hL, hb2⟩
          case measure => rw [iterPos_of hit2, iterPos_of hit]; omega
      | false =>
        rw [hi] at h26
        have hE : Hid (spn (runes (bl s)) = m) := ha.out.stop (.inr (by rw [hr]; exact hi))
        have hZ : Hid (spb (bl s) = k) := by show spb (bl s) = k; unfold spb; rw [hE.out]; exact ha.out.size
        have hF : Hid (nameS (bl s) = false) := nameS_short (by rw [hZ.out, bl_length]; omega)
        clear hr hq hne hi d1 d2 hm0
        go_wp2_with (first
          | (go_at_call 68; refine (h26 _).mono ?_; rintro e w' ⟨rfl, rfl⟩))
        go_ret
        rw [hF.out]
        exact ⟨rfl, hb2⟩
    · have hnx : ∀ ty, (Instr.next (.pointer (some ⟨w.heap.size, 0, none⟩)) true ty).run Tryd.prog wr = _ := fun ty => Lib.run_next_end_at wr w.heap.size s k ty hit hk
      have hE : Hid (spn (runes (bl s)) = m) := ha.out.stop (.inl (by rw [bl_length]; omega))
      have hZ : Hid (spb (bl s) = k) := by show spb (bl s) = k; unfold spb; rw [hE.out]; exact ha.out.size
      have hks : k = s.size := by omega
      by_cases hmz : m = 0
      · have hF : Hid (nameS (bl s) = false) := by
          have : bl s = [] := List.eq_nil_of_length_eq_zero (by rw [bl_length]; have := hm0 hmz; omega)
          show nameS (bl s) = false
          rw [this]; rfl
        subst hmz
        clear hm0
        go_wp2
        go_ret
        rw [hF.out]
        exact ⟨rfl, hb⟩
      · have hF : Hid (nameS (bl s) = decide ((m : Int) ≤ 24)) := nameS_all (hlt.out (by omega)) (by rw [hZ.out, hks]; rfl) hE.out
        have e1 : (1 : Int) ≤ (m : Int) := by omega
        clear hm0
        go_wp2
        all_goals go_ret
        all_goals rw [hF.out]
        all_goals exact ⟨rfl, hb⟩

theorem nx_dB {l : List UInt8} {k : Nat} {d : UInt8} (h : k < l.length) (hd : l[k] = d) : dgt (nx (l.drop k)).1 = dB d ∧ (dB d = true → nx (l.drop k) = ((d.toNat : Int), 1)) := by
  have e : l.drop k = d :: l.drop (k + 1) := by rw [List.drop_eq_getElem_cons h, hd]
  rw [e]
  by_cases hs : d.toNat < 128
  · rw [nx_ascii hs]
    refine ⟨?_, fun _ => rfl⟩
    unfold dgt dB
    rw [Bool.eq_iff_iff]
    simp
    omega
  · have hb := nx_big hs (l.drop (k + 1))
    have e1 : dB d = false := dB_no (by omega)
    rw [e1]
    refine ⟨decide_eq_false (by omega), fun h => by cases h⟩

set_option maxHeartbeats 2000000 in
theorem pNumber_any (s : ByteArray) (w : World) (hs : s.size ≤ 140737488351232) :
    Calls Tryd.prog 53 #[.string s] w fun e w' => e = .returned (.bool (numB (bl s))) ∧ Below w.heap.size w w' := by
  have hlen : (bl s).length = s.size := rfl
  by_cases h1 : s.size < 1
  · rw [numB_len (by omega)]
    have hz : s = ⟨#[]⟩ := by
      apply ByteArray.ext
      exact Array.eq_empty_of_size_eq_zero (show s.data.size = 0 by show s.size = 0; omega)
    subst hz
    go_enter Tryd.func53, Tryd.ntmps53
    go_wp2
    go_ret
    exact ⟨rfl, Below.refl _ _⟩
  have he0 : (s.toList == []) = false := by
    rw [ByteArray.toList_eq, beq_eq_false_iff_ne]
    intro e
    have := congrArg List.length e
    simp at this
    have h2 : s.size = 0 := by show s.data.size = 0; rw [this]; rfl
    omega
  by_cases h2 : 10 < s.size
  · rw [numB_len (by omega)]
    have e2 : (s.size : Int) > 10 := by omega
    go_enter Tryd.func53, Tryd.ntmps53
    go_wp2
    go_ret
    exact ⟨rfl, Below.refl _ _⟩
  have e2 : ¬ (s.size : Int) > 10 := by omega
  obtain ⟨c, r, hl⟩ : ∃ c r, bl s = c :: r := by
    match hb : bl s with
    | [] => rw [hb] at hlen; simp at hlen; omega
    | c :: r => exact ⟨c, r, rfl⟩
  have hs0 : s[0] = c := by rw [get_bl]; simp [hl]
  have hz : (0 : Int) < (s.size : Int) := by omega
  by_cases h3 : c.toNat = 48 ∧ 1 < s.size
  · rw [hl, numB_nought h3.1 (by rw [← hl, hlen]; exact h3.2)]
    have e3 : ((c.toNat : Int) == 48) = true := by simp; omega
    have e4 : (s.size : Int) > 1 := by omega
    clear h3
    go_enter Tryd.func53, Tryd.ntmps53
    go_wp2
    go_ret
    exact ⟨rfl, Below.refl _ _⟩
  have hL1 : 1 ≤ (bl s).length ∧ (bl s).length ≤ 10 := by omega
  have hL2 : ¬ (((bl s).headD 0).toNat = 48 ∧ 1 < (bl s).length) := by rw [hlen, hl]; exact h3
  have HA : Hid ((bl s).all dB = true → numB (bl s) = decide (valB 0 (bl s) ≤ 1000000000)) := fun h => numB_all hL1 hL2 h
  have H0 : Hid (valB 0 ((bl s).drop 0) = valB 0 (bl s)) := rfl
  clear hL2 hL1 hl
  by_cases h1s : 1 < s.size
  · have e4 : (s.size : Int) > 1 := by omega
    have e3 : ((c.toNat : Int) == 48) = false := beq_eq_false_iff_ne.2 (by omega)
    clear h3
    go_enter Tryd.func53, Tryd.ntmps53
    go_wp2
    go_loopw [3] (fun a wr => ∃ (n : Int) (k : Nat), a = .int .i64 n ∧ wr.heap[w.heap.size]? = some (.stringIter s k) ∧ k ≤ s.size ∧ Hid (valB n ((bl s).drop k) = valB 0 (bl s)) ∧ Hid (((bl s).take k).all dB = true) ∧ 0 ≤ n ∧ Hid (n < 10 ^ k) ∧ Below w.heap.size w wr) (fun _ wr => s.size - wr.iterPos w.heap.size)
    case atStart => exact ⟨0, 0, rfl, World.iter_heap w s 0, by omega, H0, rfl, by omega, (show (0 : Int) < 10 ^ 0 by decide), (Below.refl _ w).alloc (Nat.le_refl _) _⟩
    case round =>
      obtain ⟨n, k, rfl, hit, hk, hv, ha, hn0, hn1, hb⟩ := hrel
      by_cases hlt : k < s.size
      · have hnx : ∀ ty, (Instr.next (.pointer (some ⟨w.heap.size, 0, none⟩)) true ty).run Tryd.prog wr = _ := fun ty => Lib.run_next_any_at wr w.heap.size s k ty hit hlt
        obtain ⟨d1, d2⟩ := dec_nx hlt
        have hkl : k < (bl s).length := by rw [hlen]; exact hlt
        obtain ⟨d, hdl⟩ : ∃ d, (bl s)[k] = d := ⟨_, rfl⟩
        obtain ⟨f1, f2⟩ := nx_dB hkl hdl
        have h26 := fun w1 => pDigit_any (rn (nx ((bl s).drop k)).1) w1
        rw [dgt_rn, f1] at h26
        have hp := pow_le9 (k := k) (by omega)
        have hnb : n < 1000000000 := by have := hn1.out; omega
        cases hdg : dB d with
        | true =>
          rw [hdg] at h26
          have hdd : 48 ≤ d.toNat ∧ d.toNat ≤ 57 := of_decide_eq_true hdg
          rw [f2 hdg] at d1 d2 h26
          have hrn : rn ((d.toNat : Int), 1).1 = (d.toNat : Int) := by unfold rn; rw [if_neg (by simp only; omega)]
          rw [hrn] at d1 h26
          rw [d1, d2] at hnx
          have hit2 := Lib.iterAt_heap wr w.heap.size s k (k + 1) hit
          have hb2 := Lib.below_iterAt hb (k := w.heap.size) (Nat.le_refl _) s (k + 1)
          have hA : Hid (((bl s).take (k + 1)).all dB = true) := all_step ha.out hkl (by rw [hdl]; exact hdg)
          have hV : Hid (valB (10 * n + ((d.toNat : Int) - 48)) ((bl s).drop (k + 1)) = valB 0 (bl s)) := by have := valB_step hv.out hkl; rw [hdl] at this; exact this
          have hN : Hid (10 * n + ((d.toNat : Int) - 48) < 10 ^ (k + 1)) := by show 10 * n + ((d.toNat : Int) - 48) < 10 ^ (k + 1); rw [pow_next]; have := hn1.out; omega
          have w1 : IntKind.i32.wrap ((d.toNat : Int) - 48) = (d.toNat : Int) - 48 := by rw [IntKind.wrap_i32]; omega
          have hN0 : 0 ≤ 10 * n + ((d.toNat : Int) - 48) := by omega
          clear hdl hp f1 f2 d1 d2 hdg hrn
          go_wp2_with (first
            | (go_at_call 50; refine (h26 _).mono ?_; rintro e w' ⟨rfl, rfl⟩))
          go_roundw
          case rel => exact ⟨_, k + 1, rfl, hit2, by omega, hV, hA, hN0, hN, hb2⟩
          case measure => rw [iterPos_of hit2, iterPos_of hit]; omega
        | false =>
          rw [hdg] at h26
          have hF : Hid (numB (bl s) = false) := numB_not (all_no (k := k) hkl (by rw [hdl]; exact hdg))
          have hps := nx_pos (drop_ne hkl)
          obtain ⟨x, hx⟩ : ∃ x, rn (nx ((bl s).drop k)).1 = x := ⟨_, rfl⟩
          obtain ⟨q, hq⟩ : ∃ q, (nx ((bl s).drop k)).2 = q := ⟨_, rfl⟩
          rw [hx] at d1 h26
          rw [hq] at d2
          rw [d1, d2] at hnx
          have hb2 := Lib.below_iterAt hb (k := w.heap.size) (Nat.le_refl _) s (k + q)
          clear hdl hp f1 f2 d1 d2 hdg hx hq hps
          go_wp2_with (first
            | (go_at_call 50; refine (h26 _).mono ?_; rintro e w' ⟨rfl, rfl⟩))
          go_ret
          rw [hF.out]
          exact ⟨rfl, hb2⟩
      · have hnx : ∀ ty, (Instr.next (.pointer (some ⟨w.heap.size, 0, none⟩)) true ty).run Tryd.prog wr = _ := fun ty => Lib.run_next_end_at wr w.heap.size s k ty hit hlt
        have hall : Hid ((bl s).all dB = true) := by have := ha.out; rw [List.take_of_length_le (by rw [hlen]; omega)] at this; exact this
        have hval : Hid (valB 0 (bl s) = n) := (valB_end hv.out (by rw [hlen]; omega)).symm
        have hF : Hid (numB (bl s) = decide (n ≤ 1000000000)) := by show numB (bl s) = _; rw [HA.out hall.out, hval.out]
        clear hn0
        go_wp2
        all_goals go_ret
        all_goals rw [hF.out]
        all_goals exact ⟨rfl, hb⟩
  · have e4 : ¬ (s.size : Int) > 1 := by omega
    clear h3
    go_enter Tryd.func53, Tryd.ntmps53
    go_wp2
    go_loopw [3] (fun a wr => ∃ (n : Int) (k : Nat), a = .int .i64 n ∧ wr.heap[w.heap.size]? = some (.stringIter s k) ∧ k ≤ s.size ∧ Hid (valB n ((bl s).drop k) = valB 0 (bl s)) ∧ Hid (((bl s).take k).all dB = true) ∧ 0 ≤ n ∧ Hid (n < 10 ^ k) ∧ Below w.heap.size w wr) (fun _ wr => s.size - wr.iterPos w.heap.size)
    case atStart => exact ⟨0, 0, rfl, World.iter_heap w s 0, by omega, H0, rfl, by omega, (show (0 : Int) < 10 ^ 0 by decide), (Below.refl _ w).alloc (Nat.le_refl _) _⟩
    case round =>
      obtain ⟨n, k, rfl, hit, hk, hv, ha, hn0, hn1, hb⟩ := hrel
      by_cases hlt : k < s.size
      · have hnx : ∀ ty, (Instr.next (.pointer (some ⟨w.heap.size, 0, none⟩)) true ty).run Tryd.prog wr = _ := fun ty => Lib.run_next_any_at wr w.heap.size s k ty hit hlt
        obtain ⟨d1, d2⟩ := dec_nx hlt
        have hkl : k < (bl s).length := by rw [hlen]; exact hlt
        obtain ⟨d, hdl⟩ : ∃ d, (bl s)[k] = d := ⟨_, rfl⟩
        obtain ⟨f1, f2⟩ := nx_dB hkl hdl
        have h26 := fun w1 => pDigit_any (rn (nx ((bl s).drop k)).1) w1
        rw [dgt_rn, f1] at h26
        have hp := pow_le9 (k := k) (by omega)
        have hnb : n < 1000000000 := by have := hn1.out; omega
        cases hdg : dB d with
        | true =>
          rw [hdg] at h26
          have hdd : 48 ≤ d.toNat ∧ d.toNat ≤ 57 := of_decide_eq_true hdg
          rw [f2 hdg] at d1 d2 h26
          have hrn : rn ((d.toNat : Int), 1).1 = (d.toNat : Int) := by unfold rn; rw [if_neg (by simp only; omega)]
          rw [hrn] at d1 h26
          rw [d1, d2] at hnx
          have hit2 := Lib.iterAt_heap wr w.heap.size s k (k + 1) hit
          have hb2 := Lib.below_iterAt hb (k := w.heap.size) (Nat.le_refl _) s (k + 1)
          have hA : Hid (((bl s).take (k + 1)).all dB = true) := all_step ha.out hkl (by rw [hdl]; exact hdg)
          have hV : Hid (valB (10 * n + ((d.toNat : Int) - 48)) ((bl s).drop (k + 1)) = valB 0 (bl s)) := by have := valB_step hv.out hkl; rw [hdl] at this; exact this
          have hN : Hid (10 * n + ((d.toNat : Int) - 48) < 10 ^ (k + 1)) := by show 10 * n + ((d.toNat : Int) - 48) < 10 ^ (k + 1); rw [pow_next]; have := hn1.out; omega
          have w1 : IntKind.i32.wrap ((d.toNat : Int) - 48) = (d.toNat : Int) - 48 := by rw [IntKind.wrap_i32]; omega
          have hN0 : 0 ≤ 10 * n + ((d.toNat : Int) - 48) := by omega
          clear hdl hp f1 f2 d1 d2 hdg hrn
          go_wp2_with (first
            | (go_at_call 50; refine (h26 _).mono ?_; rintro e w' ⟨rfl, rfl⟩))
          go_roundw
          case rel => exact ⟨_, k + 1, rfl, hit2, by omega, hV, hA, hN0, hN, hb2⟩
          case measure => rw [iterPos_of hit2, iterPos_of hit]; omega
        | false =>
          rw [hdg] at h26
          have hF : Hid (numB (bl s) = false) := numB_not (all_no (k := k) hkl (by rw [hdl]; exact hdg))
          have hps := nx_pos (drop_ne hkl)
          obtain ⟨x, hx⟩ : ∃ x, rn (nx ((bl s).drop k)).1 = x := ⟨_, rfl⟩
          obtain ⟨q, hq⟩ : ∃ q, (nx ((bl s).drop k)).2 = q := ⟨_, rfl⟩
          rw [hx] at d1 h26
          rw [hq] at d2
          rw [d1, d2] at hnx
          have hb2 := Lib.below_iterAt hb (k := w.heap.size) (Nat.le_refl _) s (k + q)
          clear hdl hp f1 f2 d1 d2 hdg hx hq hps
          go_wp2_with (first
            | (go_at_call 50; refine (h26 _).mono ?_; rintro e w' ⟨rfl, rfl⟩))
          go_ret
          rw [hF.out]
          exact ⟨rfl, hb2⟩
      · have hnx : ∀ ty, (Instr.next (.pointer (some ⟨w.heap.size, 0, none⟩)) true ty).run Tryd.prog wr = _ := fun ty => Lib.run_next_end_at wr w.heap.size s k ty hit hlt
        have hall : Hid ((bl s).all dB = true) := by have := ha.out; rw [List.take_of_length_le (by rw [hlen]; omega)] at this; exact this
        have hval : Hid (valB 0 (bl s) = n) := (valB_end hv.out (by rw [hlen]; omega)).symm
        have hF : Hid (numB (bl s) = decide (n ≤ 1000000000)) := by show numB (bl s) = _; rw [HA.out hall.out, hval.out]
        clear hn0
        go_wp2
        all_goals go_ret
        all_goals rw [hF.out]
        all_goals exact ⟨rfl, hb⟩
end Go.Proofs.YtiddccohldjjcaaDoor
