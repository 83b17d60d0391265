
/- What the document's Number does. -/
import Derived.Test.YtiddccohldjjcaaDoorGlyS
namespace Go.Proofs.YtiddccohldjjcaaDoor
open Go.RowKit Go.Lib
set_option linter.unusedSimpArgs false
set_option linter.unusedVariables false

set_option maxHeartbeats 2000000 in
theorem refNumber_val (s : ByteArray) (w : World) (hs : s.size ≤ 140737488351232) :
    Calls Tryd.prog 35 #[.string s] w fun e w' => (∃ x : Int, e = .returned (.tuple #[.int .i64 x, .bool (numB (bl s))]) ∧ Hid (numB (bl s) = true → x = valB 0 (bl s))) ∧ w = w' := by
  have hlen : (bl s).length = s.size := rfl
  by_cases h1 : s.size < 1
  · rw [numB_len (by omega)]
    have e1 : (s.size : Int) < 1 := by omega
    go_enter Tryd.func35, Tryd.ntmps35
    go_wp2
    go_ret2
    first | exact ⟨⟨_, rfl, fun h => by cases h⟩, rfl⟩ | exact ⟨trivial, rfl⟩ | exact ⟨⟨_, rfl, (trivial : True)⟩, rfl⟩ | exact ⟨⟨_, rfl⟩, rfl⟩ | exact ⟨⟨⟨_, rfl⟩, trivial⟩, rfl⟩
  have e1 : ¬ (s.size : Int) < 1 := by omega
  by_cases h2 : 10 < s.size
  · rw [numB_len (by omega)]
    have e2 : (s.size : Int) > 10 := by omega
    go_enter Tryd.func35, Tryd.ntmps35
    go_wp2
    go_ret2
    first | exact ⟨⟨_, rfl, fun h => by cases h⟩, rfl⟩ | exact ⟨trivial, rfl⟩ | exact ⟨⟨_, rfl, (trivial : True)⟩, rfl⟩ | exact ⟨⟨_, rfl⟩, rfl⟩ | exact ⟨⟨⟨_, rfl⟩, trivial⟩, rfl⟩
  have e2 : ¬ (s.size : Int) > 10 := by omega
  obtain ⟨c, r, hl⟩ : ∃ c r, bl s = c :: r := by
    match hb : bl s with
    | [] => rw [hb] at hlen; simp at hlen; omega
    | c :: r => exact ⟨c, r, rfl⟩
  have hs0 : s[0] = c := by rw [get_bl]; simp [hl]
  have hz : (0 : Int) < (s.size : Int) := by omega
  by_cases h3 : c.toNat = 48 ∧ 1 < s.size
  · rw [hl, numB_nought h3.1 (by rw [← hl, hlen]; exact h3.2)]
    have e3 : ((c.toNat : Int) == 48) = true := by simp; omega
    have e4 : (s.size : Int) > 1 := by omega
    clear h3
    go_enter Tryd.func35, Tryd.ntmps35
    go_wp2
    go_ret2
    first | exact ⟨⟨_, rfl, fun h => by cases h⟩, rfl⟩ | exact ⟨trivial, rfl⟩ | exact ⟨⟨_, rfl, (trivial : True)⟩, rfl⟩ | exact ⟨⟨_, rfl⟩, rfl⟩ | exact ⟨⟨⟨_, rfl⟩, trivial⟩, rfl⟩
  have hL1 : 1 ≤ (bl s).length ∧ (bl s).length ≤ 10 := by omega
  have hL2 : ¬ (((bl s).headD 0).toNat = 48 ∧ 1 < (bl s).length) := by rw [hlen, hl]; exact h3
  have HA : Hid ((bl s).all dB = true → numB (bl s) = decide (valB 0 (bl s) ≤ 1000000000)) := fun h => numB_all hL1 hL2 h
  have H0 : Hid (valB 0 ((bl s).drop 0) = valB 0 (bl s)) := rfl
  have hgate : (((c.toNat : Int) == 48) && decide ((s.size : Int) > 1)) = false := by
    rw [Bool.and_eq_false_iff]
    rcases Decidable.not_and_iff_or_not.1 h3 with h | h
    · exact .inl (beq_eq_false_iff_ne.2 (by omega))
    · exact .inr (decide_eq_false (by omega))
  clear h3 hL2 hL1 hl
  cases hb : ((c.toNat : Int) == 48) with
  | true =>
    rw [hb, Bool.true_and] at hgate
    go_enter Tryd.func35, Tryd.ntmps35
    go_wp2
    go_loop [4, 5] (fun a b => ∃ (n : Int) (k : Nat), a = .int .i64 n ∧ b = .int .i64 (k : Int) ∧ k ≤ s.size ∧ Hid (valB n ((bl s).drop k) = valB 0 (bl s)) ∧ Hid (((bl s).take k).all dB = true) ∧ 0 ≤ n ∧ Hid (n < 10 ^ k)) (fun _ b => s.size - (RowKit.intOf b).toNat)
    case atStart => exact ⟨0, 0, rfl, rfl, by omega, H0, rfl, by omega, (show (0 : Int) < 10 ^ 0 by decide)⟩
    case round =>
      obtain ⟨n, k, rfl, rfl, hk, hv, ha, hn0, hn1⟩ := hrel
      by_cases hlt : k < s.size
      · have e5 : (k : Int) < (s.size : Int) := by omega
        have e6 : (0 : Int) ≤ (k : Int) := by omega
        obtain ⟨d, hd⟩ : ∃ d, s[k] = d := ⟨_, rfl⟩
        have hdl : (bl s)[k]'(by rw [hlen]; exact hlt) = d := by rw [← get_bl]; exact hd
        have hp := pow_le9 (k := k) (by omega)
        have hnb : n < 1000000000 := by have := hn1.out; omega
        by_cases hdg : 48 ≤ d.toNat ∧ d.toNat ≤ 57
        · have e7 : ¬ (d.toNat : Int) < 48 := by omega
          have e8 : ¬ (d.toNat : Int) > 57 := by omega
          have hA : Hid (((bl s).take (k + 1)).all dB = true) := all_step ha.out (by rw [hlen]; exact hlt) (by rw [hdl]; exact dB_yes hdg)
          have hV : Hid (valB (10 * n + ((d.toNat : Int) - 48)) ((bl s).drop (k + 1)) = valB 0 (bl s)) := by have := valB_step hv.out (by rw [hlen]; exact hlt); rw [hdl] at this; exact this
          have hN : Hid (10 * n + ((d.toNat : Int) - 48) < 10 ^ (k + 1)) := by show 10 * n + ((d.toNat : Int) - 48) < 10 ^ (k + 1); rw [pow_next]; have := hn1.out; omega
          have w1 : IntKind.u8.wrap ((d.toNat : Int) - 48) = (d.toNat : Int) - 48 := by rw [IntKind.wrap_u8]; omega
          have hN0 : 0 ≤ 10 * n + ((d.toNat : Int) - 48) := by omega
          clear hdl hp
          go_wp2
          go_round
          case rel => exact ⟨_, k + 1, rfl, by go_num, by omega, hV, hA, hN0, hN⟩
          case measure => simp [RowKit.intOf]; omega
        · have hF : Hid (numB (bl s) = false) := numB_not (all_no (k := k) (by rw [hlen]; exact hlt) (by rw [hdl]; exact dB_no hdg))
          clear hdl hp
          by_cases hlo : d.toNat < 48
          · have e7 : (d.toNat : Int) < 48 := by omega
            go_wp2
            go_ret2
            rw [hF.out]
            first | exact ⟨⟨_, rfl, fun h => by cases h⟩, rfl⟩ | exact ⟨trivial, rfl⟩ | exact ⟨⟨_, rfl, (trivial : True)⟩, rfl⟩ | exact ⟨⟨_, rfl⟩, rfl⟩ | exact ⟨⟨⟨_, rfl⟩, trivial⟩, rfl⟩
          · have e7 : ¬ (d.toNat : Int) < 48 := by omega
            have e8 : (d.toNat : Int) > 57 := by omega
            go_wp2
            go_ret2
            rw [hF.out]
            first | exact ⟨⟨_, rfl, fun h => by cases h⟩, rfl⟩ | exact ⟨trivial, rfl⟩ | exact ⟨⟨_, rfl, (trivial : True)⟩, rfl⟩ | exact ⟨⟨_, rfl⟩, rfl⟩ | exact ⟨⟨⟨_, rfl⟩, trivial⟩, rfl⟩
      · have e5 : ¬ (k : Int) < (s.size : Int) := by omega
        have hall : Hid ((bl s).all dB = true) := by have := ha.out; rw [List.take_of_length_le (by rw [hlen]; omega)] at this; exact this
        have hval : Hid (valB 0 (bl s) = n) := (valB_end hv.out (by rw [hlen]; omega)).symm
        have hF : Hid (numB (bl s) = decide (n ≤ 1000000000)) := by show numB (bl s) = _; rw [HA.out hall.out, hval.out]
        clear hn0
        go_wp2
        all_goals go_ret2
        all_goals rw [hF.out]
        all_goals exact ⟨⟨_, rfl, fun _ => hval.out.symm⟩, rfl⟩
  | false =>
    clear hgate
    go_enter Tryd.func35, Tryd.ntmps35
    go_wp2
    go_loop [4, 5] (fun a b => ∃ (n : Int) (k : Nat), a = .int .i64 n ∧ b = .int .i64 (k : Int) ∧ k ≤ s.size ∧ Hid (valB n ((bl s).drop k) = valB 0 (bl s)) ∧ Hid (((bl s).take k).all dB = true) ∧ 0 ≤ n ∧ Hid (n < 10 ^ k)) (fun _ b => s.size - (RowKit.intOf b).toNat)
    case atStart => exact ⟨0, 0, rfl, rfl, by omega, H0, rfl, by omega, (show (0 : Int) < 10 ^ 0 by decide)⟩
    case round =>
      obtain ⟨n, k, rfl, rfl, hk, hv, ha, hn0, hn1⟩ := hrel
      by_cases hlt : k < s.size
      · have e5 : (k : Int) < (s.size : Int) := by omega
        have e6 : (0 : Int) ≤ (k : Int) := by omega
        obtain ⟨d, hd⟩ : ∃ d, s[k] = d := ⟨_, rfl⟩
        have hdl : (bl s)[k]'(by rw [hlen]; exact hlt) = d := by rw [← get_bl]; exact hd
        have hp := pow_le9 (k := k) (by omega)
        have hnb : n < 1000000000 := by have := hn1.out; omega
        by_cases hdg : 48 ≤ d.toNat ∧ d.toNat ≤ 57
        · have e7 : ¬ (d.toNat : Int) < 48 := by omega
          have e8 : ¬ (d.toNat : Int) > 57 := by omega
          have hA : Hid (((bl s).take (k + 1)).all dB = true) := all_step ha.out (by rw [hlen]; exact hlt) (by rw [hdl]; exact dB_yes hdg)
          have hV : Hid (valB (10 * n + ((d.toNat : Int) - 48)) ((bl s).drop (k + 1)) = valB 0 (bl s)) := by have := valB_step hv.out (by rw [hlen]; exact hlt); rw [hdl] at this; exact this
          have hN : Hid (10 * n + ((d.toNat : Int) - 48) < 10 ^ (k + 1)) := by show 10 * n + ((d.toNat : Int) - 48) < 10 ^ (k + 1); rw [pow_next]; have := hn1.out; omega
          have w1 : IntKind.u8.wrap ((d.toNat : Int) - 48) = (d.toNat : Int) - 48 := by rw [IntKind.wrap_u8]; omega
          have hN0 : 0 ≤ 10 * n + ((d.toNat : Int) - 48) := by omega
          clear hdl hp
          go_wp2
          go_round
          case rel => exact ⟨_, k + 1, rfl, by go_num, by omega, hV, hA, hN0, hN⟩
          case measure => simp [RowKit.intOf]; omega
        · have hF : Hid (numB (bl s) = false) := numB_not (all_no (k := k) (by rw [hlen]; exact hlt) (by rw [hdl]; exact dB_no hdg))
          clear hdl hp
          by_cases hlo : d.toNat < 48
          · have e7 : (d.toNat : Int) < 48 := by omega
            go_wp2
            go_ret2
            rw [hF.out]
            first | exact ⟨⟨_, rfl, fun h => by cases h⟩, rfl⟩ | exact ⟨trivial, rfl⟩ | exact ⟨⟨_, rfl, (trivial : True)⟩, rfl⟩ | exact ⟨⟨_, rfl⟩, rfl⟩ | exact ⟨⟨⟨_, rfl⟩, trivial⟩, rfl⟩
          · have e7 : ¬ (d.toNat : Int) < 48 := by omega
            have e8 : (d.toNat : Int) > 57 := by omega
            go_wp2
            go_ret2
            rw [hF.out]
            first | exact ⟨⟨_, rfl, fun h => by cases h⟩, rfl⟩ | exact ⟨trivial, rfl⟩ | exact ⟨⟨_, rfl, (trivial : True)⟩, rfl⟩ | exact ⟨⟨_, rfl⟩, rfl⟩ | exact ⟨⟨⟨_, rfl⟩, trivial⟩, rfl⟩
      · have e5 : ¬ (k : Int) < (s.size : Int) := by omega
        have hall : Hid ((bl s).all dB = true) := by have := ha.out; rw [List.take_of_length_le (by rw [hlen]; omega)] at this; exact this
        have hval : Hid (valB 0 (bl s) = n) := (valB_end hv.out (by rw [hlen]; omega)).symm
        have hF : Hid (numB (bl s) = decide (n ≤ 1000000000)) := by show numB (bl s) = _; rw [HA.out hall.out, hval.out]
        clear hn0
        go_wp2
        all_goals go_ret2
        all_goals rw [hF.out]
        all_goals exact ⟨⟨_, rfl, fun _ => hval.out.symm⟩, rfl⟩
theorem refNumber_any (s : ByteArray) (w : World) (hs : s.size ≤ 140737488351232) :
    Calls Tryd.prog 35 #[.string s] w fun e w' => (∃ x : Int, e = .returned (.tuple #[.int .i64 x, .bool (numB (bl s))])) ∧ w = w' := by
  refine (refNumber_val s w hs).mono ?_
  rintro e w' ⟨⟨x, h, _⟩, hw⟩
  exact ⟨⟨x, h⟩, hw⟩
end Go.Proofs.YtiddccohldjjcaaDoor
