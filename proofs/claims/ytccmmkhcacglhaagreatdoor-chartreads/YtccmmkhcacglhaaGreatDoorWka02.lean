import Derived.Test.YtccmmkhcacglhaaGreatDoorWka01
import Derived.Deep.RegionHeldLaw

/- What the document's Number does. -/
namespace Go.Proofs.YtccmmkhcacglhaaGreatDoor
open Go.RowKit Go.Lib
set_option linter.unusedSimpArgs false
set_option linter.unusedVariables false

set_option maxHeartbeats 2000000 in
theorem refNumber_val (s : ByteArray) (w : World) (hs : s.size ≤ 140737488351232) :
    Calls Tryz.prog 78 #[.string s] w fun e w' => (∃ x : Int, e = .returned (.tuple #[.int .i64 x, .bool (numB (bl s))]) ∧ Hid (numB (bl s) = true → x = valB 0 (bl s))) ∧ w = w' := by
  have hlen : (bl s).length = s.size := rfl
  by_cases h1 : s.size < 1
  · rw [numB_len (by omega)]
    have e1 : (s.size : Int) < 1 := by omega
    go_enter Tryz.func78, Tryz.ntmps78
    go_wp2
    go_ret2
    first | exact ⟨⟨_, rfl, fun h => by cases h⟩, rfl⟩ | exact ⟨trivial, rfl⟩ | exact ⟨⟨_, rfl, (trivial : True)⟩, rfl⟩ | exact ⟨⟨_, rfl⟩, rfl⟩ | exact ⟨⟨⟨_, rfl⟩, trivial⟩, rfl⟩
  have e1 : ¬ (s.size : Int) < 1 := by omega
  by_cases h2 : 10 < s.size
  · rw [numB_len (by omega)]
    have e2 : (s.size : Int) > 10 := by omega
    go_enter Tryz.func78, Tryz.ntmps78
    go_wp2
    go_ret2
    first | exact ⟨⟨_, rfl, fun h => by cases h⟩, rfl⟩ | exact ⟨trivial, rfl⟩ | exact ⟨⟨_, rfl, (trivial : True)⟩, rfl⟩ | exact ⟨⟨_, rfl⟩, rfl⟩ | exact ⟨⟨⟨_, rfl⟩, trivial⟩, rfl⟩
  have e2 : ¬ (s.size : Int) > 10 := by omega
  obtain ⟨c, r, hl⟩ : ∃ c r, bl s = c :: r := by
    match hb : bl s with
    | [] => rw [hb] at hlen; simp at hlen; omega
    | c :: r => exact ⟨c, r, rfl⟩
  have hs0 : s[0] = c := by rw [get_bl]; simp [hl]
  have hz : (0 : Int) < (s.size : Int) := by omega
  by_cases h3 : c.toNat = 48 ∧ 1 < s.size
  · rw [hl, numB_nought h3.1 (by rw [← hl, hlen]; exact h3.2)]
    have e3 : ((c.toNat : Int) == 48) = true := by simp; omega
    have e4 : (s.size : Int) > 1 := by omega
    clear h3
    go_enter Tryz.func78, Tryz.ntmps78
    go_wp2
    go_ret2
    first | exact ⟨⟨_, rfl, fun h => by cases h⟩, rfl⟩ | exact ⟨trivial, rfl⟩ | exact ⟨⟨_, rfl, (trivial : True)⟩, rfl⟩ | exact ⟨⟨_, rfl⟩, rfl⟩ | exact ⟨⟨⟨_, rfl⟩, trivial⟩, rfl⟩
  have hL1 : 1 ≤ (bl s).length ∧ (bl s).length ≤ 10 := by omega
  have hL2 : ¬ (((bl s).headD 0).toNat = 48 ∧ 1 < (bl s).length) := by rw [hlen, hl]; exact h3
  have HA : Hid ((bl s).all dB = true → numB (bl s) = decide (valB 0 (bl s) ≤ 1000000000)) := fun h => numB_all hL1 hL2 h
  have H0 : Hid (valB 0 ((bl s).drop 0) = valB 0 (bl s)) := rfl
  have hgate : (((c.toNat : Int) == 48) && decide ((s.size : Int) > 1)) = false := by
    rw [Bool.and_eq_false_iff]
    rcases Decidable.not_and_iff_or_not.1 h3 with h | h
    · exact .inl (beq_eq_false_iff_ne.2 (by omega))
    · exact .inr (decide_eq_false (by omega))
  clear h3 hL2 hL1 hl
  cases hb : ((c.toNat : Int) == 48) with
  | true =>
    rw [hb, Bool.true_and] at hgate
    go_enter Tryz.func78, Tryz.ntmps78
    go_wp2
    go_loop [4, 5] (fun a b => ∃ (n : Int) (k : Nat), a = .int .i64 n ∧ b = .int .i64 (k : Int) ∧ k ≤ s.size ∧ Hid (valB n ((bl s).drop k) = valB 0 (bl s)) ∧ Hid (((bl s).take k).all dB = true) ∧ 0 ≤ n ∧ Hid (n < 10 ^ k)) (fun _ b => s.size - (RowKit.intOf b).toNat)
    case atStart => exact ⟨0, 0, rfl, rfl, by omega, H0, rfl, by omega, (show (0 : Int) < 10 ^ 0 by decide)⟩
    case round =>
      obtain ⟨n, k, rfl, rfl, hk, hv, ha, hn0, hn1⟩ := hrel
      by_cases hlt : k < s.size
      · have e5 : (k : Int) < (s.size : Int) := by omega
        have e6 : (0 : Int) ≤ (k : Int) := by omega
        obtain ⟨d, hd⟩ : ∃ d, s[k] = d := ⟨_, rfl⟩
        have hdl : (bl s)[k]'(by rw [hlen]; exact hlt) = d := by rw [← get_bl]; exact hd
        have hp := pow_le9 (k := k) (by omega)
        have hnb : n < 1000000000 := by have := hn1.out; omega
        by_cases hdg : 48 ≤ d.toNat ∧ d.toNat ≤ 57
        · have e7 : ¬ (d.toNat : Int) < 48 := by omega
          have e8 : ¬ (d.toNat : Int) > 57 := by omega
          have hA : Hid (((bl s).take (k + 1)).all dB = true) := all_step ha.out (by rw [hlen]; exact hlt) (by rw [hdl]; exact dB_yes hdg)
          have hV : Hid (valB (10 * n + ((d.toNat : Int) - 48)) ((bl s).drop (k + 1)) = valB 0 (bl s)) := by have := valB_step hv.out (by rw [hlen]; exact hlt); rw [hdl] at this; exact this
          have hN : Hid (10 * n + ((d.toNat : Int) - 48) < 10 ^ (k + 1)) := by show 10 * n + ((d.toNat : Int) - 48) < 10 ^ (k + 1); rw [pow_next]; have := hn1.out; omega
          have w1 : IntKind.u8.wrap ((d.toNat : Int) - 48) = (d.toNat : Int) - 48 := by rw [IntKind.wrap_u8]; omega
          have hN0 : 0 ≤ 10 * n + ((d.toNat : Int) - 48) := by omega
          clear hdl hp
          go_wp2
          go_round
          case rel => exact ⟨_, k + 1, rfl, by go_num, by omega, hV, hA, hN0, hN⟩
          case measure => simp [RowKit.intOf]; omega
        · have hF : Hid (numB (bl s) = false) := numB_not (all_no (k := k) (by rw [hlen]; exact hlt) (by rw [hdl]; exact dB_no hdg))
          clear hdl hp
          by_cases hlo : d.toNat < 48
          · have e7 : (d.toNat : Int) < 48 := by omega
            go_wp2
            go_ret2
            rw [hF.out]
            first | exact ⟨⟨_, rfl, fun h => by cases h⟩, rfl⟩ | exact ⟨trivial, rfl⟩ | exact ⟨⟨_, rfl, (trivial : True)⟩, rfl⟩ | exact ⟨⟨_, rfl⟩, rfl⟩ | exact ⟨⟨⟨_, rfl⟩, trivial⟩, rfl⟩
          · have e7 : ¬ (d.toNat : Int) < 48 := by omega
            have e8 : (d.toNat : Int) > 57 := by omega
            go_wp2
            go_ret2
            rw [hF.out]
            first | exact ⟨⟨_, rfl, fun h => by cases h⟩, rfl⟩ | exact ⟨trivial, rfl⟩ | exact ⟨⟨_, rfl, (trivial : True)⟩, rfl⟩ | exact ⟨⟨_, rfl⟩, rfl⟩ | exact ⟨⟨⟨_, rfl⟩, trivial⟩, rfl⟩
      · have e5 : ¬ (k : Int) < (s.size : Int) := by omega
        have hall : Hid ((bl s).all dB = true) := by have := ha.out; rw [List.take_of_length_le (by rw [hlen]; omega)] at this; exact this
        have hval : Hid (valB 0 (bl s) = n) := (valB_end hv.out (by rw [hlen]; omega)).symm
        have hF : Hid (numB (bl s) = decide (n ≤ 1000000000)) := by show numB (bl s) = _; rw [HA.out hall.out, hval.out]
        clear hn0
        go_wp2
        all_goals go_ret2
        all_goals rw [hF.out]
        all_goals exact ⟨⟨_, rfl, fun _ => hval.out.symm⟩, rfl⟩
  | false =>
    clear hgate
    go_enter Tryz.func78, Tryz.ntmps78
    go_wp2
    go_loop [4, 5] (fun a b => ∃ (n : Int) (k : Nat), a = .int .i64 n ∧ b = .int .i64 (k : Int) ∧ k ≤ s.size ∧ Hid (valB n ((bl s).drop k) = valB 0 (bl s)) ∧ Hid (((bl s).take k).all dB = true) ∧ 0 ≤ n ∧ Hid (n < 10 ^ k)) (fun _ b => s.size - (RowKit.intOf b).toNat)
    case atStart => exact ⟨0, 0, rfl, rfl, by omega, H0, rfl, by omega, (show (0 : Int) < 10 ^ 0 by decide)⟩
    case round =>
      obtain ⟨n, k, rfl, rfl, hk, hv, ha, hn0, hn1⟩ := hrel
      by_cases hlt : k < s.size
      · have e5 : (k : Int) < (s.size : Int) := by omega
        have e6 : (0 : Int) ≤ (k : Int) := by omega
        obtain ⟨d, hd⟩ : ∃ d, s[k] = d := ⟨_, rfl⟩
        have hdl : (bl s)[k]'(by rw [hlen]; exact hlt) = d := by rw [← get_bl]; exact hd
        have hp := pow_le9 (k := k) (by omega)
        have hnb : n < 1000000000 := by have := hn1.out; omega
        by_cases hdg : 48 ≤ d.toNat ∧ d.toNat ≤ 57
        · have e7 : ¬ (d.toNat : Int) < 48 := by omega
          have e8 : ¬ (d.toNat : Int) > 57 := by omega
          have hA : Hid (((bl s).take (k + 1)).all dB = true) := all_step ha.out (by rw [hlen]; exact hlt) (by rw [hdl]; exact dB_yes hdg)
          have hV : Hid (valB (10 * n + ((d.toNat : Int) - 48)) ((bl s).drop (k + 1)) = valB 0 (bl s)) := by have := valB_step hv.out (by rw [hlen]; exact hlt); rw [hdl] at this; exact this
          have hN : Hid (10 * n + ((d.toNat : Int) - 48) < 10 ^ (k + 1)) := by show 10 * n + ((d.toNat : Int) - 48) < 10 ^ (k + 1); rw [pow_next]; have := hn1.out; omega
          have w1 : IntKind.u8.wrap ((d.toNat : Int) - 48) = (d.toNat : Int) - 48 := by rw [IntKind.wrap_u8]; omega
          have hN0 : 0 ≤ 10 * n + ((d.toNat : Int) - 48) := by omega
          clear hdl hp
          go_wp2
          go_round
          case rel => exact ⟨_, k + 1, rfl, by go_num, by omega, hV, hA, hN0, hN⟩
          case measure => simp [RowKit.intOf]; omega
        · have hF : Hid (numB (bl s) = false) := numB_not (all_no (k := k) (by rw [hlen]; exact hlt) (by rw [hdl]; exact dB_no hdg))
          clear hdl hp
          by_cases hlo : d.toNat < 48
          · have e7 : (d.toNat : Int) < 48 := by omega
            go_wp2
            go_ret2
            rw [hF.out]
            first | exact ⟨⟨_, rfl, fun h => by cases h⟩, rfl⟩ | exact ⟨trivial, rfl⟩ | exact ⟨⟨_, rfl, (trivial : True)⟩, rfl⟩ | exact ⟨⟨_, rfl⟩, rfl⟩ | exact ⟨⟨⟨_, rfl⟩, trivial⟩, rfl⟩
          · have e7 : ¬ (d.toNat : Int) < 48 := by omega
            have e8 : (d.toNat : Int) > 57 := by omega
            go_wp2
            go_ret2
            rw [hF.out]
            first | exact ⟨⟨_, rfl, fun h => by cases h⟩, rfl⟩ | exact ⟨trivial, rfl⟩ | exact ⟨⟨_, rfl, (trivial : True)⟩, rfl⟩ | exact ⟨⟨_, rfl⟩, rfl⟩ | exact ⟨⟨⟨_, rfl⟩, trivial⟩, rfl⟩
      · have e5 : ¬ (k : Int) < (s.size : Int) := by omega
        have hall : Hid ((bl s).all dB = true) := by have := ha.out; rw [List.take_of_length_le (by rw [hlen]; omega)] at this; exact this
        have hval : Hid (valB 0 (bl s) = n) := (valB_end hv.out (by rw [hlen]; omega)).symm
        have hF : Hid (numB (bl s) = decide (n ≤ 1000000000)) := by show numB (bl s) = _; rw [HA.out hall.out, hval.out]
        clear hn0
        go_wp2
        all_goals go_ret2
        all_goals rw [hF.out]
        all_goals exact ⟨⟨_, rfl, fun _ => hval.out.symm⟩, rfl⟩
theorem refNumber_any (s : ByteArray) (w : World) (hs : s.size ≤ 140737488351232) :
    Calls Tryz.prog 78 #[.string s] w fun e w' => (∃ x : Int, e = .returned (.tuple #[.int .i64 x, .bool (numB (bl s))])) ∧ w = w' := by
  refine (refNumber_val s w hs).mono ?_
  rintro e w' ⟨⟨x, h, _⟩, hw⟩
  exact ⟨⟨x, h⟩, hw⟩
end Go.Proofs.YtccmmkhcacglhaaGreatDoor

/- What the document's primary does. -/
namespace Go.Proofs.YtccmmkhcacglhaaGreatDoor
open Go.RowKit Go.Lib
set_option linter.unusedSimpArgs false
set_option linter.unusedVariables false
attribute [local go_sem ↓] Go.wp_at_zero Go.wp_at_succ

abbrev psW (ws : List Wd) (f k n : Nat) : Rd3 := psr (valB 0) rsvB (ws.map tkW) f k n (-1)
/-- What is told of words that are read. -/
def BinC (ws : List Wd) (f : Nat) : Prop := ∀ (X : Nat) (a : Option Addr) (cap n k : Nat) (w : World), Wk ws cap → 1 ≤ k → k ≤ 6 → 7 * (ws.length - n) + (6 - k) < f → Rr w X a cap ws n (-1) →
  Calls Tryz.prog 176 #[.pointer (some ⟨X, 0, none⟩), .int .i64 (k : Int)] w fun e w' => ∃ v, e = .returned v ∧ RdX (fun b => w.heap.size ≤ b) w' (psW ws f k n).1 v ∧ Rr w' X a cap ws (psW ws f k n).2.1 (psW ws f k n).2.2 ∧ Fx X w w'
def PrimC (ws : List Wd) (f : Nat) : Prop := ∀ (X : Nat) (a : Option Addr) (cap n : Nat) (w : World), Wk ws cap → 7 * (ws.length - n) < f → Rr w X a cap ws n (-1) →
  Calls Tryz.prog 195 #[.pointer (some ⟨X, 0, none⟩)] w fun e w' => ∃ v, e = .returned v ∧ RdX (fun b => w.heap.size ≤ b) w' (psW ws f 6 n).1 v ∧ Rr w' X a cap ws (psW ws f 6 n).2.1 (psW ws f 6 n).2.2 ∧ Fx X w w'
abbrev zN : Obj := .cells #[.int .i64 0, .int .i64 0, .string ⟨#[]⟩, .slice none 0 0] 132
theorem alN (wx : World) : Below wx.heap.size wx (wx.alloc zN) := (Below.refl _ _).alloc (Nat.le_refl _) _
theorem B4.fx {X N : Nat} {w w' : World} {a b c e : Value} (h : B4 w N a b c e) (hf : Fx X w w') (hN : N ≠ X) : B4 w' N a b c e := by
  have hb : w'.heap[N]? = w.heap[N]? := hf.block N h.lt (fun q => hN (Option.some.inj q))
  have hc : ∀ i, w'.cell? ⟨N, i, none⟩ = w.cell? ⟨N, i, none⟩ := fun i => World.cell?_of_block (w := w) (a := ⟨N, i, none⟩) hb
  have hz : ∀ i, w'.frozen? ⟨N, i, none⟩ = w.frozen? ⟨N, i, none⟩ := fun i => World.frozen?_of_block (w := w) (a := ⟨N, i, none⟩) hb
  exact ⟨(hc 0).trans h.c0, (hc 1).trans h.c1, (hc 2).trans h.c2, (hc 3).trans h.c3, (hz 0).trans h.f0, (hz 1).trans h.f1, (hz 2).trans h.f2, (hz 3).trans h.f3⟩
theorem Fx.put4 {X N : Nat} {a b : World} (h : Fx X a b) (hN : a.heap.size ≤ N) (c0 c1 c2 c3 : Value) : Fx X a (put4 b N c0 c1 c2 c3) := (((h.setN hN c0).setN hN c1).setN hN c2).setN hN c3
set_option maxRecDepth 100000 in
set_option maxHeartbeats 4000000 in
theorem prim_end {ws : List Wd} {f X : Nat} {a : Option Addr} {cap n : Nat} {w : World} (hk : Wk ws cap) (h : Rr w X a cap ws n (-1)) (hn : ¬ n < ws.length) :
    Calls Tryz.prog 195 #[.pointer (some ⟨X, 0, none⟩)] w fun e w' => ∃ v, e = .returned v ∧ RdX (fun b => w.heap.size ≤ b) w' (psW ws (f + 1) 6 n).1 v ∧ Rr w' X a cap ws (psW ws (f + 1) 6 n).2.1 (psW ws (f + 1) 6 n).2.2 ∧ Fx X w w' := by
  have e : psW ws (f + 1) 6 n = (noX, n, (n : Int)) := psr6_end (by rw [List.getElem?_eq_none_iff, List.length_map]; omega)
  rw [e]
  have hr0 := h.on (alN w)
  have hF := fun w1 (hr : Rr w1 X a cap ws n (-1)) => fail_any hr
  obtain ⟨c0, c1, c2, f1, f2, hL⟩ := id hr0
  have i1 : (n : Int) ≥ (ws.length : Int) := by omega
  have hX := h.lt
  clear hL e
  go_enter Tryz.func195, Tryz.ntmps195
  go_wp2
  go_quiet (fail)
  have hr1 := hr0.on (draws _ nq)
  have hf1 : Fx X w ((w.alloc zN).drewN nq) := ((Fx.refl X w).alloc _).drewN nq
  have hlt : w.heap.size < ((w.alloc zN).drewN nq).heap.size := by show _ < (w.alloc zN).heap.size; simp
  have hB0 : B4 ((w.alloc zN).drewN nq) w.heap.size (.int .i64 0) (.int .i64 0) (.string ⟨#[]⟩) (.slice none 0 0) := (B4.new w _ _ _ _ _ _ rfl).keep (draws _ nq)
  generalize (w.alloc zN).drewN nq = w1 at *
  go_wp2_with (first
    | (go_at_call 214; refine (hF _ hr1).mono ?_; rintro e w2 ⟨rfl, hr2, hf2⟩; obtain ⟨x0, x1, x2, x3, g0, g1, g2, g3⟩ := id (hB0.fx hf2 (by omega))))
  obtain ⟨q0, q1, q2, q3, _, _, _, _⟩ := (hB0.fx hf2 (by omega)).put (.int .i64 0) (.int .i64 0) (.string ⟨#[]⟩) (.slice none 0 0)
  exact bodyPost_ret (v := .agg #[.int .i64 0, .int .i64 0, .string ⟨#[]⟩, .slice none 0 0]) (by simp [results, Tryz.results195, go_sem, q0, q1, q2, q3]) rfl ⟨_, rfl, rdX_no _ _, hr2.far4 (by omega) _ _ _ _, (hf1.trans hf2).put4 (Nat.le_refl _) _ _ _ _⟩
end Go.Proofs.YtccmmkhcacglhaaGreatDoor

/- What the document's primary does with a word. -/
namespace Go.Proofs.YtccmmkhcacglhaaGreatDoor
open Go.RowKit Go.Lib
set_option linter.unusedSimpArgs false
set_option linter.unusedVariables false
attribute [local go_sem ↓] Go.wp_at_zero Go.wp_at_succ

abbrev zW : Obj := .cells #[.int .i64 0, .string ⟨#[]⟩, .int .i64 0, .int .i64 0] 127
theorem prim_res {w4 : World} {R : Nat} {a b c e : Value} {tmps : Array Value} (hB : B4 w4 R a b c e) (ht : tmps.getD 2 undef = .pointer (some ⟨R, 0, none⟩)) : (results Tryz.f195 tmps).run Tryz.prog w4 = .ok (.agg #[a, b, c, e]) w4 := by
  obtain ⟨c0, c1, c2, c3, _, _, _, _⟩ := hB
  have ht' : tmps[2]?.getD undef = .pointer (some ⟨R, 0, none⟩) := by simpa using ht
  simp [results, Tryz.results195, go_sem, ht', c0, c1, c2, c3]
/-- A node of one part, laid and written into the result's block. -/
theorem node_un {X lo lo3 cap : Nat} {w3 : World} {a : Option Addr} {ws : List Wd} {n' : Nat} {b' k : Int} {x : Sx} {c0 c1 c2 c3 p0 p1 p2 p3 : Value} (hx : RdX (fun b => lo3 ≤ b) w3 x (.agg #[c0, c1, c2, c3])) (hlo : lo < lo3) (hlo3 : lo3 ≤ w3.heap.size) (hX : X < lo)
    (hr : Rr w3 X a cap ws n' b') (hB : B4 (w3.alloc (.cells #[c0, c1, c2, c3] 132)) lo p0 p1 p2 p3) :
    RdX (fun b => lo ≤ b) (put4 (w3.alloc (.cells #[c0, c1, c2, c3] 132)) lo (.int .i64 k) (.int .i64 0) (.string ⟨#[]⟩) (.slice (some ⟨w3.heap.size, 0, none⟩) 1 1)) (mk1 k x) (.agg #[.int .i64 k, .int .i64 0, .string ⟨#[]⟩, .slice (some ⟨w3.heap.size, 0, none⟩) 1 1]) ∧
    Rr (put4 (w3.alloc (.cells #[c0, c1, c2, c3] 132)) lo (.int .i64 k) (.int .i64 0) (.string ⟨#[]⟩) (.slice (some ⟨w3.heap.size, 0, none⟩) 1 1)) X a cap ws n' b' := by
  have hal := (Below.refl w3.heap.size w3).alloc (Nat.le_refl _) (.cells #[c0, c1, c2, c3] 132)
  obtain ⟨k0, k1, k2, k3⟩ := (At4.new w3 c0 c1 c2 c3 132).blkR (w' := put4 (w3.alloc (.cells #[c0, c1, c2, c3] 132)) lo (.int .i64 k) (.int .i64 0) (.string ⟨#[]⟩) (.slice (some ⟨w3.heap.size, 0, none⟩) 1 1)) (heap_put (by omega) _ _ _ _)
  refine ⟨rdX_mk1 (hx.keep fun b hb hlt => ⟨by omega, ?_⟩) (by omega) k0 k1 k2 k3, (hr.on hal).far4 hX _ _ _ _⟩
  rw [heap_put (by omega), hal.block b hlt]
set_option maxRecDepth 100000 in
set_option maxHeartbeats 8000000 in
theorem prim_word {ws : List Wd} {f X : Nat} {a : Option Addr} {cap n : Nat} {w : World} (hPC : PrimC ws f) (hBC : BinC ws f) (hk : Wk ws cap) (hfu : 7 * (ws.length - n) < f + 1) (h : Rr w X a cap ws n (-1)) (hn : n < ws.length) :
    Calls Tryz.prog 195 #[.pointer (some ⟨X, 0, none⟩)] w fun e w' => ∃ v, e = .returned v ∧ RdX (fun b => w.heap.size ≤ b) w' (psW ws (f + 1) 6 n).1 v ∧ Rr w' X a cap ws (psW ws (f + 1) 6 n).2.1 (psW ws (f + 1) 6 n).2.2 ∧ Fx X w w' := by
  have hget : (ws.map tkW)[n]? = some ((ws[n]).1, byt (ws[n]).2.1) := by rw [List.getElem?_map, List.getElem?_eq_getElem hn]; rfl
  have hone := hk.o ws[n] (List.getElem_mem hn)
  have hP := fun w1 (hr : Rr w1 X a cap ws (n + 1) (-1)) => hPC X a cap (n + 1) w1 hk (by omega) hr
  have hB := fun w1 (hr : Rr w1 X a cap ws (n + 1) (-1)) => hBC X a cap (n + 1) 1 w1 hk (by omega) (by omega) (by omega) hr
  obtain ⟨R, hR⟩ : ∃ R, psW ws (f + 1) 6 n = R := ⟨_, rfl⟩
  rw [hR]
  have HR : Hid (psW ws (f + 1) 6 n = R) := hR
  have hr0 := h.on (alN w)
  obtain ⟨c0, c1, c2, f1, f2, hL⟩ := id hr0
  obtain ⟨g, off, rfl, hgX, d0, d1, d2, d3⟩ := hL n hn
  have hd1 : (w.alloc zN).cell? ⟨g, off + n * 4 + 1, none⟩ = some (.string ⟨(byt (ws[n]).2.1).toArray⟩) := d1
  obtain ⟨seg, hseg⟩ : ∃ seg, (ws[n]).2.1 = seg := ⟨_, rfl⟩
  obtain ⟨K, hK⟩ : ∃ K, (ws[n]).1 = K := ⟨_, rfl⟩
  obtain ⟨ln, hln⟩ : ∃ K, (ws[n]).2.2.1 = K := ⟨_, rfl⟩
  obtain ⟨co, hco⟩ : ∃ K, (ws[n]).2.2.2 = K := ⟨_, rfl⟩
  rw [hK] at d0 hget hone
  rw [hseg] at hd1 hget hone
  rw [hln] at d2
  rw [hco] at d3
  obtain ⟨bs, hbs⟩ : ∃ bs, byt seg = bs := ⟨_, rfl⟩
  have hkind := hone.kind
  have hsz := hone.l
  rw [hbs] at hd1 hget hkind hsz
  have HG : Hid ((ws.map tkW)[n]? = some (K, bs)) := hget
  have i1 : decide ((n : Int) ≥ (ws.length : Int)) = false := decide_eq_false (by omega)
  have i3 : (n : Int) < (ws.length : Int) := by omega
  have i4 : (0 : Int) ≤ (n : Int) := by omega
  have hlen := hk.l
  have i5 : IntKind.i64.wrap ((n : Int) + 1) = (n : Int) + 1 := by rw [IntKind.wrap_i64]; omega
  have hX := h.lt
  clear hL d1 hget hone hseg hbs hK hln hco hR
  go_enter Tryz.func195, Tryz.ntmps195
  go_wp2
  go_quiet (fail)
  have hr1 := hr0.on (draws _ nq)
  have hf1 : Fx X w ((w.alloc zN).drewN nq) := ((Fx.refl X w).alloc _).drewN nq
  have hlt : w.heap.size < ((w.alloc zN).drewN nq).heap.size := by show _ < (w.alloc zN).heap.size; simp
  have hB0 : B4 ((w.alloc zN).drewN nq) w.heap.size (.int .i64 0) (.int .i64 0) (.string ⟨#[]⟩) (.slice none 0 0) := (B4.new w _ _ _ _ _ _ rfl).keep (draws _ nq)
  have hdr : ∀ p, ((w.alloc zN).drewN nq).cell? p = (w.alloc zN).cell? p := fun _ => rfl
  rw [← hdr] at d0 hd1 d2 d3
  clear hdr
  obtain ⟨c0', c1', c2', f1', f2', _⟩ := id hr1
  clear c0 c1 c2 f1 f2 hr0
  generalize (w.alloc zN).drewN nq = w1 at *
  have hbz : Below w1.heap.size w1 (w1.alloc zW) := (Below.refl _ _).alloc (Nat.le_refl _) _
  obtain ⟨u0, u1, u2, _, _, _⟩ := id (hr1.on hbz)
  have hgl : g < w1.heap.size := by have := hr1.lt; omega
  have v0 := (hbz.cell (p := ⟨g, off + n * 4, none⟩) hgl).trans d0
  have v1 := (hbz.cell (p := ⟨g, off + n * 4 + 1, none⟩) hgl).trans hd1
  have v2 := (hbz.cell (p := ⟨g, off + n * 4 + 2, none⟩) hgl).trans d2
  have v3 := (hbz.cell (p := ⟨g, off + n * 4 + 3, none⟩) hgl).trans d3
  go_wp2
  go_region
  have hbw : Below w1.heap.size w1 (w1.alloc (.cells #[.int .i64 (K : Int), .string ⟨bs.toArray⟩, .int .i64 ln, .int .i64 co] 127)).drew := ((Below.refl _ _).alloc (Nat.le_refl _) _).drew
  have hr2 := hr1.on hbw
  have hf2 := hf1.trans (Fx.of (X := X) hbw (Nat.le_refl _))
  have hB2 := hB0.keep hbw
  have hA2 : At4 (w1.alloc (.cells #[.int .i64 (K : Int), .string ⟨bs.toArray⟩, .int .i64 ln, .int .i64 co] 127)).drew w1.heap.size (.int .i64 (K : Int)) (.string ⟨bs.toArray⟩) (.int .i64 ln) (.int .i64 co) := At4.new w1 _ _ _ _ _
  have hlt2 : w1.heap.size < (w1.alloc (.cells #[.int .i64 (K : Int), .string ⟨bs.toArray⟩, .int .i64 ln, .int .i64 co] 127)).drew.heap.size := World.block_lt_of_cell? _ _ hA2.1
  obtain ⟨N, hN⟩ : ∃ N, w1.heap.size = N := ⟨_, rfl⟩
  generalize (w1.alloc (.cells #[.int .i64 (K : Int), .string ⟨bs.toArray⟩, .int .i64 ln, .int .i64 co] 127)).drew = w2 at *
  rw [hN] at hA2 hlt hlt2 ⊢
  obtain ⟨a0, a1, a2, a3⟩ := id hA2
  obtain ⟨e0, e1, e2, g1, g2, _⟩ := id hr2
  clear v0 v1 v2 v3 u0 u1 u2 hgl hbz c0' c1' c2' f1' f2' d0 hd1 d2 d3 hr1 hf1 hB0 hbw hN i1
  have hS : Rr (w2.setCell ⟨X, 1, none⟩ (.int .i64 ((n : Int) + 1))) X (some ⟨g, off, none⟩) cap ws (n + 1) (-1) := hr2.set1 (n + 1)
  have hBS := hB2.far (X := X) (i := 1) (by omega) (.int .i64 ((n : Int) + 1))
  have hFS : Fx X w (w2.setCell ⟨X, 1, none⟩ (.int .i64 ((n : Int) + 1))) := hf2.setX _
  have hsS : (w2.setCell ⟨X, 1, none⟩ (.int .i64 ((n : Int) + 1))).heap.size = w2.heap.size := by simp
  have hAS : At4 (w2.setCell ⟨X, 1, none⟩ (.int .i64 ((n : Int) + 1))) N (.int .i64 (K : Int)) (.string ⟨bs.toArray⟩) (.int .i64 ln) (.int .i64 co) := ⟨cell_far4 (by omega) hA2.1, cell_far4 (by omega) hA2.2.1, cell_far4 (by omega) hA2.2.2.1, cell_far4 (by omega) hA2.2.2.2⟩
  obtain ⟨s0, s1, s2, s3⟩ := id hAS
  obtain ⟨m0, m1, m2, m3, l0, l1, l2, l3⟩ := id hBS
  have hF2 := fail_any hr2
  rw [if_pos (show (-1 : Int) < 0 by decide)] at hF2
  by_cases hu : bs = [33] ∨ bs = [45]
  · have hval := HR.out
    rw [show psW ws (f + 1) 6 n = _ from psr6_un HG.out hu] at hval
    have hPP := hP _ hS
    obtain ⟨⟨x, n', b'⟩, hQ⟩ : ∃ r, psW ws f 6 (n + 1) = r := ⟨_, rfl⟩
    simp only at hval
    rw [show psr (valB 0) rsvB (ws.map tkW) f 6 (n + 1) (-1) = (x, n', b') from hQ] at hval
    simp only [hQ] at hPP
    have HV : Hid ((mk1 (if bs = [45] then 4 else 3) x, n', b') = R) := hval
    clear hval hQ HG HR hkind hP hB
    rcases hu with rfl | rfl
    all_goals (
      go_wp2_with (first
        | (go_at_call 195; refine hPP.mono ?_; rintro e w3 ⟨v, rfl, hx3, hr3, hf3⟩; obtain ⟨xk, xm, xs, xa, xl, xc, rfl⟩ := hx3.form; have hB3 := hBS.fx hf3 (by omega); have hal := (Below.refl w3.heap.size w3).alloc (Nat.le_refl _) (.cells #[.int .i64 xk, .int .i64 xm, .string xs, .slice xa xl xc] 132); have hB4 := hB3.keep hal; obtain ⟨q0, q1, q2, q3, t0, t1, t2, t3⟩ := id hB4))
      have hs3 := hf3.size
      have hv := HV.out
      subst hv
      obtain ⟨z1, z2⟩ := node_un (lo := w.heap.size) hx3 (by omega) hs3 hX hr3 hB4
      exact bodyPost_ret (prim_res (hB4.put _ _ _ _) rfl) rfl ⟨_, rfl, z1, z2, ((hFS.trans hf3).alloc _).put4 (Nat.le_refl _) _ _ _ _⟩)
  · have n33 : (bs == [33]) = false := beq_eq_false_iff_ne.2 (fun e => hu (.inl e))
    have n45 : (bs == [45]) = false := beq_eq_false_iff_ne.2 (fun e => hu (.inr e))
    by_cases h40 : bs = [40]
    · have hval := HR.out
      rw [show psW ws (f + 1) 6 n = _ from psr6_par HG.out h40] at hval
      have hBB := hB _ hS
      obtain ⟨⟨x, n', b'⟩, hQ⟩ : ∃ r, psW ws f 1 (n + 1) = r := ⟨_, rfl⟩
      rw [show psr (valB 0) rsvB (ws.map tkW) f 1 (n + 1) (-1) = (x, n', b') from hQ] at hval
      simp only at hval
      simp only [hQ] at hBB
      subst h40
      clear hQ HG HR hkind hP hB hu n33 n45
      have hIs := fun w4 (hr4 : Rr w4 X (some ⟨g, off, none⟩) cap ws n' b') => is_any hr4 [41] hk.l hk.c
      obtain ⟨tb, htb⟩ : ∃ tb, isT (ws.map tkW) [41] n' b' = tb := ⟨_, rfl⟩
      rw [htb] at hIs
      rw [htb] at hval
      cases tb with
      | true =>
        have hn' : n' < ws.length := by
          unfold isT at htb
          rcases Nat.lt_or_ge n' ws.length with q | q
          · exact q
          · rw [List.getElem?_eq_none (by rw [List.length_map]; omega)] at htb
            simp at htb
        have i6 : IntKind.i64.wrap ((n' : Int) + 1) = (n' : Int) + 1 := by rw [IntKind.wrap_i64]; omega
        rw [if_pos rfl] at hval
        have HV : Hid ((x, n' + 1, b') = R) := hval
        clear hval htb
        go_wp2_with (first
          | (go_at_call 176; refine hBB.mono ?_; rintro e w3 ⟨v, rfl, hx3, hr3, hf3⟩; obtain ⟨xk, xm, xs, xa, xl, xc, rfl⟩ := hx3.form; have hB3 := hBS.fx hf3 (by omega); have hal := (Below.refl w3.heap.size w3).alloc (Nat.le_refl _) (.cells #[.int .i64 xk, .int .i64 xm, .string xs, .slice xa xl xc] 132); have hr4 := hr3.on hal; have hB4 := hB3.keep hal; have hx4 := At4.new w3 (.int .i64 xk) (.int .i64 xm) (.string xs) (.slice xa xl xc) 132)
          | (go_at_call 215; refine (hIs _ hr4).mono ?_; rintro e w5 ⟨rfl, mq, rfl⟩; have hr5 := hr4.on (draws _ mq); have hB5 := hB4.keep (draws _ mq); have hf5 := ((hFS.trans hf3).alloc (.cells #[.int .i64 xk, .int .i64 xm, .string xs, .slice xa xl xc] 132)).drewN mq; have hx5 := hx4.blkR (w' := (w3.alloc (.cells #[.int .i64 xk, .int .i64 xm, .string xs, .slice xa xl xc] 132)).drewN mq) rfl; have hy5 : RdX (fun b => w2.heap.size ≤ b ∧ b < w3.heap.size) ((w3.alloc (.cells #[.int .i64 xk, .int .i64 xm, .string xs, .slice xa xl xc] 132)).drewN mq) x (.agg #[.int .i64 xk, .int .i64 xm, .string xs, .slice xa xl xc]) := hx3.keep (fun b hb hl => ⟨⟨by omega, hl⟩, hal.block b hl⟩); generalize (w3.alloc (.cells #[.int .i64 xk, .int .i64 xm, .string xs, .slice xa xl xc] 132)).drewN mq = w5 at *; have hX3 : X < w3.heap.size := hr3.lt; have hr6 : Rr (w5.setCell ⟨X, 1, none⟩ (.int .i64 ((n' : Int) + 1))) X (some ⟨g, off, none⟩) cap ws (n' + 1) b' := hr5.set1 (n' + 1); have hB6 := hB5.far (X := X) (i := 1) (by omega) (.int .i64 ((n' : Int) + 1)); have k0 := cell_far4 (X := X) (i := 1) (v := .int .i64 ((n' : Int) + 1)) (by omega) hx5.1; have k1 := cell_far4 (X := X) (i := 1) (v := .int .i64 ((n' : Int) + 1)) (by omega) hx5.2.1; have k2 := cell_far4 (X := X) (i := 1) (v := .int .i64 ((n' : Int) + 1)) (by omega) hx5.2.2.1; have k3 := cell_far4 (X := X) (i := 1) (v := .int .i64 ((n' : Int) + 1)) (by omega) hx5.2.2.2; obtain ⟨y0, y1, y2, y3, y4, _⟩ := id hr5; obtain ⟨q0, q1, q2, q3, t0, t1, t2, t3⟩ := id hB6))
        have hv := HV.out
        subst hv
        refine bodyPost_ret (prim_res (hB6.put _ _ _ _) rfl) rfl ⟨_, rfl, hy5.keep (fun b hb hl => ⟨by omega, ?_⟩), hr6.far4 hX _ _ _ _, (hf5.setX _).put4 (Nat.le_refl _) _ _ _ _⟩
        rw [heap_put (by omega)]
        exact Below.heap_setCell _ _ _ _ (fun e => by have : b = X := e; omega)
      | false =>
        rw [if_neg (by decide)] at hval
        have HV : Hid ((noX, n', if b' < 0 then (n' : Int) else b') = R) := hval
        clear hval htb
        go_wp2_with (first
          | (go_at_call 176; refine hBB.mono ?_; rintro e w3 ⟨v, rfl, hx3, hr3, hf3⟩; obtain ⟨xk, xm, xs, xa, xl, xc, rfl⟩ := hx3.form; have hB3 := hBS.fx hf3 (by omega); have hal := (Below.refl w3.heap.size w3).alloc (Nat.le_refl _) (.cells #[.int .i64 xk, .int .i64 xm, .string xs, .slice xa xl xc] 132); have hr4 := hr3.on hal; have hB4 := hB3.keep hal)
          | (go_at_call 215; refine (hIs _ hr4).mono ?_; rintro e w5 ⟨rfl, mq, rfl⟩; have hr5 := hr4.on (draws _ mq); have hB5 := hB4.keep (draws _ mq); have hf5 := ((hFS.trans hf3).alloc (.cells #[.int .i64 xk, .int .i64 xm, .string xs, .slice xa xl xc] 132)).drewN mq)
          | (go_at_call 214; refine (fail_any hr5).mono ?_; rintro e w6 ⟨rfl, hr6, hf6⟩; have hB6 := hB5.fx hf6 (by omega); obtain ⟨q0, q1, q2, q3, t0, t1, t2, t3⟩ := id hB6))
        have hv := HV.out
        subst hv
        exact bodyPost_ret (prim_res (hB6.put _ _ _ _) rfl) rfl ⟨_, rfl, rdX_no _ _, hr6.far4 hX _ _ _ _, (hf5.trans hf6).put4 (Nat.le_refl _) _ _ _ _⟩
    · have n40 : (bs == [40]) = false := beq_eq_false_iff_ne.2 h40
      have hval := HR.out
      rw [show psW ws (f + 1) 6 n = _ from psr6_leaf HG.out hu h40] at hval
      rcases hkind with ⟨rfl, hkn⟩ | ⟨rfl, hkn⟩ | ⟨rfl, _⟩
      · have hRs := fun w1 => rReserved_any ⟨bs.toArray⟩ w1
        have ebl : bl ⟨bs.toArray⟩ = bs := rfl
        rw [ebl] at hRs
        obtain ⟨rb, hrb⟩ : ∃ rb, rsvB bs = rb := ⟨_, rfl⟩
        have hv2 : leafY (valB 0) rsvB (1, bs) = if rb = false then some (mk0 2 0 ⟨bs.toArray⟩) else none := by
          unfold leafY
          rw [if_neg (by show ¬ 1 = 2; decide), hrb]
          cases rb <;> rfl
        rw [hv2] at hval
        rw [hrb] at hRs
        clear hv2 HG HR hP hB hu h40 hkn ebl hrb
        cases rb with
        | false =>
          rw [if_pos rfl] at hval
          have HV : Hid ((mk0 2 0 ⟨bs.toArray⟩, n + 1, (-1 : Int)) = R) := hval
          clear hval
          go_wp2_with (first
            | (go_at_call 103; refine (hRs _).mono ?_; rintro e w3 ⟨rfl, rfl⟩))
          have hv := HV.out
          subst hv
          exact bodyPost_ret (prim_res (hBS.put _ _ _ _) rfl) rfl ⟨_, rfl, rdX_ref _ _ _, hS.far4 hX _ _ _ _, hFS.put4 (Nat.le_refl _) _ _ _ _⟩
        | true =>
          rw [if_neg (by decide)] at hval
          have HV : Hid ((noX, n, (n : Int)) = R) := hval
          clear hval
          go_wp2_with (first
            | (go_at_call 103; refine (hRs _).mono ?_; rintro e w3 ⟨rfl, rfl⟩)
            | (go_at_call 214; refine hF2.mono ?_; rintro e w3 ⟨rfl, hr3, hf3⟩; have hB3 := hB2.fx hf3 (by omega); obtain ⟨q0, q1, q2, q3, t0, t1, t2, t3⟩ := id hB3))
          have hv := HV.out
          subst hv
          exact bodyPost_ret (prim_res (hB3.put _ _ _ _) rfl) rfl ⟨_, rfl, rdX_no _ _, hr3.far4 hX _ _ _ _, (hf2.trans hf3).put4 (Nat.le_refl _) _ _ _ _⟩
      · have hNm := fun w1 => refNumber_val ⟨bs.toArray⟩ w1 (by show bs.toArray.size ≤ _; simp; omega)
        have hv2 : leafY (valB 0) rsvB (2, bs) = some (mk0 1 (valB 0 bs) ⟨#[]⟩) := by unfold leafY; rw [if_pos rfl]
        rw [hv2] at hval
        have HV : Hid ((mk0 1 (valB 0 bs) ⟨#[]⟩, n + 1, (-1 : Int)) = R) := hval
        have ebl : bl ⟨bs.toArray⟩ = bs := rfl
        rw [ebl, hkn] at hNm
        clear hval hv2 HG HR hP hB hu h40 hkn ebl
        go_wp2_with (first
          | (go_at_call 78; refine (hNm _).mono ?_; rintro e w3 ⟨⟨xn, rfl, hxn⟩, rfl⟩))
        have hv := HV.out
        subst hv
        have hxv := hxn.out trivial
        subst hxv
        exact bodyPost_ret (prim_res (hBS.put _ _ _ _) rfl) rfl ⟨_, rfl, rdX_lit _ _ _, hS.far4 hX _ _ _ _, hFS.put4 (Nat.le_refl _) _ _ _ _⟩
      · have hv2 : leafY (valB 0) rsvB (3, bs) = none := by unfold leafY; rw [if_neg (by show ¬ 3 = 2; decide), if_neg (fun q => by have := q.1; simp at this)]
        rw [hv2] at hval
        have HV : Hid ((noX, n, (n : Int)) = R) := hval
        clear hval hv2 HG HR hP hB hu h40
        go_wp2_with (first
          | (go_at_call 214; refine hF2.mono ?_; rintro e w3 ⟨rfl, hr3, hf3⟩; have hB3 := hB2.fx hf3 (by omega); obtain ⟨q0, q1, q2, q3, t0, t1, t2, t3⟩ := id hB3))
        have hv := HV.out
        subst hv
        exact bodyPost_ret (prim_res (hB3.put _ _ _ _) rfl) rfl ⟨_, rfl, rdX_no _ _, hr3.far4 hX _ _ _ _, (hf2.trans hf3).put4 (Nat.le_refl _) _ _ _ _⟩
end Go.Proofs.YtccmmkhcacglhaaGreatDoor
