import Derived.Test.YtiddccohldjjcaaGreatDoorWh12
import Derived.Test.YtiddccohldjjcaaGreatDoorRows
import Derived.Test.YtiddccohldjjcaaGreatDoorWh05
import Derived.Test.YtiddccohldjjcaaGreatDoorWh04
import Derived.Shelf.LaysM
import Derived.Shelf.Strconv.Itoa4

/- What the document's sound and Formed do. -/
namespace Go.Proofs.YtiddccohldjjcaaGreatDoor
open Go.RowKit Go.Lib
set_option linter.unusedSimpArgs false
set_option linter.unusedVariables false

def SoundC (d : Nat) : Prop := ∀ (ok : Nat → Prop) (t : T d) (v : Value) (w : World), Tabs w → RdT ok w d t v → shrt 1000 d t = true →
  Calls Tryz.prog 57 #[v] w fun e w' => e = .returned (.bool (sdC d t)) ∧ Below w.heap.size w w'

set_option maxRecDepth 100000 in
set_option maxHeartbeats 4000000 in
theorem sound_step (d : Nat) (IH : SoundC d) : SoundC (d + 1) := by
  intro ok t v w hT h hsh
  obtain ⟨k, n, s, ps, rfl⟩ := T.open t
  obtain ⟨sl, rfl, hp⟩ := rdT_mk.1 h
  obtain ⟨a, cap, rfl, hlc, hcm, hcell⟩ := hp.form
  rw [shrt_mk] at hsh
  simp only [Bool.and_eq_true, decide_eq_true_eq, List.all_eq_true] at hsh
  rw [sdC_mk]
  have HC : Hid (∀ (i : Nat) (hi : i < ps.length), ∃ b off c0 c1 c2 c3, a = some ⟨b, off, none⟩ ∧ b < w.heap.size ∧ RdT ok w d ps[i] (.agg #[c0, c1, c2, c3]) ∧ w.cell? ⟨b, off + i * 4, none⟩ = some c0 ∧ w.cell? ⟨b, off + i * 4 + 1, none⟩ = some c1 ∧ w.cell? ⟨b, off + i * 4 + 2, none⟩ = some c2 ∧ w.cell? ⟨b, off + i * 4 + 3, none⟩ = some c3) := hcell
  have HP : Hid (∀ (i : Nat) (hi : i < ps.length), shrt 1000 d ps[i] = true) := fun i hi => hsh.2 _ (List.getElem_mem hi)
  have hss := hsh.1
  clear hcell h hp hsh
  have hb0 := (Below.refl w.heap.size w).alloc (Nat.le_refl _) (.cells #[.int .i64 k, .int .i64 n, .string s, .slice a ps.length cap] 24)
  by_cases k1 : k = 1
  · subst k1
    rw [if_pos rfl]
    clear HC HP hT
    go_enter Tryz.func57, Tryz.ntmps57
    go_wp2
    all_goals go_ret
    all_goals (refine ⟨ret_bool ?_, hb0⟩; first | rfl | (rw [Bool.eq_iff_iff]; simp; omega) | (rw [Bool.eq_iff_iff]; simp [*]; omega) | simp [*])
  rw [if_neg k1]
  have e1 : (k == 1) = false := beq_eq_false_iff_ne.2 k1
  by_cases k2 : k = 2
  · subst k2
    rw [if_pos rfl]
    have hn := refName_any s _ (hT.below hb0 (Nat.le_refl _)) (by omega)
    obtain ⟨z, hz⟩ : ∃ z, nameS (bl s) = z := ⟨_, rfl⟩
    rw [hz] at hn ⊢
    clear HC HP hT hz k1 e1
    go_enter Tryz.func57, Tryz.ntmps57
    go_wp2_with (first
      | (go_at_call 85; refine hn.mono ?_; rintro e w1 ⟨rfl, b1⟩))
    go_ret
    exact ⟨rfl, hb0.trans (b1.mono hb0.size)⟩
  rw [if_neg k2]
  have e2 : (k == 2) = false := beq_eq_false_iff_ne.2 k2
  by_cases k3 : k = 3
  · subst k3
    rw [if_pos (.inl rfl)]
    clear k1 k2 e1 e2 hb0
    have hE : ∃ V, ps.all (sdC d) = V := ⟨_, rfl⟩
    obtain ⟨V, hV⟩ := hE
    have HV : Hid (ps.all (sdC d) = V) := hV
    rw [hV]
    clear hV
    go_enter Tryz.func57, Tryz.ntmps57
    go_wp2
    go_loopw [37] (fun i wr => ∃ (j : Nat), j ≤ ps.length ∧ i = .int .i64 (j : Int) ∧ Hid ((ps.take j).all (sdC d) = true) ∧ At4 wr w.heap.size (.int .i64 3) (.int .i64 n) (.string s) (.slice a ps.length cap) ∧ Below w.heap.size w wr) (fun i _ => ps.length - (RowKit.intOf i).toNat)
    case atStart => exact ⟨0, Nat.zero_le _, rfl, rfl, At4.new _ _ _ _ _ _, (Below.refl _ _).alloc (Nat.le_refl _) _⟩
    case round =>
      obtain ⟨j, hj, rfl, hal, hA, hb⟩ := hrel
      obtain ⟨y0, y1, y2, y3⟩ := id hA
      by_cases hlt : j < ps.length
      · obtain ⟨b, off, c0, c1, c2, c3, rfl, hbl, hr, k0, k1, k2, k3⟩ := HC.out j hlt
        have C0 := (hb.cell (p := ⟨b, off + j * 4, none⟩) hbl).trans k0
        have C1 := (hb.cell (p := ⟨b, off + j * 4 + 1, none⟩) hbl).trans k1
        have C2 := (hb.cell (p := ⟨b, off + j * 4 + 2, none⟩) hbl).trans k2
        have C3 := (hb.cell (p := ⟨b, off + j * 4 + 3, none⟩) hbl).trans k3
        have hcall := IH ok ps[j] _ wr (hT.below hb (Nat.le_refl _)) (RdT.below hb (Nat.le_refl _) hr) (HP.out j hlt)
        have hst := all_take_succ (sdC d) ps j hlt hal.out
        have hno := all_not (sdC d) ps j hlt
        obtain ⟨z, hz⟩ : ∃ z, sdC d ps[j] = z := ⟨_, rfl⟩
        rw [hz] at hcall hst hno
        have i1 : (j : Int) < (ps.length : Int) := by omega
        have i2 : (0 : Int) ≤ (j : Int) := by omega
        clear k0 k1 k2 k3 hr hbl hz hT
        cases z with
        | true =>
          have hN : Hid ((ps.take (j + 1)).all (sdC d) = true) := hst rfl
          clear hst hno
          go_wp2_with (first
            | (go_at_call 57; refine hcall.mono ?_; rintro e w1 ⟨rfl, b1⟩))
          go_roundw
          case rel => exact ⟨j + 1, hlt, by go_num, hN, hA.keepB b1 (World.block_lt_of_cell? wr _ y0), hb.trans (b1.mono hb.size)⟩
          case measure => simp [RowKit.intOf]; omega
        | false =>
          have hF : V = false := by rw [← HV.out]; exact hno rfl
          subst hF
          clear hst hno
          go_wp2_with (first
            | (go_at_call 57; refine hcall.mono ?_; rintro e w1 ⟨rfl, b1⟩))
          go_ret
          exact ⟨ret_bool (by simp), hb.trans (b1.mono hb.size)⟩
      · have i1 : ¬ (j : Int) < (ps.length : Int) := by omega
        have hF : V = true := by rw [← HV.out]; have := hal.out; rw [List.take_of_length_le (by omega)] at this; exact this
        subst hF
        clear hT
        go_wp2
        go_ret
        exact ⟨ret_bool (by simp), hb⟩
  have e3 : (k == 3) = false := beq_eq_false_iff_ne.2 k3
  by_cases k4 : k = 4
  · subst k4
    rw [if_pos (.inr rfl)]
    clear k1 k2 e1 e2 k3 e3 hb0
    have hE : ∃ V, ps.all (sdC d) = V := ⟨_, rfl⟩
    obtain ⟨V, hV⟩ := hE
    have HV : Hid (ps.all (sdC d) = V) := hV
    rw [hV]
    clear hV
    go_enter Tryz.func57, Tryz.ntmps57
    go_wp2
    go_loopw [37] (fun i wr => ∃ (j : Nat), j ≤ ps.length ∧ i = .int .i64 (j : Int) ∧ Hid ((ps.take j).all (sdC d) = true) ∧ At4 wr w.heap.size (.int .i64 4) (.int .i64 n) (.string s) (.slice a ps.length cap) ∧ Below w.heap.size w wr) (fun i _ => ps.length - (RowKit.intOf i).toNat)
    case atStart => exact ⟨0, Nat.zero_le _, rfl, rfl, At4.new _ _ _ _ _ _, (Below.refl _ _).alloc (Nat.le_refl _) _⟩
    case round =>
      obtain ⟨j, hj, rfl, hal, hA, hb⟩ := hrel
      obtain ⟨y0, y1, y2, y3⟩ := id hA
      by_cases hlt : j < ps.length
      · obtain ⟨b, off, c0, c1, c2, c3, rfl, hbl, hr, k0, k1, k2, k3⟩ := HC.out j hlt
        have C0 := (hb.cell (p := ⟨b, off + j * 4, none⟩) hbl).trans k0
        have C1 := (hb.cell (p := ⟨b, off + j * 4 + 1, none⟩) hbl).trans k1
        have C2 := (hb.cell (p := ⟨b, off + j * 4 + 2, none⟩) hbl).trans k2
        have C3 := (hb.cell (p := ⟨b, off + j * 4 + 3, none⟩) hbl).trans k3
        have hcall := IH ok ps[j] _ wr (hT.below hb (Nat.le_refl _)) (RdT.below hb (Nat.le_refl _) hr) (HP.out j hlt)
        have hst := all_take_succ (sdC d) ps j hlt hal.out
        have hno := all_not (sdC d) ps j hlt
        obtain ⟨z, hz⟩ : ∃ z, sdC d ps[j] = z := ⟨_, rfl⟩
        rw [hz] at hcall hst hno
        have i1 : (j : Int) < (ps.length : Int) := by omega
        have i2 : (0 : Int) ≤ (j : Int) := by omega
        clear k0 k1 k2 k3 hr hbl hz hT
        cases z with
        | true =>
          have hN : Hid ((ps.take (j + 1)).all (sdC d) = true) := hst rfl
          clear hst hno
          go_wp2_with (first
            | (go_at_call 57; refine hcall.mono ?_; rintro e w1 ⟨rfl, b1⟩))
          go_roundw
          case rel => exact ⟨j + 1, hlt, by go_num, hN, hA.keepB b1 (World.block_lt_of_cell? wr _ y0), hb.trans (b1.mono hb.size)⟩
          case measure => simp [RowKit.intOf]; omega
        | false =>
          have hF : V = false := by rw [← HV.out]; exact hno rfl
          subst hF
          clear hst hno
          go_wp2_with (first
            | (go_at_call 57; refine hcall.mono ?_; rintro e w1 ⟨rfl, b1⟩))
          go_ret
          exact ⟨ret_bool (by simp), hb.trans (b1.mono hb.size)⟩
      · have i1 : ¬ (j : Int) < (ps.length : Int) := by omega
        have hF : V = true := by rw [← HV.out]; have := hal.out; rw [List.take_of_length_le (by omega)] at this; exact this
        subst hF
        clear hT
        go_wp2
        go_ret
        exact ⟨ret_bool (by simp), hb⟩
  rw [if_neg (by omega)]
  have e4 : (k == 4) = false := beq_eq_false_iff_ne.2 k4
  by_cases k5 : k = 5
  · subst k5
    rw [if_pos rfl]
    have hop := fun w1 => operator_any s w1
    clear k1 k2 e1 e2 k3 e3 k4 e4
    cases ho : opr s with
    | false =>
      simp only [ho] at hop
      clear HC HP hT
      go_enter Tryz.func57, Tryz.ntmps57
      go_wp2_with (first
        | (go_at_call 86; refine (hop _).mono ?_; rintro e w1 ⟨rfl, rfl⟩))
      go_ret
      exact ⟨ret_bool (by simp), hb0⟩
    | true =>
      simp only [ho] at hop
      rw [Bool.true_and]
      clear ho hb0
      have hE : ∃ V, ps.all (sdC d) = V := ⟨_, rfl⟩
      obtain ⟨V, hV⟩ := hE
      have HV : Hid (ps.all (sdC d) = V) := hV
      rw [hV]
      clear hV
      go_enter Tryz.func57, Tryz.ntmps57
      go_wp2_with (first | (go_at_call 86; refine (hop _).mono ?_; rintro e w1 ⟨rfl, rfl⟩))
      go_loopw [37] (fun i wr => ∃ (j : Nat), j ≤ ps.length ∧ i = .int .i64 (j : Int) ∧ Hid ((ps.take j).all (sdC d) = true) ∧ At4 wr w.heap.size (.int .i64 5) (.int .i64 n) (.string s) (.slice a ps.length cap) ∧ Below w.heap.size w wr) (fun i _ => ps.length - (RowKit.intOf i).toNat)
      case atStart => exact ⟨0, Nat.zero_le _, rfl, rfl, At4.new _ _ _ _ _ _, (Below.refl _ _).alloc (Nat.le_refl _) _⟩
      case round =>
        obtain ⟨j, hj, rfl, hal, hA, hb⟩ := hrel
        obtain ⟨y0, y1, y2, y3⟩ := id hA
        by_cases hlt : j < ps.length
        · obtain ⟨b, off, c0, c1, c2, c3, rfl, hbl, hr, k0, k1, k2, k3⟩ := HC.out j hlt
          have C0 := (hb.cell (p := ⟨b, off + j * 4, none⟩) hbl).trans k0
          have C1 := (hb.cell (p := ⟨b, off + j * 4 + 1, none⟩) hbl).trans k1
          have C2 := (hb.cell (p := ⟨b, off + j * 4 + 2, none⟩) hbl).trans k2
          have C3 := (hb.cell (p := ⟨b, off + j * 4 + 3, none⟩) hbl).trans k3
          have hcall := IH ok ps[j] _ wr (hT.below hb (Nat.le_refl _)) (RdT.below hb (Nat.le_refl _) hr) (HP.out j hlt)
          have hst := all_take_succ (sdC d) ps j hlt hal.out
          have hno := all_not (sdC d) ps j hlt
          obtain ⟨z, hz⟩ : ∃ z, sdC d ps[j] = z := ⟨_, rfl⟩
          rw [hz] at hcall hst hno
          have i1 : (j : Int) < (ps.length : Int) := by omega
          have i2 : (0 : Int) ≤ (j : Int) := by omega
          clear k0 k1 k2 k3 hr hbl hz hT
          cases z with
          | true =>
            have hN : Hid ((ps.take (j + 1)).all (sdC d) = true) := hst rfl
            clear hst hno
            go_wp2_with (first
              | (go_at_call 57; refine hcall.mono ?_; rintro e w1 ⟨rfl, b1⟩))
            go_roundw
            case rel => exact ⟨j + 1, hlt, by go_num, hN, hA.keepB b1 (World.block_lt_of_cell? wr _ y0), hb.trans (b1.mono hb.size)⟩
            case measure => simp [RowKit.intOf]; omega
          | false =>
            have hF : V = false := by rw [← HV.out]; exact hno rfl
            subst hF
            clear hst hno
            go_wp2_with (first
              | (go_at_call 57; refine hcall.mono ?_; rintro e w1 ⟨rfl, b1⟩))
            go_ret
            exact ⟨ret_bool (by simp), hb.trans (b1.mono hb.size)⟩
        · have i1 : ¬ (j : Int) < (ps.length : Int) := by omega
          have hF : V = true := by rw [← HV.out]; have := hal.out; rw [List.take_of_length_le (by omega)] at this; exact this
          subst hF
          clear hT
          go_wp2
          go_ret
          exact ⟨ret_bool (by simp), hb⟩
  rw [if_neg k5]
  have e5 : (k == 5) = false := beq_eq_false_iff_ne.2 k5
  clear HC HP hT
  go_enter Tryz.func57, Tryz.ntmps57
  go_wp2
  go_ret
  exact ⟨rfl, hb0⟩
theorem sound_any : ∀ (d : Nat), SoundC d
  | 0 => fun _ t => Empty.elim t
  | d + 1 => sound_step d (sound_any d)

set_option maxHeartbeats 1000000 in
theorem formed_any {ok : Nat → Prop} {d : Nat} {t : T d} {v : Value} {w : World} (hT : Tabs w) (h : RdT ok w d t v) (hc : cnt d t ≤ 1000) (hsh : shrt 1000 d t = true) :
    Calls Tryz.prog 39 #[v] w fun e w' => e = .returned (.bool (fmC d t)) ∧ Below w.heap.size w w' := by
  match d, t, h, hc, hsh with
  | 0, t, h, _, _ => exact Empty.elim t
  | d + 1, t, h, hc, hsh =>
    obtain ⟨k, n, s, ps, rfl⟩ := T.open t
    have h0 := h
    obtain ⟨sl, rfl, hp⟩ := rdT_mk.1 h
    have hb0 := (Below.refl w.heap.size w).alloc (Nat.le_refl _) (.cells #[.int .i64 k, .int .i64 n, .string s, sl] 24)
    have hA := At4.new w (.int .i64 k) (.int .i64 n) (.string s) sl 24
    have h1 := nodes_any (d + 1) ok (mkT k n s ps) _ _ (RdT.below hb0 (Nat.le_refl _) h0) hc
    have h2 := fun w1 (b1 : Below w.heap.size w w1) => deep_any (d + 1) ok (mkT k n s ps) _ w1 (RdT.below b1 (Nat.le_refl _) h0) hc
    have h3 := fun w1 (b1 : Below w.heap.size w w1) => sound_any (d + 1) ok (mkT k n s ps) _ w1 (hT.below b1 (Nat.le_refl _)) (RdT.below b1 (Nat.le_refl _) h0) hsh
    unfold fmC
    obtain ⟨x, hx⟩ : ∃ x, ndC (d + 1) (mkT k n s ps) = x := ⟨_, rfl⟩
    obtain ⟨y, hy⟩ : ∃ y, dpC (d + 1) (mkT k n s ps) = y := ⟨_, rfl⟩
    obtain ⟨z, hz⟩ : ∃ z, sdC (d + 1) (mkT k n s ps) = z := ⟨_, rfl⟩
    rw [hx] at h1 ⊢
    simp only [hy] at h2 ⊢
    simp only [hz] at h3 ⊢
    clear hx hy hz h0 hp hT hsh hc
    by_cases c1 : x ≤ 40
    · have f1 : (x : Int) ≤ 40 := by omega
      by_cases c2 : y ≤ 12
      · have f2 : (y : Int) ≤ 12 := by omega
        go_enter Tryz.func39, Tryz.ntmps39
        go_wp2_with (first
          | (go_at_call 55; refine h1.mono ?_; rintro e w1 ⟨rfl, b1⟩; have bb1 := hb0.trans (b1.mono hb0.size); have hA1 := hA.keepB b1 (by simp); obtain ⟨y0, y1, y2, y3⟩ := id hA1; have h2' := h2 w1 bb1; clear h1 h2)
          | (go_at_call 56; refine h2'.mono ?_; rintro e w2 ⟨rfl, b2⟩; have bb2 := bb1.trans (b2.mono bb1.size); obtain ⟨z0, z1, z2, z3⟩ := hA1.keepB b2 (World.block_lt_of_cell? w1 _ y0); have h3' := h3 w2 bb2; clear h2' h3 y0 y1 y2 y3)
          | (go_at_call 57; refine h3'.mono ?_; rintro e w3 ⟨rfl, b3⟩; have bb3 := bb2.trans (b3.mono bb2.size); clear h3' z0 z1 z2 z3))
        go_ret
        exact ⟨ret_bool (by simp [c1, c2]), bb3⟩
      · have f2 : ¬ (y : Int) ≤ 12 := by omega
        go_enter Tryz.func39, Tryz.ntmps39
        go_wp2_with (first
          | (go_at_call 55; refine h1.mono ?_; rintro e w1 ⟨rfl, b1⟩; have bb1 := hb0.trans (b1.mono hb0.size); obtain ⟨y0, y1, y2, y3⟩ := hA.keepB b1 (by simp); have h2' := h2 w1 bb1; clear h1 h2)
          | (go_at_call 56; refine h2'.mono ?_; rintro e w2 ⟨rfl, b2⟩; have bb2 := bb1.trans (b2.mono bb1.size); clear h2'))
        go_ret
        exact ⟨ret_bool (by simp [c1, c2]), bb2⟩
    · have f1 : ¬ (x : Int) ≤ 40 := by omega
      go_enter Tryz.func39, Tryz.ntmps39
      go_wp2_with (first
        | (go_at_call 55; refine h1.mono ?_; rintro e w1 ⟨rfl, b1⟩; have bb1 := hb0.trans (b1.mono hb0.size); clear h1))
      go_ret
      exact ⟨ret_bool (by simp [c1]), bb1⟩
end Go.Proofs.YtiddccohldjjcaaGreatDoor

/- What the document's level and Reserved do. -/
namespace Go.Proofs.YtiddccohldjjcaaGreatDoor
open Go.RowKit Go.Lib
set_option linter.unusedSimpArgs false
set_option linter.unusedVariables false
attribute [local go_sem ↓] Go.wp_at_zero Go.wp_at_succ

set_option maxRecDepth 100000 in
set_option maxHeartbeats 2000000 in
theorem rLevel_any (s : ByteArray) (w : World) : Calls Tryz.prog 42 #[.string s] w fun e w' => e = .returned (.int .i64 (lv (bl s) : Int)) ∧ w = w' := by
  have hS : ∀ x, (s.toList == x) = (bl s == x) := fun x => by rw [ByteArray.toList_eq]
  obtain ⟨l, hl⟩ : ∃ l, bl s = l := ⟨_, rfl⟩
  rw [hl]
  simp only [hl] at hS
  clear hl
  have q0 : (s.toList == [124, 124]) = (l == [124, 124]) := hS _
  have q1 : (s.toList == [38, 38]) = (l == [38, 38]) := hS _
  have q2 : (s.toList == [60]) = (l == [60]) := hS _
  have q3 : (s.toList == [60, 61]) = (l == [60, 61]) := hS _
  have q4 : (s.toList == [61, 61]) = (l == [61, 61]) := hS _
  have q5 : (s.toList == [33, 61]) = (l == [33, 61]) := hS _
  have q6 : (s.toList == [43]) = (l == [43]) := hS _
  have q7 : (s.toList == [45]) = (l == [45]) := hS _
  have q8 : (s.toList == [42]) = (l == [42]) := hS _
  clear hS
  cases r0 : (l == [124, 124])
  case true => rw [r0] at q0; clear q1 q2 q3 q4 q5 q6 q7 q8; go_enter Tryz.func42, Tryz.ntmps42; go_wp2; go_ret; exact ⟨by rw [eq_of_beq r0]; rfl, rfl⟩
  rw [r0] at q0
  cases r1 : (l == [38, 38])
  case true => rw [r1] at q1; clear q2 q3 q4 q5 q6 q7 q8; go_enter Tryz.func42, Tryz.ntmps42; go_wp2; go_ret; exact ⟨by rw [eq_of_beq r1]; rfl, rfl⟩
  rw [r1] at q1
  cases r2 : (l == [60])
  case true => rw [r2] at q2; clear q3 q4 q5 q6 q7 q8; go_enter Tryz.func42, Tryz.ntmps42; go_wp2; go_ret; exact ⟨by rw [eq_of_beq r2]; rfl, rfl⟩
  rw [r2] at q2
  cases r3 : (l == [60, 61])
  case true => rw [r3] at q3; clear q4 q5 q6 q7 q8; go_enter Tryz.func42, Tryz.ntmps42; go_wp2; go_ret; exact ⟨by rw [eq_of_beq r3]; rfl, rfl⟩
  rw [r3] at q3
  cases r4 : (l == [61, 61])
  case true => rw [r4] at q4; clear q5 q6 q7 q8; go_enter Tryz.func42, Tryz.ntmps42; go_wp2; go_ret; exact ⟨by rw [eq_of_beq r4]; rfl, rfl⟩
  rw [r4] at q4
  cases r5 : (l == [33, 61])
  case true => rw [r5] at q5; clear q6 q7 q8; go_enter Tryz.func42, Tryz.ntmps42; go_wp2; go_ret; exact ⟨by rw [eq_of_beq r5]; rfl, rfl⟩
  rw [r5] at q5
  cases r6 : (l == [43])
  case true => rw [r6] at q6; clear q7 q8; go_enter Tryz.func42, Tryz.ntmps42; go_wp2; go_ret; exact ⟨by rw [eq_of_beq r6]; rfl, rfl⟩
  rw [r6] at q6
  cases r7 : (l == [45])
  case true => rw [r7] at q7; clear q8; go_enter Tryz.func42, Tryz.ntmps42; go_wp2; go_ret; exact ⟨by rw [eq_of_beq r7]; rfl, rfl⟩
  rw [r7] at q7
  cases r8 : (l == [42])
  case true => rw [r8] at q8; go_enter Tryz.func42, Tryz.ntmps42; go_wp2; go_ret; exact ⟨by rw [eq_of_beq r8]; rfl, rfl⟩
  rw [r8] at q8
  go_enter Tryz.func42, Tryz.ntmps42
  go_wp2
  go_ret
  exact ⟨by have e : lv l = 0 := by simp [lv, beq_eq_false_iff_ne.1 r0, beq_eq_false_iff_ne.1 r1, beq_eq_false_iff_ne.1 r2, beq_eq_false_iff_ne.1 r3, beq_eq_false_iff_ne.1 r4, beq_eq_false_iff_ne.1 r5, beq_eq_false_iff_ne.1 r6, beq_eq_false_iff_ne.1 r7, beq_eq_false_iff_ne.1 r8]
            rw [e]; rfl, rfl⟩
set_option maxRecDepth 100000 in
set_option maxHeartbeats 2000000 in
theorem rReserved_any (s : ByteArray) (w : World) : Calls Tryz.prog 13 #[.string s] w fun e w' => e = .returned (.bool (rsvB (bl s))) ∧ w = w' := by
  have hS : ∀ x, (s.toList == x) = (bl s == x) := fun x => by rw [ByteArray.toList_eq]
  obtain ⟨l, hl⟩ : ∃ l, bl s = l := ⟨_, rfl⟩
  rw [hl]
  simp only [hl] at hS
  clear hl
  have q0 : (s.toList == [99, 104, 97, 114, 116]) = (l == [99, 104, 97, 114, 116]) := hS _
  have q1 : (s.toList == [118, 97, 114]) = (l == [118, 97, 114]) := hS _
  have q2 : (s.toList == [115, 116, 97, 116, 101]) = (l == [115, 116, 97, 116, 101]) := hS _
  have q3 : (s.toList == [97, 108, 108]) = (l == [97, 108, 108]) := hS _
  have q4 : (s.toList == [101, 110, 100]) = (l == [101, 110, 100]) := hS _
  have q5 : (s.toList == [100, 111]) = (l == [100, 111]) := hS _
  have q6 : (s.toList == [117, 110, 100, 111]) = (l == [117, 110, 100, 111]) := hS _
  have q7 : (s.toList == [97, 116]) = (l == [97, 116]) := hS _
  have q8 : (s.toList == [114, 101, 116, 114, 105, 101, 115]) = (l == [114, 101, 116, 114, 105, 101, 115]) := hS _
  have q9 : (s.toList == [111, 110]) = (l == [111, 110]) := hS _
  have q10 : (s.toList == [105, 102]) = (l == [105, 102]) := hS _
  have q11 : (s.toList == [103, 111]) = (l == [103, 111]) := hS _
  have q12 : (s.toList == [115, 101, 116]) = (l == [115, 101, 116]) := hS _
  clear hS
  cases r0 : (l == [99, 104, 97, 114, 116])
  case true => rw [r0] at q0; clear q1 q2 q3 q4 q5 q6 q7 q8 q9 q10 q11 q12; go_enter Tryz.func13, Tryz.ntmps13; go_wp2; go_ret; exact ⟨by rw [eq_of_beq r0]; rfl, rfl⟩
  rw [r0] at q0
  cases r1 : (l == [118, 97, 114])
  case true => rw [r1] at q1; clear q2 q3 q4 q5 q6 q7 q8 q9 q10 q11 q12; go_enter Tryz.func13, Tryz.ntmps13; go_wp2; go_ret; exact ⟨by rw [eq_of_beq r1]; rfl, rfl⟩
  rw [r1] at q1
  cases r2 : (l == [115, 116, 97, 116, 101])
  case true => rw [r2] at q2; clear q3 q4 q5 q6 q7 q8 q9 q10 q11 q12; go_enter Tryz.func13, Tryz.ntmps13; go_wp2; go_ret; exact ⟨by rw [eq_of_beq r2]; rfl, rfl⟩
  rw [r2] at q2
  cases r3 : (l == [97, 108, 108])
  case true => rw [r3] at q3; clear q4 q5 q6 q7 q8 q9 q10 q11 q12; go_enter Tryz.func13, Tryz.ntmps13; go_wp2; go_ret; exact ⟨by rw [eq_of_beq r3]; rfl, rfl⟩
  rw [r3] at q3
  cases r4 : (l == [101, 110, 100])
  case true => rw [r4] at q4; clear q5 q6 q7 q8 q9 q10 q11 q12; go_enter Tryz.func13, Tryz.ntmps13; go_wp2; go_ret; exact ⟨by rw [eq_of_beq r4]; rfl, rfl⟩
  rw [r4] at q4
  cases r5 : (l == [100, 111])
  case true => rw [r5] at q5; clear q6 q7 q8 q9 q10 q11 q12; go_enter Tryz.func13, Tryz.ntmps13; go_wp2; go_ret; exact ⟨by rw [eq_of_beq r5]; rfl, rfl⟩
  rw [r5] at q5
  cases r6 : (l == [117, 110, 100, 111])
  case true => rw [r6] at q6; clear q7 q8 q9 q10 q11 q12; go_enter Tryz.func13, Tryz.ntmps13; go_wp2; go_ret; exact ⟨by rw [eq_of_beq r6]; rfl, rfl⟩
  rw [r6] at q6
  cases r7 : (l == [97, 116])
  case true => rw [r7] at q7; clear q8 q9 q10 q11 q12; go_enter Tryz.func13, Tryz.ntmps13; go_wp2; go_ret; exact ⟨by rw [eq_of_beq r7]; rfl, rfl⟩
  rw [r7] at q7
  cases r8 : (l == [114, 101, 116, 114, 105, 101, 115])
  case true => rw [r8] at q8; clear q9 q10 q11 q12; go_enter Tryz.func13, Tryz.ntmps13; go_wp2; go_ret; exact ⟨by rw [eq_of_beq r8]; rfl, rfl⟩
  rw [r8] at q8
  cases r9 : (l == [111, 110])
  case true => rw [r9] at q9; clear q10 q11 q12; go_enter Tryz.func13, Tryz.ntmps13; go_wp2; go_ret; exact ⟨by rw [eq_of_beq r9]; rfl, rfl⟩
  rw [r9] at q9
  cases r10 : (l == [105, 102])
  case true => rw [r10] at q10; clear q11 q12; go_enter Tryz.func13, Tryz.ntmps13; go_wp2; go_ret; exact ⟨by rw [eq_of_beq r10]; rfl, rfl⟩
  rw [r10] at q10
  cases r11 : (l == [103, 111])
  case true => rw [r11] at q11; clear q12; go_enter Tryz.func13, Tryz.ntmps13; go_wp2; go_ret; exact ⟨by rw [eq_of_beq r11]; rfl, rfl⟩
  rw [r11] at q11
  cases r12 : (l == [115, 101, 116])
  case true => rw [r12] at q12; go_enter Tryz.func13, Tryz.ntmps13; go_wp2; go_ret; exact ⟨by rw [eq_of_beq r12]; rfl, rfl⟩
  rw [r12] at q12
  go_enter Tryz.func13, Tryz.ntmps13
  go_wp2
  go_ret
  exact ⟨by have e : rsvB l = false := by simp [rsvB, rsv13, beq_eq_false_iff_ne.1 r0, beq_eq_false_iff_ne.1 r1, beq_eq_false_iff_ne.1 r2, beq_eq_false_iff_ne.1 r3, beq_eq_false_iff_ne.1 r4, beq_eq_false_iff_ne.1 r5, beq_eq_false_iff_ne.1 r6, beq_eq_false_iff_ne.1 r7, beq_eq_false_iff_ne.1 r8, beq_eq_false_iff_ne.1 r9, beq_eq_false_iff_ne.1 r10, beq_eq_false_iff_ne.1 r11, beq_eq_false_iff_ne.1 r12]
            rw [e]; rfl, rfl⟩
end Go.Proofs.YtiddccohldjjcaaGreatDoor

/- What the document's plain does. -/
namespace Go.Proofs.YtiddccohldjjcaaGreatDoor
open Go.RowKit Go.Lib
set_option linter.unusedSimpArgs false
set_option linter.unusedVariables false
def PlainC (d : Nat) : Prop := ∀ (ok : Nat → Prop) (t : T d) (v : Value) (w : World), RdT ok w d t v →
  Calls Tryz.prog 40 #[v] w fun e w' => e = .returned (.bool (plC d t)) ∧ Below w.heap.size w w'
set_option maxRecDepth 100000 in
set_option maxHeartbeats 4000000 in
theorem plain_step (d : Nat) (IH : PlainC d) : PlainC (d + 1) := by
  intro ok t v w h
  obtain ⟨k, n, s, ps, rfl⟩ := T.open t
  obtain ⟨sl, rfl, hp⟩ := rdT_mk.1 h
  obtain ⟨a, cap, rfl, hlc, hcm, hcell⟩ := hp.form
  rw [plC_mk]
  have hRv := fun w1 => rReserved_any s w1
  have HC : Hid (∀ (i : Nat) (hi : i < ps.length), ∃ b off c0 c1 c2 c3, a = some ⟨b, off, none⟩ ∧ b < w.heap.size ∧ RdT ok w d ps[i] (.agg #[c0, c1, c2, c3]) ∧ w.cell? ⟨b, off + i * 4, none⟩ = some c0 ∧ w.cell? ⟨b, off + i * 4 + 1, none⟩ = some c1 ∧ w.cell? ⟨b, off + i * 4 + 2, none⟩ = some c2 ∧ w.cell? ⟨b, off + i * 4 + 3, none⟩ = some c3) := hcell
  clear hcell h hp
  have hb0 := (Below.refl w.heap.size w).alloc (Nat.le_refl _) (.cells #[.int .i64 k, .int .i64 n, .string s, .slice a ps.length cap] 24)
  obtain ⟨z, hz⟩ : ∃ z, rsvB s.data.toList = z := ⟨_, rfl⟩
  simp only [show rsvB (bl s) = z from hz] at hRv
  rw [hz]
  clear hz
  by_cases k2 : k = 2 ∧ z = true
  · obtain ⟨rfl, rfl⟩ := k2
    clear HC
    go_enter Tryz.func40, Tryz.ntmps40
    go_wp2_with (first | (go_at_call 13; refine (hRv _).mono ?_; rintro e w1 ⟨rfl, rfl⟩))
    go_ret
    exact ⟨rfl, hb0⟩
  have hz2 : (decide (k = 2) && z) = false := by
    by_cases hk : k = 2
    · have : z = false := by cases z with | true => exact absurd ⟨hk, rfl⟩ k2 | false => rfl
      rw [this, Bool.and_false]
    · rw [decide_eq_false hk]; rfl
  rw [hz2]
  have eV : (!false && ps.all (plC d)) = ps.all (plC d) := by simp
  rw [eV]
  obtain ⟨V, hV⟩ : ∃ V, ps.all (plC d) = V := ⟨_, rfl⟩
  have HV : Hid (ps.all (plC d) = V) := hV
  rw [hV]
  clear hV eV hz2 hb0
  have hk3 : (k = 2 ∧ z = false) ∨ (k == 2) = false := by
    by_cases hk : k = 2
    · exact .inl ⟨hk, by cases z with | true => exact absurd ⟨hk, rfl⟩ k2 | false => rfl⟩
    · exact .inr (beq_eq_false_iff_ne.2 hk)
  clear k2
  rcases hk3 with ⟨rfl, rfl⟩ | e2
  · go_enter Tryz.func40, Tryz.ntmps40
    go_wp2_with (first | (go_at_call 13; refine (hRv _).mono ?_; rintro e w1 ⟨rfl, rfl⟩))
    clear hRv
    go_loopw [15] (fun i wr => ∃ (j : Nat), j ≤ ps.length ∧ i = .int .i64 (j : Int) ∧ Hid ((ps.take j).all (plC d) = true) ∧ At4 wr w.heap.size (.int .i64 2) (.int .i64 n) (.string s) (.slice a ps.length cap) ∧ Below w.heap.size w wr) (fun i _ => ps.length - (RowKit.intOf i).toNat)
    case atStart => exact ⟨0, Nat.zero_le _, rfl, rfl, At4.new _ _ _ _ _ _, (Below.refl _ _).alloc (Nat.le_refl _) _⟩
    case round =>
      obtain ⟨j, hj, rfl, hal, hA, hb⟩ := hrel
      obtain ⟨y0, y1, y2, y3⟩ := id hA
      by_cases hlt : j < ps.length
      · obtain ⟨b, off, c0, c1, c2, c3, rfl, hbl, hr, k0, k1, k2, k3⟩ := HC.out j hlt
        have C0 := (hb.cell (p := ⟨b, off + j * 4, none⟩) hbl).trans k0
        have C1 := (hb.cell (p := ⟨b, off + j * 4 + 1, none⟩) hbl).trans k1
        have C2 := (hb.cell (p := ⟨b, off + j * 4 + 2, none⟩) hbl).trans k2
        have C3 := (hb.cell (p := ⟨b, off + j * 4 + 3, none⟩) hbl).trans k3
        have hcall := IH ok ps[j] _ wr (RdT.below hb (Nat.le_refl _) hr)
        have hst := all_take_succ (plC d) ps j hlt hal.out
        have hno := all_not (plC d) ps j hlt
        obtain ⟨z, hz⟩ : ∃ z, plC d ps[j] = z := ⟨_, rfl⟩
        rw [hz] at hcall hst hno
        have i1 : (j : Int) < (ps.length : Int) := by omega
        have i2 : (0 : Int) ≤ (j : Int) := by omega
        clear k0 k1 k2 k3 hr hbl hz
        cases z with
        | true =>
          have hN : Hid ((ps.take (j + 1)).all (plC d) = true) := hst rfl
          clear hst hno
          go_wp2_with (first
            | (go_at_call 40; refine hcall.mono ?_; rintro e w1 ⟨rfl, b1⟩))
          go_roundw
          case rel => exact ⟨j + 1, hlt, by go_num, hN, hA.keepB b1 (World.block_lt_of_cell? wr _ y0), hb.trans (b1.mono hb.size)⟩
          case measure => simp [RowKit.intOf]; omega
        | false =>
          have hF : V = false := by rw [← HV.out]; exact hno rfl
          subst hF
          clear hst hno
          go_wp2_with (first
            | (go_at_call 40; refine hcall.mono ?_; rintro e w1 ⟨rfl, b1⟩))
          go_ret
          exact ⟨rfl, hb.trans (b1.mono hb.size)⟩
      · have i1 : ¬ (j : Int) < (ps.length : Int) := by omega
        have hF : V = true := by rw [← HV.out]; have := hal.out; rw [List.take_of_length_le (by omega)] at this; exact this
        subst hF
        go_wp2
        go_ret
        exact ⟨rfl, hb⟩
  · go_enter Tryz.func40, Tryz.ntmps40
    go_wp2_with (first | (go_at_call 13; refine (hRv _).mono ?_; rintro e w1 ⟨rfl, rfl⟩))
    clear hRv
    go_loopw [15] (fun i wr => ∃ (j : Nat), j ≤ ps.length ∧ i = .int .i64 (j : Int) ∧ Hid ((ps.take j).all (plC d) = true) ∧ At4 wr w.heap.size (.int .i64 k) (.int .i64 n) (.string s) (.slice a ps.length cap) ∧ Below w.heap.size w wr) (fun i _ => ps.length - (RowKit.intOf i).toNat)
    case atStart => exact ⟨0, Nat.zero_le _, rfl, rfl, At4.new _ _ _ _ _ _, (Below.refl _ _).alloc (Nat.le_refl _) _⟩
    case round =>
      obtain ⟨j, hj, rfl, hal, hA, hb⟩ := hrel
      obtain ⟨y0, y1, y2, y3⟩ := id hA
      by_cases hlt : j < ps.length
      · obtain ⟨b, off, c0, c1, c2, c3, rfl, hbl, hr, k0, k1, k2, k3⟩ := HC.out j hlt
        have C0 := (hb.cell (p := ⟨b, off + j * 4, none⟩) hbl).trans k0
        have C1 := (hb.cell (p := ⟨b, off + j * 4 + 1, none⟩) hbl).trans k1
        have C2 := (hb.cell (p := ⟨b, off + j * 4 + 2, none⟩) hbl).trans k2
        have C3 := (hb.cell (p := ⟨b, off + j * 4 + 3, none⟩) hbl).trans k3
        have hcall := IH ok ps[j] _ wr (RdT.below hb (Nat.le_refl _) hr)
        have hst := all_take_succ (plC d) ps j hlt hal.out
        have hno := all_not (plC d) ps j hlt
        obtain ⟨z, hz⟩ : ∃ z, plC d ps[j] = z := ⟨_, rfl⟩
        rw [hz] at hcall hst hno
        have i1 : (j : Int) < (ps.length : Int) := by omega
        have i2 : (0 : Int) ≤ (j : Int) := by omega
        clear k0 k1 k2 k3 hr hbl hz
        cases z with
        | true =>
          have hN : Hid ((ps.take (j + 1)).all (plC d) = true) := hst rfl
          clear hst hno
          go_wp2_with (first
            | (go_at_call 40; refine hcall.mono ?_; rintro e w1 ⟨rfl, b1⟩))
          go_roundw
          case rel => exact ⟨j + 1, hlt, by go_num, hN, hA.keepB b1 (World.block_lt_of_cell? wr _ y0), hb.trans (b1.mono hb.size)⟩
          case measure => simp [RowKit.intOf]; omega
        | false =>
          have hF : V = false := by rw [← HV.out]; exact hno rfl
          subst hF
          clear hst hno
          go_wp2_with (first
            | (go_at_call 40; refine hcall.mono ?_; rintro e w1 ⟨rfl, b1⟩))
          go_ret
          exact ⟨rfl, hb.trans (b1.mono hb.size)⟩
      · have i1 : ¬ (j : Int) < (ps.length : Int) := by omega
        have hF : V = true := by rw [← HV.out]; have := hal.out; rw [List.take_of_length_le (by omega)] at this; exact this
        subst hF
        go_wp2
        go_ret
        exact ⟨rfl, hb⟩
theorem plain_any : ∀ d, PlainC d
  | 0 => fun _ t => Empty.elim t
  | d + 1 => plain_step d (plain_any d)
end Go.Proofs.YtiddccohldjjcaaGreatDoor
/- Contracts of the library at this program. -/
namespace Go.Proofs.YtiddccohldjjcaaGreatDoor
open Go.Shelf
set_option linter.unusedVariables false

def renF : Ren := { f := fun x => match x with | 173 => 35 | 246 => 52 | 283 => 81 | 284 => 82 | 285 => 83 | 286 => 84 | 129 => 80 | 317 => 99 | 318 => 100 | 319 => 101 | 320 => 102 | 337 => 108 | 338 => 109 | n => n, t := fun x => match x with | 2 => 2 | 3 => 3 | 9 => 9 | 4 => 4 | 171 => 119 | 0 => 0 | 53 => 117 | 37 => 121 | 5 => 5 | 173 => 122 | 212 => 140 | 51 => 115 | 20 => 20 | 213 => 141 | 46 => 100 | 232 => 153 | 233 => 154 | n => n, g := fun x => match x with | 17 => 0 | 18 => 1 | 19 => 2 | n => n }
theorem laysF : LaysM.n173 Tryz.prog renF :=
  { mixed := by kernel_rfl, f129 := Tryz.func80.trans (congrArg some (by kernel_rfl)), f173 := Tryz.func35.trans (congrArg some (by kernel_rfl)), f246 := Tryz.func52.trans (congrArg some (by kernel_rfl)), f283 := Tryz.func81.trans (congrArg some (by kernel_rfl)), f284 := Tryz.func82.trans (congrArg some (by kernel_rfl)), f285 := Tryz.func83.trans (congrArg some (by kernel_rfl)), f286 := Tryz.func84.trans (congrArg some (by kernel_rfl)), f317 := Tryz.func99.trans (congrArg some (by kernel_rfl)), f318 := Tryz.func100.trans (congrArg some (by kernel_rfl)), f319 := Tryz.func101.trans (congrArg some (by kernel_rfl)), f320 := Tryz.func102.trans (congrArg some (by kernel_rfl)), f337 := Tryz.func108.trans (congrArg some (by kernel_rfl)), f338 := Tryz.func109.trans (congrArg some (by kernel_rfl)), t0 := Tryz.underlying0, a0 := Tryz.isAgg0, z0 := Tryz.sizeOf0, v0 := Tryz.zeroValue0, t2 := Tryz.underlying2, a2 := Tryz.isAgg2, z2 := Tryz.sizeOf2, v2 := Tryz.zeroValue2, t3 := Tryz.underlying3, a3 := Tryz.isAgg3, z3 := Tryz.sizeOf3, v3 := Tryz.zeroValue3, t4 := Tryz.underlying4, a4 := Tryz.isAgg4, z4 := Tryz.sizeOf4, v4 := Tryz.zeroValue4, t5 := Tryz.underlying5, a5 := Tryz.isAgg5, z5 := Tryz.sizeOf5, v5 := Tryz.zeroValue5, t9 := Tryz.underlying9, a9 := Tryz.isAgg9, z9 := Tryz.sizeOf9, v9 := Tryz.zeroValue9, t20 := Tryz.underlying20, a20 := Tryz.isAgg20, z20 := Tryz.sizeOf20, v20 := Tryz.zeroValue20, t37 := Tryz.underlying121, a37 := Tryz.isAgg121, z37 := Tryz.sizeOf121, v37 := Tryz.zeroValue121, t46 := Tryz.underlying100, a46 := Tryz.isAgg100, z46 := Tryz.sizeOf100, v46 := Tryz.zeroValue100, t51 := Tryz.underlying115, a51 := Tryz.isAgg115, z51 := Tryz.sizeOf115, v51 := Tryz.zeroValue115, t53 := Tryz.underlying117, a53 := Tryz.isAgg117, z53 := Tryz.sizeOf117, v53 := Tryz.zeroValue117, t171 := Tryz.underlying119, a171 := Tryz.isAgg119, z171 := Tryz.sizeOf119, v171 := Tryz.zeroValue119, t173 := Tryz.underlying122, a173 := Tryz.isAgg122, z173 := Tryz.sizeOf122, v173 := Tryz.zeroValue122, t212 := Tryz.underlying140, a212 := Tryz.isAgg140, z212 := Tryz.sizeOf140, v212 := Tryz.zeroValue140, t213 := Tryz.underlying141, a213 := Tryz.isAgg141, z213 := Tryz.sizeOf141, t232 := Tryz.underlying153, a232 := Tryz.isAgg153, z232 := Tryz.sizeOf153, v232 := Tryz.zeroValue153, t233 := Tryz.underlying154, a233 := Tryz.isAgg154, z233 := Tryz.sizeOf154, v233 := Tryz.zeroValue154, g17 := by kernel_rfl, g18 := by kernel_rfl, g19 := by kernel_rfl, i0 := by kernel_rfl, i2 := by kernel_rfl, i3 := by kernel_rfl, i4 := by kernel_rfl, i5 := by kernel_rfl, i9 := by kernel_rfl, i20 := by kernel_rfl, i37 := by kernel_rfl, i46 := by kernel_rfl, i51 := by kernel_rfl, i53 := by kernel_rfl, i171 := by kernel_rfl, i173 := by kernel_rfl, i212 := by kernel_rfl, i232 := by kernel_rfl, i233 := by kernel_rfl, m17 := by kernel_rfl, m18 := by kernel_rfl, m19 := by kernel_rfl }
end Go.Proofs.YtiddccohldjjcaaGreatDoor
