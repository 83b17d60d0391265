
/- What the document's sound and Formed do. -/
import Derived.Test.YtiddccohldjjcaaDoorExF
namespace Go.Proofs.YtiddccohldjjcaaDoor
open Go.RowKit Go.Lib
set_option linter.unusedSimpArgs false
set_option linter.unusedVariables false

def SoundC (d : Nat) : Prop := ∀ (ok : Nat → Prop) (t : T d) (v : Value) (w : World), Tabs w → RdT ok w d t v → shrt 1000 d t = true →
  Calls Tryd.prog 46 #[v] w fun e w' => e = .returned (.bool (sdC d t)) ∧ Below w.heap.size w w'

set_option maxRecDepth 100000 in
set_option maxHeartbeats 4000000 in
theorem sound_step (d : Nat) (IH : SoundC d) : SoundC (d + 1) := by
  intro ok t v w hT h hsh
  obtain ⟨k, n, s, ps, rfl⟩ := T.open t
  obtain ⟨sl, rfl, hp⟩ := rdT_mk.1 h
  obtain ⟨a, cap, rfl, hlc, hcm, hcell⟩ := hp.form
  rw [shrt_mk] at hsh
  simp only [Bool.and_eq_true, decide_eq_true_eq, List.all_eq_true] at hsh
  rw [sdC_mk]
  have HC : Hid (∀ (i : Nat) (hi : i < ps.length), ∃ b off c0 c1 c2 c3, a = some ⟨b, off, none⟩ ∧ b < w.heap.size ∧ RdT ok w d ps[i] (.agg #[c0, c1, c2, c3]) ∧ w.cell? ⟨b, off + i * 4, none⟩ = some c0 ∧ w.cell? ⟨b, off + i * 4 + 1, none⟩ = some c1 ∧ w.cell? ⟨b, off + i * 4 + 2, none⟩ = some c2 ∧ w.cell? ⟨b, off + i * 4 + 3, none⟩ = some c3) := hcell
  have HP : Hid (∀ (i : Nat) (hi : i < ps.length), shrt 1000 d ps[i] = true) := fun i hi => hsh.2 _ (List.getElem_mem hi)
  have hss := hsh.1
  clear hcell h hp hsh
  have hb0 := (Below.refl w.heap.size w).alloc (Nat.le_refl _) (.cells #[.int .i64 k, .int .i64 n, .string s, .slice a ps.length cap] 30)
  by_cases k1 : k = 1
  · subst k1
    rw [if_pos rfl]
    clear HC HP hT
    go_enter Tryd.func46, Tryd.ntmps46
    go_wp2
    all_goals go_ret
    all_goals (refine ⟨ret_bool ?_, hb0⟩; first | rfl | (rw [Bool.eq_iff_iff]; simp; omega) | (rw [Bool.eq_iff_iff]; simp [*]; omega) | simp [*])
  rw [if_neg k1]
  have e1 : (k == 1) = false := beq_eq_false_iff_ne.2 k1
  by_cases k2 : k = 2
  · subst k2
    rw [if_pos rfl]
    have hn := refName_any s _ (hT.below hb0 (Nat.le_refl _)) (by omega)
    obtain ⟨z, hz⟩ : ∃ z, nameS (bl s) = z := ⟨_, rfl⟩
    rw [hz] at hn ⊢
    clear HC HP hT hz k1 e1
    go_enter Tryd.func46, Tryd.ntmps46
    go_wp2_with (first
      | (go_at_call 33; refine hn.mono ?_; rintro e w1 ⟨rfl, b1⟩))
    go_ret
    exact ⟨rfl, hb0.trans (b1.mono hb0.size)⟩
  rw [if_neg k2]
  have e2 : (k == 2) = false := beq_eq_false_iff_ne.2 k2
  by_cases k3 : k = 3
  · subst k3
    rw [if_pos (.inl rfl)]
    clear k1 k2 e1 e2 hb0
    have hE : ∃ V, ps.all (sdC d) = V := ⟨_, rfl⟩
    obtain ⟨V, hV⟩ := hE
    have HV : Hid (ps.all (sdC d) = V) := hV
    rw [hV]
    clear hV
    go_enter Tryd.func46, Tryd.ntmps46
    go_wp2
    go_loopw [37] (fun i wr => ∃ (j : Nat), j ≤ ps.length ∧ i = .int .i64 (j : Int) ∧ Hid ((ps.take j).all (sdC d) = true) ∧ At4 wr w.heap.size (.int .i64 3) (.int .i64 n) (.string s) (.slice a ps.length cap) ∧ Below w.heap.size w wr) (fun i _ => ps.length - (RowKit.intOf i).toNat)
    case atStart => exact ⟨0, Nat.zero_le _, rfl, rfl, At4.new _ _ _ _ _ _, (Below.refl _ _).alloc (Nat.le_refl _) _⟩
    case round =>
      obtain ⟨j, hj, rfl, hal, hA, hb⟩ := hrel
      obtain ⟨y0, y1, y2, y3⟩ := id hA
      by_cases hlt : j < ps.length
      · obtain ⟨b, off, c0, c1, c2, c3, rfl, hbl, hr, k0, k1, k2, k3⟩ := HC.out j hlt
        have C0 := (hb.cell (p := ⟨b, off + j * 4, none⟩) hbl).trans k0
        have C1 := (hb.cell (p := ⟨b, off + j * 4 + 1, none⟩) hbl).trans k1
        have C2 := (hb.cell (p := ⟨b, off + j * 4 + 2, none⟩) hbl).trans k2
        have C3 := (hb.cell (p := ⟨b, off + j * 4 + 3, none⟩) hbl).trans k3
        have hcall := IH ok ps[j] _ wr (hT.below hb (Nat.le_refl _)) (RdT.below hb (Nat.le_refl _) hr) (HP.out j hlt)
        have hst := all_take_succ (sdC d) ps j hlt hal.out
        have hno := all_not (sdC d) ps j hlt
        obtain ⟨z, hz⟩ : ∃ z, sdC d ps[j] = z := ⟨_, rfl⟩
        rw [hz] at hcall hst hno
        have i1 : (j : Int) < (ps.length : Int) := by omega
        have i2 : (0 : Int) ≤ (j : Int) := by omega
        clear k0 k1 k2 k3 hr hbl hz hT
        cases z with
        | true =>
          have hN : Hid ((ps.take (j + 1)).all (sdC d) = true) := hst rfl
          clear hst hno
          go_wp2_with (first
            | (go_at_call 46; refine hcall.mono ?_; rintro e w1 ⟨rfl, b1⟩))
          go_roundw
          case rel => exact ⟨j + 1, hlt, by go_num, hN, hA.keepB b1 (World.block_lt_of_cell? wr _ y0), hb.trans (b1.mono hb.size)⟩
          case measure => simp [RowKit.intOf]; omega
        | false =>
          have hF : V = false := by rw [← HV.out]; exact hno rfl
          subst hF
          clear hst hno
          go_wp2_with (first
            | (go_at_call 46; refine hcall.mono ?_; rintro e w1 ⟨rfl, b1⟩))
          go_ret
          exact ⟨ret_bool (by simp), hb.trans (b1.mono hb.size)⟩
      · have i1 : ¬ (j : Int) < (ps.length : Int) := by omega
        have hF : V = true := by rw [← HV.out]; have := hal.out; rw [List.take_of_length_le (by omega)] at this; exact this
        subst hF
        clear hT
        go_wp2
        go_ret
        exact ⟨ret_bool (by simp), hb⟩
  have e3 : (k == 3) = false := beq_eq_false_iff_ne.2 k3
  by_cases k4 : k = 4
  · subst k4
    rw [if_pos (.inr rfl)]
    clear k1 k2 e1 e2 k3 e3 hb0
    have hE : ∃ V, ps.all (sdC d) = V := ⟨_, rfl⟩
    obtain ⟨V, hV⟩ := hE
    have HV : Hid (ps.all (sdC d) = V) := hV
    rw [hV]
    clear hV
    go_enter Tryd.func46, Tryd.ntmps46
    go_wp2
    go_loopw [37] (fun i wr => ∃ (j : Nat), j ≤ ps.length ∧ i = .int .i64 (j : Int) ∧ Hid ((ps.take j).all (sdC d) = true) ∧ At4 wr w.heap.size (.int .i64 4) (.int .i64 n) (.string s) (.slice a ps.length cap) ∧ Below w.heap.size w wr) (fun i _ => ps.length - (RowKit.intOf i).toNat)
    case atStart => exact ⟨0, Nat.zero_le _, rfl, rfl, At4.new _ _ _ _ _ _, (Below.refl _ _).alloc (Nat.le_refl _) _⟩
    case round =>
      obtain ⟨j, hj, rfl, hal, hA, hb⟩ := hrel
      obtain ⟨y0, y1, y2, y3⟩ := id hA
      by_cases hlt : j < ps.length
      · obtain ⟨b, off, c0, c1, c2, c3, rfl, hbl, hr, k0, k1, k2, k3⟩ := HC.out j hlt
        have C0 := (hb.cell (p := ⟨b, off + j * 4, none⟩) hbl).trans k0
        have C1 := (hb.cell (p := ⟨b, off + j * 4 + 1, none⟩) hbl).trans k1
        have C2 := (hb.cell (p := ⟨b, off + j * 4 + 2, none⟩) hbl).trans k2
        have C3 := (hb.cell (p := ⟨b, off + j * 4 + 3, none⟩) hbl).trans k3
        have hcall := IH ok ps[j] _ wr (hT.below hb (Nat.le_refl _)) (RdT.below hb (Nat.le_refl _) hr) (HP.out j hlt)
        have hst := all_take_succ (sdC d) ps j hlt hal.out
        have hno := all_not (sdC d) ps j hlt
        obtain ⟨z, hz⟩ : ∃ z, sdC d ps[j] = z := ⟨_, rfl⟩
        rw [hz] at hcall hst hno
        have i1 : (j : Int) < (ps.length : Int) := by omega
        have i2 : (0 : Int) ≤ (j : Int) := by omega
        clear k0 k1 k2 k3 hr hbl hz hT
        cases z with
        | true =>
          have hN : Hid ((ps.take (j + 1)).all (sdC d) = true) := hst rfl
          clear hst hno
          go_wp2_with (first
            | (go_at_call 46; refine hcall.mono ?_; rintro e w1 ⟨rfl, b1⟩))
          go_roundw
          case rel => exact ⟨j + 1, hlt, by go_num, hN, hA.keepB b1 (World.block_lt_of_cell? wr _ y0), hb.trans (b1.mono hb.size)⟩
          case measure => simp [RowKit.intOf]; omega
        | false =>
          have hF : V = false := by rw [← HV.out]; exact hno rfl
          subst hF
          clear hst hno
          go_wp2_with (first
            | (go_at_call 46; refine hcall.mono ?_; rintro e w1 ⟨rfl, b1⟩))
          go_ret
          exact ⟨ret_bool (by simp), hb.trans (b1.mono hb.size)⟩
      · have i1 : ¬ (j : Int) < (ps.length : Int) := by omega
        have hF : V = true := by rw [← HV.out]; have := hal.out; rw [List.take_of_length_le (by omega)] at this; exact this
        subst hF
        clear hT
        go_wp2
        go_ret
        exact ⟨ret_bool (by simp), hb⟩
  rw [if_neg (by omega)]
  have e4 : (k == 4) = false := beq_eq_false_iff_ne.2 k4
  by_cases k5 : k = 5
  · subst k5
    rw [if_pos rfl]
    have hop := fun w1 => operator_any s w1
    clear k1 k2 e1 e2 k3 e3 k4 e4
    cases ho : opr s with
    | false =>
      simp only [ho] at hop
      clear HC HP hT
      go_enter Tryd.func46, Tryd.ntmps46
      go_wp2_with (first
        | (go_at_call 67; refine (hop _).mono ?_; rintro e w1 ⟨rfl, rfl⟩))
      go_ret
      exact ⟨ret_bool (by simp), hb0⟩
    | true =>
      simp only [ho] at hop
      rw [Bool.true_and]
      clear ho hb0
      have hE : ∃ V, ps.all (sdC d) = V := ⟨_, rfl⟩
      obtain ⟨V, hV⟩ := hE
      have HV : Hid (ps.all (sdC d) = V) := hV
      rw [hV]
      clear hV
      go_enter Tryd.func46, Tryd.ntmps46
      go_wp2_with (first | (go_at_call 67; refine (hop _).mono ?_; rintro e w1 ⟨rfl, rfl⟩))
      go_loopw [37] (fun i wr => ∃ (j : Nat), j ≤ ps.length ∧ i = .int .i64 (j : Int) ∧ Hid ((ps.take j).all (sdC d) = true) ∧ At4 wr w.heap.size (.int .i64 5) (.int .i64 n) (.string s) (.slice a ps.length cap) ∧ Below w.heap.size w wr) (fun i _ => ps.length - (RowKit.intOf i).toNat)
      case atStart => exact ⟨0, Nat.zero_le _, rfl, rfl, At4.new _ _ _ _ _ _, (Below.refl _ _).alloc (Nat.le_refl _) _⟩
      case round =>
        obtain ⟨j, hj, rfl, hal, hA, hb⟩ := hrel
        obtain ⟨y0, y1, y2, y3⟩ := id hA
        by_cases hlt : j < ps.length
        · obtain ⟨b, off, c0, c1, c2, c3, rfl, hbl, hr, k0, k1, k2, k3⟩ := HC.out j hlt
          have C0 := (hb.cell (p := ⟨b, off + j * 4, none⟩) hbl).trans k0
          have C1 := (hb.cell (p := ⟨b, off + j * 4 + 1, none⟩) hbl).trans k1
          have C2 := (hb.cell (p := ⟨b, off + j * 4 + 2, none⟩) hbl).trans k2
          have C3 := (hb.cell (p := ⟨b, off + j * 4 + 3, none⟩) hbl).trans k3
          have hcall := IH ok ps[j] _ wr (hT.below hb (Nat.le_refl _)) (RdT.below hb (Nat.le_refl _) hr) (HP.out j hlt)
          have hst := all_take_succ (sdC d) ps j hlt hal.out
          have hno := all_not (sdC d) ps j hlt
          obtain ⟨z, hz⟩ : ∃ z, sdC d ps[j] = z := ⟨_, rfl⟩
          rw [hz] at hcall hst hno
          have i1 : (j : Int) < (ps.length : Int) := by omega
          have i2 : (0 : Int) ≤ (j : Int) := by omega
          clear k0 k1 k2 k3 hr hbl hz hT
          cases z with
          | true =>
            have hN : Hid ((ps.take (j + 1)).all (sdC d) = true) := hst rfl
            clear hst hno
            go_wp2_with (first
              | (go_at_call 46; refine hcall.mono ?_; rintro e w1 ⟨rfl, b1⟩))
            go_roundw
            case rel => exact ⟨j + 1, hlt, by go_num, hN, hA.keepB b1 (World.block_lt_of_cell? wr _ y0), hb.trans (b1.mono hb.size)⟩
            case measure => simp [RowKit.intOf]; omega
          | false =>
            have hF : V = false := by rw [← HV.out]; exact hno rfl
            subst hF
            clear hst hno
            go_wp2_with (first
              | (go_at_call 46; refine hcall.mono ?_; rintro e w1 ⟨rfl, b1⟩))
            go_ret
            exact ⟨ret_bool (by simp), hb.trans (b1.mono hb.size)⟩
        · have i1 : ¬ (j : Int) < (ps.length : Int) := by omega
          have hF : V = true := by rw [← HV.out]; have := hal.out; rw [List.take_of_length_le (by omega)] at this; exact this
          subst hF
          clear hT
          go_wp2
          go_ret
          exact ⟨ret_bool (by simp), hb⟩
  rw [if_neg k5]
  have e5 : (k == 5) = false := beq_eq_false_iff_ne.2 k5
  clear HC HP hT
  go_enter Tryd.func46, Tryd.ntmps46
  go_wp2
  go_ret
  exact ⟨rfl, hb0⟩
theorem sound_any : ∀ (d : Nat), SoundC d
  | 0 => fun _ t => Empty.elim t
  | d + 1 => sound_step d (sound_any d)

set_option maxHeartbeats 1000000 in
theorem formed_any {ok : Nat → Prop} {d : Nat} {t : T d} {v : Value} {w : World} (hT : Tabs w) (h : RdT ok w d t v) (hc : cnt d t ≤ 100000) (hsh : shrt 1000 d t = true) :
    Calls Tryd.prog 23 #[v] w fun e w' => e = .returned (.bool (fmC d t)) ∧ Below w.heap.size w w' := by
  match d, t, h, hc, hsh with
  | 0, t, h, _, _ => exact Empty.elim t
  | d + 1, t, h, hc, hsh =>
    obtain ⟨k, n, s, ps, rfl⟩ := T.open t
    have h0 := h
    obtain ⟨sl, rfl, hp⟩ := rdT_mk.1 h
    have hb0 := (Below.refl w.heap.size w).alloc (Nat.le_refl _) (.cells #[.int .i64 k, .int .i64 n, .string s, sl] 30)
    have hA := At4.new w (.int .i64 k) (.int .i64 n) (.string s) sl 30
    have h1 := nodes_any (d + 1) ok (mkT k n s ps) _ _ (RdT.below hb0 (Nat.le_refl _) h0) hc
    have h2 := fun w1 (b1 : Below w.heap.size w w1) => deep_any (d + 1) ok (mkT k n s ps) _ w1 (RdT.below b1 (Nat.le_refl _) h0) hc
    have h3 := fun w1 (b1 : Below w.heap.size w w1) => sound_any (d + 1) ok (mkT k n s ps) _ w1 (hT.below b1 (Nat.le_refl _)) (RdT.below b1 (Nat.le_refl _) h0) hsh
    unfold fmC
    obtain ⟨x, hx⟩ : ∃ x, ndC (d + 1) (mkT k n s ps) = x := ⟨_, rfl⟩
    obtain ⟨y, hy⟩ : ∃ y, dpC (d + 1) (mkT k n s ps) = y := ⟨_, rfl⟩
    obtain ⟨z, hz⟩ : ∃ z, sdC (d + 1) (mkT k n s ps) = z := ⟨_, rfl⟩
    rw [hx] at h1 ⊢
    simp only [hy] at h2 ⊢
    simp only [hz] at h3 ⊢
    clear hx hy hz h0 hp hT hsh hc
    by_cases c1 : x ≤ 40
    · have f1 : (x : Int) ≤ 40 := by omega
      by_cases c2 : y ≤ 12
      · have f2 : (y : Int) ≤ 12 := by omega
        go_enter Tryd.func23, Tryd.ntmps23
        go_wp2_with (first
          | (go_at_call 44; refine h1.mono ?_; rintro e w1 ⟨rfl, b1⟩; have bb1 := hb0.trans (b1.mono hb0.size); have hA1 := hA.keepB b1 (by simp); obtain ⟨y0, y1, y2, y3⟩ := id hA1; have h2' := h2 w1 bb1; clear h1 h2)
          | (go_at_call 45; refine h2'.mono ?_; rintro e w2 ⟨rfl, b2⟩; have bb2 := bb1.trans (b2.mono bb1.size); obtain ⟨z0, z1, z2, z3⟩ := hA1.keepB b2 (World.block_lt_of_cell? w1 _ y0); have h3' := h3 w2 bb2; clear h2' h3 y0 y1 y2 y3)
          | (go_at_call 46; refine h3'.mono ?_; rintro e w3 ⟨rfl, b3⟩; have bb3 := bb2.trans (b3.mono bb2.size); clear h3' z0 z1 z2 z3))
        go_ret
        exact ⟨ret_bool (by simp [c1, c2]), bb3⟩
      · have f2 : ¬ (y : Int) ≤ 12 := by omega
        go_enter Tryd.func23, Tryd.ntmps23
        go_wp2_with (first
          | (go_at_call 44; refine h1.mono ?_; rintro e w1 ⟨rfl, b1⟩; have bb1 := hb0.trans (b1.mono hb0.size); obtain ⟨y0, y1, y2, y3⟩ := hA.keepB b1 (by simp); have h2' := h2 w1 bb1; clear h1 h2)
          | (go_at_call 45; refine h2'.mono ?_; rintro e w2 ⟨rfl, b2⟩; have bb2 := bb1.trans (b2.mono bb1.size); clear h2'))
        go_ret
        exact ⟨ret_bool (by simp [c1, c2]), bb2⟩
    · have f1 : ¬ (x : Int) ≤ 40 := by omega
      go_enter Tryd.func23, Tryd.ntmps23
      go_wp2_with (first
        | (go_at_call 44; refine h1.mono ?_; rintro e w1 ⟨rfl, b1⟩; have bb1 := hb0.trans (b1.mono hb0.size); clear h1))
      go_ret
      exact ⟨ret_bool (by simp [c1]), bb1⟩
end Go.Proofs.YtiddccohldjjcaaDoor
