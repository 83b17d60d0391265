
/- What the document's plain does. -/
import Derived.Test.YtiddccohldjjcaaGreatDoorExG
import Derived.Test.YtiddccohldjjcaaGreatDoorRgS
import Derived.Test.YtiddccohldjjcaaGreatDoorGdO
namespace Go.Proofs.YtiddccohldjjcaaGreatDoor
open Go.RowKit Go.Lib
set_option linter.unusedSimpArgs false
set_option linter.unusedVariables false
def PlainC (d : Nat) : Prop := ∀ (ok : Nat → Prop) (t : T d) (v : Value) (w : World), RdT ok w d t v →
  Calls Tryz.prog 40 #[v] w fun e w' => e = .returned (.bool (plC d t)) ∧ Below w.heap.size w w'
set_option maxRecDepth 100000 in
set_option maxHeartbeats 4000000 in
theorem plain_step (d : Nat) (IH : PlainC d) : PlainC (d + 1) := by
  intro ok t v w h
  obtain ⟨k, n, s, ps, rfl⟩ := T.open t
  obtain ⟨sl, rfl, hp⟩ := rdT_mk.1 h
  obtain ⟨a, cap, rfl, hlc, hcm, hcell⟩ := hp.form
  rw [plC_mk]
  have hRv := fun w1 => rReserved_any s w1
  have HC : Hid (∀ (i : Nat) (hi : i < ps.length), ∃ b off c0 c1 c2 c3, a = some ⟨b, off, none⟩ ∧ b < w.heap.size ∧ RdT ok w d ps[i] (.agg #[c0, c1, c2, c3]) ∧ w.cell? ⟨b, off + i * 4, none⟩ = some c0 ∧ w.cell? ⟨b, off + i * 4 + 1, none⟩ = some c1 ∧ w.cell? ⟨b, off + i * 4 + 2, none⟩ = some c2 ∧ w.cell? ⟨b, off + i * 4 + 3, none⟩ = some c3) := hcell
  clear hcell h hp
  have hb0 := (Below.refl w.heap.size w).alloc (Nat.le_refl _) (.cells #[.int .i64 k, .int .i64 n, .string s, .slice a ps.length cap] 24)
  obtain ⟨z, hz⟩ : ∃ z, rsvB s.data.toList = z := ⟨_, rfl⟩
  simp only [show rsvB (bl s) = z from hz] at hRv
  rw [hz]
  clear hz
  by_cases k2 : k = 2 ∧ z = true
  · obtain ⟨rfl, rfl⟩ := k2
    clear HC
    go_enter Tryz.func40, Tryz.ntmps40
    go_wp2_with (first | (go_at_call 13; refine (hRv _).mono ?_; rintro e w1 ⟨rfl, rfl⟩))
    go_ret
    exact ⟨rfl, hb0⟩
  have hz2 : (decide (k = 2) && z) = false := by
    by_cases hk : k = 2
    · have : z = false := by cases z with | true => exact absurd ⟨hk, rfl⟩ k2 | false => rfl
      rw [this, Bool.and_false]
    · rw [decide_eq_false hk]; rfl
  rw [hz2]
  have eV : (!false && ps.all (plC d)) = ps.all (plC d) := by simp
  rw [eV]
  obtain ⟨V, hV⟩ : ∃ V, ps.all (plC d) = V := ⟨_, rfl⟩
  have HV : Hid (ps.all (plC d) = V) := hV
  rw [hV]
  clear hV eV hz2 hb0
  have hk3 : (k = 2 ∧ z = false) ∨ (k == 2) = false := by
    by_cases hk : k = 2
    · exact .inl ⟨hk, by cases z with | true => exact absurd ⟨hk, rfl⟩ k2 | false => rfl⟩
    · exact .inr (beq_eq_false_iff_ne.2 hk)
  clear k2
  rcases hk3 with ⟨rfl, rfl⟩ | e2
  · go_enter Tryz.func40, Tryz.ntmps40
    go_wp2_with (first | (go_at_call 13; refine (hRv _).mono ?_; rintro e w1 ⟨rfl, rfl⟩))
    clear hRv
    go_loopw [15] (fun i wr => ∃ (j : Nat), j ≤ ps.length ∧ i = .int .i64 (j : Int) ∧ Hid ((ps.take j).all (plC d) = true) ∧ At4 wr w.heap.size (.int .i64 2) (.int .i64 n) (.string s) (.slice a ps.length cap) ∧ Below w.heap.size w wr) (fun i _ => ps.length - (RowKit.intOf i).toNat)
    case atStart => exact ⟨0, Nat.zero_le _, rfl, rfl, At4.new _ _ _ _ _ _, (Below.refl _ _).alloc (Nat.le_refl _) _⟩
    case round =>
      obtain ⟨j, hj, rfl, hal, hA, hb⟩ := hrel
      obtain ⟨y0, y1, y2, y3⟩ := id hA
      by_cases hlt : j < ps.length
      · obtain ⟨b, off, c0, c1, c2, c3, rfl, hbl, hr, k0, k1, k2, k3⟩ := HC.out j hlt
        have C0 := (hb.cell (p := ⟨b, off + j * 4, none⟩) hbl).trans k0
        have C1 := (hb.cell (p := ⟨b, off + j * 4 + 1, none⟩) hbl).trans k1
        have C2 := (hb.cell (p := ⟨b, off + j * 4 + 2, none⟩) hbl).trans k2
        have C3 := (hb.cell (p := ⟨b, off + j * 4 + 3, none⟩) hbl).trans k3
        have hcall := IH ok ps[j] _ wr (RdT.below hb (Nat.le_refl _) hr)
        have hst := all_take_succ (plC d) ps j hlt hal.out
        have hno := all_not (plC d) ps j hlt
        obtain ⟨z, hz⟩ : ∃ z, plC d ps[j] = z := ⟨_, rfl⟩
        rw [hz] at hcall hst hno
        have i1 : (j : Int) < (ps.length : Int) := by omega
        have i2 : (0 : Int) ≤ (j : Int) := by omega
        clear k0 k1 k2 k3 hr hbl hz
        cases z with
        | true =>
          have hN : Hid ((ps.take (j + 1)).all (plC d) = true) := hst rfl
          clear hst hno
          go_wp2_with (first
            | (go_at_call 40; refine hcall.mono ?_; rintro e w1 ⟨rfl, b1⟩))
          go_roundw
          case rel => exact ⟨j + 1, hlt, by go_num, hN, hA.keepB b1 (World.block_lt_of_cell? wr _ y0), hb.trans (b1.mono hb.size)⟩
          case measure => simp [RowKit.intOf]; omega
        | false =>
          have hF : V = false := by rw [← HV.out]; exact hno rfl
          subst hF
          clear hst hno
          go_wp2_with (first
            | (go_at_call 40; refine hcall.mono ?_; rintro e w1 ⟨rfl, b1⟩))
          go_ret
          exact ⟨rfl, hb.trans (b1.mono hb.size)⟩
      · have i1 : ¬ (j : Int) < (ps.length : Int) := by omega
        have hF : V = true := by rw [← HV.out]; have := hal.out; rw [List.take_of_length_le (by omega)] at this; exact this
        subst hF
        go_wp2
        go_ret
        exact ⟨rfl, hb⟩
  · go_enter Tryz.func40, Tryz.ntmps40
    go_wp2_with (first | (go_at_call 13; refine (hRv _).mono ?_; rintro e w1 ⟨rfl, rfl⟩))
    clear hRv
    go_loopw [15] (fun i wr => ∃ (j : Nat), j ≤ ps.length ∧ i = .int .i64 (j : Int) ∧ Hid ((ps.take j).all (plC d) = true) ∧ At4 wr w.heap.size (.int .i64 k) (.int .i64 n) (.string s) (.slice a ps.length cap) ∧ Below w.heap.size w wr) (fun i _ => ps.length - (RowKit.intOf i).toNat)
    case atStart => exact ⟨0, Nat.zero_le _, rfl, rfl, At4.new _ _ _ _ _ _, (Below.refl _ _).alloc (Nat.le_refl _) _⟩
    case round =>
      obtain ⟨j, hj, rfl, hal, hA, hb⟩ := hrel
      obtain ⟨y0, y1, y2, y3⟩ := id hA
      by_cases hlt : j < ps.length
      · obtain ⟨b, off, c0, c1, c2, c3, rfl, hbl, hr, k0, k1, k2, k3⟩ := HC.out j hlt
        have C0 := (hb.cell (p := ⟨b, off + j * 4, none⟩) hbl).trans k0
        have C1 := (hb.cell (p := ⟨b, off + j * 4 + 1, none⟩) hbl).trans k1
        have C2 := (hb.cell (p := ⟨b, off + j * 4 + 2, none⟩) hbl).trans k2
        have C3 := (hb.cell (p := ⟨b, off + j * 4 + 3, none⟩) hbl).trans k3
        have hcall := IH ok ps[j] _ wr (RdT.below hb (Nat.le_refl _) hr)
        have hst := all_take_succ (plC d) ps j hlt hal.out
        have hno := all_not (plC d) ps j hlt
        obtain ⟨z, hz⟩ : ∃ z, plC d ps[j] = z := ⟨_, rfl⟩
        rw [hz] at hcall hst hno
        have i1 : (j : Int) < (ps.length : Int) := by omega
        have i2 : (0 : Int) ≤ (j : Int) := by omega
        clear k0 k1 k2 k3 hr hbl hz
        cases z with
        | true =>
          have hN : Hid ((ps.take (j + 1)).all (plC d) = true) := hst rfl
          clear hst hno
          go_wp2_with (first
            | (go_at_call 40; refine hcall.mono ?_; rintro e w1 ⟨rfl, b1⟩))
          go_roundw
          case rel => exact ⟨j + 1, hlt, by go_num, hN, hA.keepB b1 (World.block_lt_of_cell? wr _ y0), hb.trans (b1.mono hb.size)⟩
          case measure => simp [RowKit.intOf]; omega
        | false =>
          have hF : V = false := by rw [← HV.out]; exact hno rfl
          subst hF
          clear hst hno
          go_wp2_with (first
            | (go_at_call 40; refine hcall.mono ?_; rintro e w1 ⟨rfl, b1⟩))
          go_ret
          exact ⟨rfl, hb.trans (b1.mono hb.size)⟩
      · have i1 : ¬ (j : Int) < (ps.length : Int) := by omega
        have hF : V = true := by rw [← HV.out]; have := hal.out; rw [List.take_of_length_le (by omega)] at this; exact this
        subst hF
        go_wp2
        go_ret
        exact ⟨rfl, hb⟩
theorem plain_any : ∀ d, PlainC d
  | 0 => fun _ t => Empty.elim t
  | d + 1 => plain_step d (plain_any d)
end Go.Proofs.YtiddccohldjjcaaGreatDoor
