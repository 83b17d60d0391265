
/- What the document's small and Small do. -/
import Derived.Test.YtiddccohldjjcaaGreatDoorRows
import Derived.Test.YtiddccohldjjcaaGreatDoorExR
namespace Go.Proofs.YtiddccohldjjcaaGreatDoor
open Go.RowKit
set_option linter.unusedSimpArgs false
set_option linter.unusedVariables false

theorem thru_cons {α : Type} (g : α → Int → Int) (p : α) (r : List α) (x : Int) : thru g (p :: r) x = if g p x < 0 then -1 else thru g r (g p x) := rfl

/-- What small answers of trees so deep. -/
def SmallC (d : Nat) : Prop := ∀ (ok : Nat → Prop) (t : T d) (v : Value) (w : World) (dep : Nat) (left : Int), RdT ok w d t v → dep ≤ 61 → -1 ≤ left → left ≤ 200 →
    Calls Tryz.prog 17 #[v, .int .i64 (dep : Int), .int .i64 left] w fun e w' => e = .returned (.int .i64 (sml d t dep left)) ∧ Below w.heap.size w w'
set_option maxRecDepth 100000 in
set_option maxHeartbeats 1000000 in
theorem refSmall_step (d : Nat) (IH : SmallC d) : SmallC (d + 1) := by
  intro ok t v w dep left h hdep hl0 hl1
  obtain ⟨k, n, s, ps, rfl⟩ := T.open t
  obtain ⟨sl, rfl, hp⟩ := rdT_mk.1 h
  obtain ⟨a, cap, rfl, hlc, hcm, hcell⟩ := hp.form
  rw [sml_mk]
  by_cases c1 : 60 < dep
  · rw [if_pos (.inl c1)]
    have e1 : (dep : Int) > 60 := by omega
    clear IH hcell h hp
    go_enter Tryz.func17, Tryz.ntmps17
    go_wp2
    go_ret
    exact ⟨rfl, (Below.refl _ _).alloc (Nat.le_refl _) _⟩
  have e1 : ¬ (dep : Int) > 60 := by omega
  by_cases c2 : left - 1 < 0
  · rw [if_pos (.inr (.inl c2))]
    clear IH hcell h hp
    go_enter Tryz.func17, Tryz.ntmps17
    go_wp2
    go_ret
    exact ⟨rfl, (Below.refl _ _).alloc (Nat.le_refl _) _⟩
  by_cases c3 : 1000 < s.size
  · rw [if_pos (.inr (.inr c3))]
    have e3 : (s.size : Int) > 1000 := by omega
    clear IH hcell h hp
    go_enter Tryz.func17, Tryz.ntmps17
    go_wp2
    go_ret
    exact ⟨rfl, (Below.refl _ _).alloc (Nat.le_refl _) _⟩
  rw [if_neg (by omega)]
  have e3 : ¬ (s.size : Int) > 1000 := by omega
  obtain ⟨V, hV⟩ : ∃ V, thru (fun p x => sml d p (dep + 1) x) ps (left - 1) = V := ⟨_, rfl⟩
  rw [hV]
  have HV : Hid (thru (fun p x => sml d p (dep + 1) x) (ps.drop 0) (left - 1) = V) := hV
  have HC : Hid (∀ (i : Nat) (hi : i < ps.length), ∃ b off c0 c1 c2 c3, a = some ⟨b, off, none⟩ ∧ b < w.heap.size ∧ RdT ok w d ps[i] (.agg #[c0, c1, c2, c3]) ∧ w.cell? ⟨b, off + i * 4, none⟩ = some c0 ∧ w.cell? ⟨b, off + i * 4 + 1, none⟩ = some c1 ∧ w.cell? ⟨b, off + i * 4 + 2, none⟩ = some c2 ∧ w.cell? ⟨b, off + i * 4 + 3, none⟩ = some c3) := hcell
  clear hV hcell h hp
  go_enter Tryz.func17, Tryz.ntmps17
  go_wp2
  go_loopw [2, 25] (fun l i wr => ∃ (j : Nat) (L : Int), j ≤ ps.length ∧ i = .int .i64 (j : Int) ∧ l = .int .i64 L ∧ 0 ≤ L ∧ L ≤ 199 ∧ Hid (thru (fun p x => sml d p (dep + 1) x) (ps.drop j) L = V) ∧ At4 wr w.heap.size (.int .i64 k) (.int .i64 n) (.string s) (.slice a ps.length cap) ∧ Below w.heap.size w wr) (fun _ i _ => ps.length - (RowKit.intOf i).toNat)
  case atStart => exact ⟨0, left - 1, Nat.zero_le _, rfl, rfl, by omega, by omega, HV, At4.new _ _ _ _ _ _, (Below.refl _ _).alloc (Nat.le_refl _) _⟩
  case round =>
    obtain ⟨j, L, hj, rfl, rfl, hL0, hL1, hT, hA, hb⟩ := hrel
    obtain ⟨y0, y1, y2, y3⟩ := id hA
    by_cases hlt : j < ps.length
    · obtain ⟨b, off, c0, c1, c2, c3, rfl, hbl, hr, k0, k1, k2, k3⟩ := HC.out j hlt
      have C0 := (hb.cell (p := ⟨b, off + j * 4, none⟩) hbl).trans k0
      have C1 := (hb.cell (p := ⟨b, off + j * 4 + 1, none⟩) hbl).trans k1
      have C2 := (hb.cell (p := ⟨b, off + j * 4 + 2, none⟩) hbl).trans k2
      have C3 := (hb.cell (p := ⟨b, off + j * 4 + 3, none⟩) hbl).trans k3
      have hcall := IH ok ps[j] _ wr (dep + 1) L (RdT.below hb (Nat.le_refl _) hr) (by omega) (by omega) (by omega)
      have hTT := hT.out
      rw [List.drop_eq_getElem_cons hlt, thru_cons] at hTT
      have hok := sml_ok d ps[j] (dep + 1) L
      have hcp := cnt_pos d ps[j]
      obtain ⟨z, hz⟩ : ∃ z, sml d ps[j] (dep + 1) L = z := ⟨_, rfl⟩
      rw [hz] at hcall hTT hok
      have i1 : (j : Int) < (ps.length : Int) := by omega
      have i2 : (0 : Int) ≤ (j : Int) := by omega
      have hd1 : ((dep + 1 : Nat) : Int) = (dep : Int) + 1 := by omega
      rw [hd1] at hcall
      clear k0 k1 k2 k3 hr hbl
      by_cases hzn : z < 0
      · rw [if_pos hzn] at hTT
        subst hTT
        clear hok hz hd1
        go_wp2_with (first
          | (go_at_call 17; refine hcall.mono ?_; rintro e w1 ⟨rfl, b1⟩))
        go_ret
        exact ⟨rfl, hb.trans (b1.mono hb.size)⟩
      · rw [if_neg hzn] at hTT
        have hzL : z ≤ L := by have := (hok (by omega)).1; omega
        have hN : Hid (thru (fun p x => sml d p (dep + 1) x) (ps.drop (j + 1)) z = V) := hTT
        clear hok hz hTT hd1 hcp
        go_wp2_with (first
          | (go_at_call 17; refine hcall.mono ?_; rintro e w1 ⟨rfl, b1⟩))
        go_roundw
        case rel => exact ⟨j + 1, z, hlt, by go_num, rfl, by omega, by omega, hN, hA.keepB b1 (World.block_lt_of_cell? wr _ y0), hb.trans (b1.mono hb.size)⟩
        case measure => simp [RowKit.intOf]; omega
    · have i1 : ¬ (j : Int) < (ps.length : Int) := by omega
      have hTT := hT.out
      rw [List.drop_eq_nil_of_le (by omega)] at hTT
      have hTe : L = V := hTT
      subst hTe
      clear hTT
      go_wp2
      go_ret
      exact ⟨rfl, hb⟩

theorem refSmall_any : ∀ (d : Nat), SmallC d
  | 0 => fun _ t => Empty.elim t
  | d + 1 => refSmall_step d (refSmall_any d)

theorem refSmallTop_any {ok : Nat → Prop} {d : Nat} {t : T d} {v : Value} {w : World} (h : RdT ok w d t v) :
    Calls Tryz.prog 7 #[v] w fun e w' => e = .returned (.bool (decide (0 ≤ sml d t 0 200))) ∧ Below w.heap.size w w' := by
  match d, t, h with
  | 0, t, h => exact Empty.elim t
  | d + 1, t, h =>
    obtain ⟨k, n, s, ps, rfl⟩ := T.open t
    have h0 := h
    obtain ⟨sl, rfl, hp⟩ := rdT_mk.1 h
    have hb0 := (Below.refl w.heap.size w).alloc (Nat.le_refl _) (.cells #[.int .i64 k, .int .i64 n, .string s, sl] 24)
    have hcall := refSmall_any (d + 1) ok (mkT k n s ps) _ _ 0 200 (RdT.below hb0 (Nat.le_refl _) h0) (by omega) (by omega) (by omega)
    obtain ⟨z, hz⟩ : ∃ z, sml (d + 1) (mkT k n s ps) 0 200 = z := ⟨_, rfl⟩
    rw [hz] at hcall ⊢
    clear hz h0 hp
    go_enter Tryz.func7, Tryz.ntmps7
    go_wp2_with (first
      | (go_at_call 17; refine hcall.mono ?_; rintro e w1 ⟨rfl, b1⟩))
    all_goals go_ret
    all_goals exact ⟨by simp [*], hb0.trans (b1.mono hb0.size)⟩
end Go.Proofs.YtiddccohldjjcaaGreatDoor
