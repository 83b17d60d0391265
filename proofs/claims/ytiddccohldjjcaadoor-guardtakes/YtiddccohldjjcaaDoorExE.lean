
/- What the document's Nodes and deep do. -/
import Derived.Test.YtiddccohldjjcaaDoorRows
import Derived.Test.YtiddccohldjjcaaDoorExR
import Derived.Test.YtiddccohldjjcaaDoorExS
namespace Go.Proofs.YtiddccohldjjcaaDoor
open Go.RowKit
set_option linter.unusedSimpArgs false
set_option linter.unusedVariables false

def NodesC (d : Nat) : Prop := ∀ (ok : Nat → Prop) (t : T d) (v : Value) (w : World), RdT ok w d t v → cnt d t ≤ 100000 →
  Calls Tryd.prog 44 #[v] w fun e w' => e = .returned (.int .i64 (ndC d t : Int)) ∧ Below w.heap.size w w'
def DeepC (d : Nat) : Prop := ∀ (ok : Nat → Prop) (t : T d) (v : Value) (w : World), RdT ok w d t v → cnt d t ≤ 100000 →
  Calls Tryd.prog 45 #[v] w fun e w' => e = .returned (.int .i64 (dpC d t : Int)) ∧ Below w.heap.size w w'

set_option maxRecDepth 100000 in
set_option maxHeartbeats 1000000 in
theorem nodes_step (d : Nat) (IH : NodesC d) : NodesC (d + 1) := by
  intro ok t v w h hcn
  obtain ⟨k, n, s, ps, rfl⟩ := T.open t
  obtain ⟨sl, rfl, hp⟩ := rdT_mk.1 h
  obtain ⟨a, cap, rfl, hlc, hcm, hcell⟩ := hp.form
  rw [cnt_mk] at hcn
  have hpl := cnt_len ps
  rw [ndC_mk]
  have hE : Hid (∀ m : Nat, m = (ps.map (ndC d)).sum → ((min ((ps.map (ndC d)).sum + 1) 41 : Nat) : Int) = min ((m : Int) + 1) 41) := fun m hm => by subst hm; omega
  have HC : Hid (∀ (i : Nat) (hi : i < ps.length), ∃ b off c0 c1 c2 c3, a = some ⟨b, off, none⟩ ∧ b < w.heap.size ∧ RdT ok w d ps[i] (.agg #[c0, c1, c2, c3]) ∧ w.cell? ⟨b, off + i * 4, none⟩ = some c0 ∧ w.cell? ⟨b, off + i * 4 + 1, none⟩ = some c1 ∧ w.cell? ⟨b, off + i * 4 + 2, none⟩ = some c2 ∧ w.cell? ⟨b, off + i * 4 + 3, none⟩ = some c3) := hcell
  have HP : Hid (∀ (i : Nat) (hi : i < ps.length), cnt d ps[i] ≤ 100000) := fun i hi => by have := cnt_part (List.getElem_mem hi); omega
  have hpl' : ps.length ≤ 100000 := by omega
  clear hcell h hp hcn hpl
  go_enter Tryd.func44, Tryd.ntmps44
  go_wp2
  go_loopw [3, 8] (fun l i wr => ∃ (j m : Nat), j ≤ ps.length ∧ i = .int .i64 (j : Int) ∧ l = .int .i64 ((m : Int) + 1) ∧ Hid (m = ((ps.take j).map (ndC d)).sum) ∧ m ≤ 41 * j ∧ At4 wr w.heap.size (.int .i64 k) (.int .i64 n) (.string s) (.slice a ps.length cap) ∧ Below w.heap.size w wr) (fun _ i _ => ps.length - (RowKit.intOf i).toNat)
  case atStart => exact ⟨0, 0, Nat.zero_le _, rfl, rfl, rfl, by omega, At4.new _ _ _ _ _ _, (Below.refl _ _).alloc (Nat.le_refl _) _⟩
  case round =>
    obtain ⟨j, m, hj, rfl, rfl, hm, hmb, hA, hb⟩ := hrel
    obtain ⟨y0, y1, y2, y3⟩ := id hA
    by_cases hlt : j < ps.length
    · obtain ⟨b, off, c0, c1, c2, c3, rfl, hbl, hr, k0, k1, k2, k3⟩ := HC.out j hlt
      have C0 := (hb.cell (p := ⟨b, off + j * 4, none⟩) hbl).trans k0
      have C1 := (hb.cell (p := ⟨b, off + j * 4 + 1, none⟩) hbl).trans k1
      have C2 := (hb.cell (p := ⟨b, off + j * 4 + 2, none⟩) hbl).trans k2
      have C3 := (hb.cell (p := ⟨b, off + j * 4 + 3, none⟩) hbl).trans k3
      have hcall := IH ok ps[j] _ wr (RdT.below hb (Nat.le_refl _) hr) (HP.out j hlt)
      have hst := sum_take_succ (ndC d) ps j hlt
      have hle := ndC_le d ps[j]
      obtain ⟨z, hz⟩ : ∃ z, ndC d ps[j] = z := ⟨_, rfl⟩
      rw [hz] at hcall hst hle
      have hN : Hid (m + z = ((ps.take (j + 1)).map (ndC d)).sum) := by show m + z = _; rw [hst, ← hm.out]
      have i1 : (j : Int) < (ps.length : Int) := by omega
      have i2 : (0 : Int) ≤ (j : Int) := by omega
      clear k0 k1 k2 k3 hr hbl hst hz
      go_wp2_with (first
        | (go_at_call 44; refine hcall.mono ?_; rintro e w1 ⟨rfl, b1⟩))
      go_roundw
      case rel => exact ⟨j + 1, m + z, hlt, by go_num, by go_num, hN, by omega, hA.keepB b1 (World.block_lt_of_cell? wr _ y0), hb.trans (b1.mono hb.size)⟩
      case measure => simp [RowKit.intOf]; omega
    · have i1 : ¬ (j : Int) < (ps.length : Int) := by omega
      have hmm := hm.out
      rw [List.take_of_length_le (by omega)] at hmm
      have hF := hE.out m hmm
      clear hmm
      go_wp2
      all_goals go_ret
      all_goals exact ⟨ret_i64 (by omega), hb⟩
theorem nodes_any : ∀ (d : Nat), NodesC d
  | 0 => fun _ t => Empty.elim t
  | d + 1 => nodes_step d (nodes_any d)

set_option maxRecDepth 100000 in
set_option maxHeartbeats 1000000 in
theorem deep_step (d : Nat) (IH : DeepC d) : DeepC (d + 1) := by
  intro ok t v w h hcn
  obtain ⟨k, n, s, ps, rfl⟩ := T.open t
  obtain ⟨sl, rfl, hp⟩ := rdT_mk.1 h
  obtain ⟨a, cap, rfl, hlc, hcm, hcell⟩ := hp.form
  rw [cnt_mk] at hcn
  have hpl := cnt_len ps
  rw [dpC_mk]
  have HC : Hid (∀ (i : Nat) (hi : i < ps.length), ∃ b off c0 c1 c2 c3, a = some ⟨b, off, none⟩ ∧ b < w.heap.size ∧ RdT ok w d ps[i] (.agg #[c0, c1, c2, c3]) ∧ w.cell? ⟨b, off + i * 4, none⟩ = some c0 ∧ w.cell? ⟨b, off + i * 4 + 1, none⟩ = some c1 ∧ w.cell? ⟨b, off + i * 4 + 2, none⟩ = some c2 ∧ w.cell? ⟨b, off + i * 4 + 3, none⟩ = some c3) := hcell
  have HP : Hid (∀ (i : Nat) (hi : i < ps.length), cnt d ps[i] ≤ 100000) := fun i hi => by have := cnt_part (List.getElem_mem hi); omega
  have hpl' : ps.length ≤ 100000 := by omega
  clear hcell h hp hcn hpl
  go_enter Tryd.func45, Tryd.ntmps45
  go_wp2
  go_loopw [3, 8] (fun l i wr => ∃ (j m : Nat), j ≤ ps.length ∧ i = .int .i64 (j : Int) ∧ l = .int .i64 (m : Int) ∧ Hid (m = ((ps.take j).map (dpC d)).foldl max 0) ∧ m ≤ 100000 ∧ At4 wr w.heap.size (.int .i64 k) (.int .i64 n) (.string s) (.slice a ps.length cap) ∧ Below w.heap.size w wr) (fun _ i _ => ps.length - (RowKit.intOf i).toNat)
  case atStart => exact ⟨0, 0, Nat.zero_le _, rfl, rfl, rfl, by omega, At4.new _ _ _ _ _ _, (Below.refl _ _).alloc (Nat.le_refl _) _⟩
  case round =>
    obtain ⟨j, m, hj, rfl, rfl, hm, hmb, hA, hb⟩ := hrel
    obtain ⟨y0, y1, y2, y3⟩ := id hA
    by_cases hlt : j < ps.length
    · obtain ⟨b, off, c0, c1, c2, c3, rfl, hbl, hr, k0, k1, k2, k3⟩ := HC.out j hlt
      have C0 := (hb.cell (p := ⟨b, off + j * 4, none⟩) hbl).trans k0
      have C1 := (hb.cell (p := ⟨b, off + j * 4 + 1, none⟩) hbl).trans k1
      have C2 := (hb.cell (p := ⟨b, off + j * 4 + 2, none⟩) hbl).trans k2
      have C3 := (hb.cell (p := ⟨b, off + j * 4 + 3, none⟩) hbl).trans k3
      have hcall := IH ok ps[j] _ wr (RdT.below hb (Nat.le_refl _) hr) (HP.out j hlt)
      have hst := max_take_succ (dpC d) ps j hlt
      have hle := Nat.le_trans (dpC_le d ps[j]) (HP.out j hlt)
      obtain ⟨z, hz⟩ : ∃ z, dpC d ps[j] = z := ⟨_, rfl⟩
      rw [hz] at hcall hst hle
      have hN : Hid (max m z = ((ps.take (j + 1)).map (dpC d)).foldl max 0) := by show max m z = _; rw [hst, ← hm.out]
      have i1 : (j : Int) < (ps.length : Int) := by omega
      have i2 : (0 : Int) ≤ (j : Int) := by omega
      clear k0 k1 k2 k3 hr hbl hst hz
      go_wp2_with (first
        | (go_at_call 45; refine hcall.mono ?_; rintro e w1 ⟨rfl, b1⟩))
      go_roundw
      case rel => exact ⟨j + 1, max m z, hlt, by go_num, by rw [show (if m < z then (z : Int) else (m : Int)) = ((max m z : Nat) : Int) by split <;> omega], hN, by omega, hA.keepB b1 (World.block_lt_of_cell? wr _ y0), hb.trans (b1.mono hb.size)⟩
      case measure => simp [RowKit.intOf]; omega
    · have i1 : ¬ (j : Int) < (ps.length : Int) := by omega
      have hmm := hm.out
      rw [List.take_of_length_le (by omega)] at hmm
      go_wp2
      go_ret
      rw [← hmm]
      exact ⟨by go_num, hb⟩
theorem deep_any : ∀ (d : Nat), DeepC d
  | 0 => fun _ t => Empty.elim t
  | d + 1 => deep_step d (deep_any d)
end Go.Proofs.YtiddccohldjjcaaDoor
