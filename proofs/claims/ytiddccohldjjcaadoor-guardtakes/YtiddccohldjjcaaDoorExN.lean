
/- What the document's Same does. -/
import Derived.Test.YtiddccohldjjcaaDoorRows
import Derived.Test.YtiddccohldjjcaaDoorExR
import Derived.Test.YtiddccohldjjcaaDoorExS
import Derived.Test.YtiddccohldjjcaaDoorExNs
import Derived.Deep.RegionHeld
import Derived.Deep.DrawnRows
namespace Go.Proofs.YtiddccohldjjcaaDoor
open Go.RowKit Go.Lib
set_option linter.unusedSimpArgs false
set_option linter.unusedVariables false
attribute [local go_sem ↓] Go.wp_at_zero Go.wp_at_succ

def SameC (d : Nat) : Prop := ∀ (ok ok' : Nat → Prop) (e : Nat) (t : T d) (u : T e) (v v' : Value) (w : World), RdT ok w d t v → RdT ok' w e u v' →
  Calls Tryd.prog 8 #[v, v'] w fun r w' => r = .returned (.bool (samC d e t u)) ∧ Below w.heap.size w w'

set_option maxRecDepth 100000 in
set_option maxHeartbeats 4000000 in
theorem same_step (d : Nat) (IH : SameC d) : SameC (d + 1) := by
  intro ok ok' e t u v v' w h h'
  match e, u, h' with
  | 0, u, _ => exact Empty.elim u
  | e + 1, u, h' =>
  obtain ⟨k, n, s, ps, rfl⟩ := T.open t
  obtain ⟨sl, rfl, hp⟩ := rdT_mk.1 h
  obtain ⟨a, cap, rfl, hlc, hcm, hcell⟩ := hp.form
  obtain ⟨k', n', s', qs, rfl⟩ := T.open u
  obtain ⟨sl', rfl, hp'⟩ := rdT_mk.1 h'
  obtain ⟨a', cap', rfl, hlc', hcm', hcell'⟩ := hp'.form
  rw [samC_mk]
  have HC : Hid (∀ (i : Nat) (hi : i < ps.length), ∃ b off c0 c1 c2 c3, a = some ⟨b, off, none⟩ ∧ b < w.heap.size ∧ RdT ok w d ps[i] (.agg #[c0, c1, c2, c3]) ∧ w.cell? ⟨b, off + i * 4, none⟩ = some c0 ∧ w.cell? ⟨b, off + i * 4 + 1, none⟩ = some c1 ∧ w.cell? ⟨b, off + i * 4 + 2, none⟩ = some c2 ∧ w.cell? ⟨b, off + i * 4 + 3, none⟩ = some c3) := hcell
  have HC' : Hid (∀ (i : Nat) (hi : i < qs.length), ∃ b off c0 c1 c2 c3, a' = some ⟨b, off, none⟩ ∧ b < w.heap.size ∧ RdT ok' w e qs[i] (.agg #[c0, c1, c2, c3]) ∧ w.cell? ⟨b, off + i * 4, none⟩ = some c0 ∧ w.cell? ⟨b, off + i * 4 + 1, none⟩ = some c1 ∧ w.cell? ⟨b, off + i * 4 + 2, none⟩ = some c2 ∧ w.cell? ⟨b, off + i * 4 + 3, none⟩ = some c3) := hcell'
  clear hcell h hp hcell' h' hp'
  have hb0 := ((Below.refl w.heap.size w).alloc (Nat.le_refl _) (.cells #[.int .i64 k, .int .i64 n, .string s, .slice a ps.length cap] 30)).alloc (by simp) (.cells #[.int .i64 k', .int .i64 n', .string s', .slice a' qs.length cap'] 30)
  by_cases c1 : k = k'
  case neg =>
    have f1 : (k != k') = true := by simpa using c1
    rw [decide_eq_false c1]
    clear HC HC'
    go_enter Tryd.func8, Tryd.ntmps8
    go_wp2
    go_ret
    exact ⟨ret_bool (by simp), hb0⟩
  by_cases c2 : n = n'
  case neg =>
    have f2 : (n != n') = true := by simpa using c2
    subst c1
    rw [decide_eq_false c2]
    clear HC HC'
    go_enter Tryd.func8, Tryd.ntmps8
    go_wp2
    go_ret
    exact ⟨ret_bool (by simp), hb0⟩
  by_cases c3 : s = s'
  case neg =>
    have f3 := bytes_ne c3
    subst c1 c2
    rw [decide_eq_false c3]
    clear HC HC'
    go_enter Tryd.func8, Tryd.ntmps8
    go_wp2
    go_ret
    exact ⟨ret_bool (by simp), hb0⟩
  subst c1 c2 c3
  by_cases c4 : ps.length = qs.length
  case neg =>
    have f4 : ((ps.length : Int) != (qs.length : Int)) = true := by simp; omega
    rw [decide_eq_false c4]
    clear HC HC'
    go_enter Tryd.func8, Tryd.ntmps8
    go_wp2
    go_ret
    exact ⟨ret_bool (by simp), hb0⟩
  rw [decide_eq_true c4, decide_eq_true rfl, decide_eq_true rfl, decide_eq_true rfl]
  simp only [Bool.true_and]
  obtain ⟨V, hV⟩ : ∃ V, allz (samC d e) ps qs = V := ⟨_, rfl⟩
  rw [hV]
  have HV : Hid (allz (samC d e) (ps.drop 0) (qs.drop 0) = V) := hV
  have HQ : Hid (ps.length = qs.length) := c4
  have f4 : ((ps.length : Int) != (qs.length : Int)) = false := by rw [c4]; simp
  clear hV c4
  go_enter Tryd.func8, Tryd.ntmps8
  go_wp2
  go_loopw [37] (fun i wr => ∃ (j : Nat), j ≤ ps.length ∧ i = .int .i64 (j : Int) ∧ Hid (allz (samC d e) (ps.drop j) (qs.drop j) = V) ∧ At4 wr w.heap.size (.int .i64 k) (.int .i64 n) (.string s) (.slice a ps.length cap) ∧ At4 wr (w.heap.size + 1) (.int .i64 k) (.int .i64 n) (.string s) (.slice a' qs.length cap') ∧ Below w.heap.size w wr) (fun i _ => ps.length - (RowKit.intOf i).toNat)
  case atStart => exact ⟨0, Nat.zero_le _, rfl, HV, (At4.new w (.int .i64 k) (.int .i64 n) (.string s) (.slice a ps.length cap) 30).keepB (B := w.heap.size + 1) ((Below.refl _ _).alloc (by simp) _) (by omega), At4.newAt _ _ _ _ _ _ _ (by simp), hb0⟩
  case round =>
    obtain ⟨j, hj, rfl, hal, hA, hA', hb⟩ := hrel
    obtain ⟨y0, y1, y2, y3⟩ := id hA
    obtain ⟨z0, z1, z2, z3⟩ := id hA'
    have hlq := HQ.out
    by_cases hlt : j < ps.length
    · obtain ⟨b, off, c0, c1, c2, c3, rfl, hbl, hr, k0, k1, k2, k3⟩ := HC.out j hlt
      obtain ⟨b', off', d0, d1, d2, d3, rfl, hbl', hr', l0, l1, l2, l3⟩ := HC'.out j (by omega)
      have C0 := (hb.cell (p := ⟨b, off + j * 4, none⟩) hbl).trans k0
      have C1 := (hb.cell (p := ⟨b, off + j * 4 + 1, none⟩) hbl).trans k1
      have C2 := (hb.cell (p := ⟨b, off + j * 4 + 2, none⟩) hbl).trans k2
      have C3 := (hb.cell (p := ⟨b, off + j * 4 + 3, none⟩) hbl).trans k3
      have D0 := (hb.cell (p := ⟨b', off' + j * 4, none⟩) hbl').trans l0
      have D1 := (hb.cell (p := ⟨b', off' + j * 4 + 1, none⟩) hbl').trans l1
      have D2 := (hb.cell (p := ⟨b', off' + j * 4 + 2, none⟩) hbl').trans l2
      have D3 := (hb.cell (p := ⟨b', off' + j * 4 + 3, none⟩) hbl').trans l3
      have hcall := IH ok ok' e ps[j] (qs[j]'(by omega)) _ _ wr.drew (RdT.below hb.drew (Nat.le_refl _) hr) (RdT.below hb.drew (Nat.le_refl _) hr')
      have hst := allz_step (samC d e) ps qs j hlt (by omega)
      rw [hal.out] at hst
      obtain ⟨z, hz⟩ : ∃ z, samC d e ps[j] (qs[j]'(by omega)) = z := ⟨_, rfl⟩
      rw [hz] at hcall hst
      have i1 : (j : Int) < (ps.length : Int) := by omega
      have i3 : (j : Int) < (qs.length : Int) := by omega
      have i2 : (0 : Int) ≤ (j : Int) := by omega
      clear k0 k1 k2 k3 hr hbl hz l0 l1 l2 l3 hr' hbl' hlq
      cases z with
      | true =>
        have hN : Hid (allz (samC d e) (ps.drop (j + 1)) (qs.drop (j + 1)) = V) := by show allz (samC d e) (ps.drop (j + 1)) (qs.drop (j + 1)) = V; rw [hst]; simp
        clear hst
        go_wp2
        go_region_held (fun w' => w'.cell? ⟨w.heap.size, 3, none⟩ = some (.slice (some ⟨b, off, none⟩) ps.length cap) ∧ w'.cell? ⟨w.heap.size + 1, 3, none⟩ = some (.slice (some ⟨b', off', none⟩) qs.length cap') ∧ w'.cell? ⟨b, off + j * 4, none⟩ = some c0 ∧ w'.cell? ⟨b, off + j * 4 + 1, none⟩ = some c1 ∧ w'.cell? ⟨b, off + j * 4 + 2, none⟩ = some c2 ∧ w'.cell? ⟨b, off + j * 4 + 3, none⟩ = some c3 ∧ w'.cell? ⟨b', off' + j * 4, none⟩ = some d0 ∧ w'.cell? ⟨b', off' + j * 4 + 1, none⟩ = some d1 ∧ w'.cell? ⟨b', off' + j * 4 + 2, none⟩ = some d2 ∧ w'.cell? ⟨b', off' + j * 4 + 3, none⟩ = some d3)
          (first | exact ⟨y3, z3, C0, C1, C2, C3, D0, D1, D2, D3⟩ | exact ⟨kc _ _ y3, kc _ _ z3, kc _ _ C0, kc _ _ C1, kc _ _ C2, kc _ _ C3, kc _ _ D0, kc _ _ D1, kc _ _ D2, kc _ _ D3⟩ | go_keep)
          (first | (go_at_call 8; refine hcall.mono ?_; rintro r w1 ⟨rfl, b1⟩; have bw : Below wr.heap.size wr w1 := ((Below.refl _ wr).drew).trans b1; have kc : ∀ p u, wr.cell? p = some u → w1.cell? p = some u := fun p u hp => (by rw [bw.cell (World.block_lt_of_cell? wr _ hp)]; exact hp)))
        go_wp2
        go_roundw
        case rel => exact ⟨j + 1, hlt, by go_num, hN, hA.keepB bw (World.block_lt_of_cell? wr _ y0), hA'.keepB bw (World.block_lt_of_cell? wr _ z0), hb.trans (bw.mono hb.size)⟩
        case measure => simp [RowKit.intOf]; omega
      | false =>
        have hF : V = false := by rw [hst]; simp
        subst hF
        clear hst
        go_wp2
        go_region_held (fun w' => w'.cell? ⟨w.heap.size, 3, none⟩ = some (.slice (some ⟨b, off, none⟩) ps.length cap) ∧ w'.cell? ⟨w.heap.size + 1, 3, none⟩ = some (.slice (some ⟨b', off', none⟩) qs.length cap') ∧ w'.cell? ⟨b, off + j * 4, none⟩ = some c0 ∧ w'.cell? ⟨b, off + j * 4 + 1, none⟩ = some c1 ∧ w'.cell? ⟨b, off + j * 4 + 2, none⟩ = some c2 ∧ w'.cell? ⟨b, off + j * 4 + 3, none⟩ = some c3 ∧ w'.cell? ⟨b', off' + j * 4, none⟩ = some d0 ∧ w'.cell? ⟨b', off' + j * 4 + 1, none⟩ = some d1 ∧ w'.cell? ⟨b', off' + j * 4 + 2, none⟩ = some d2 ∧ w'.cell? ⟨b', off' + j * 4 + 3, none⟩ = some d3)
          (first | exact ⟨y3, z3, C0, C1, C2, C3, D0, D1, D2, D3⟩ | exact ⟨kc _ _ y3, kc _ _ z3, kc _ _ C0, kc _ _ C1, kc _ _ C2, kc _ _ C3, kc _ _ D0, kc _ _ D1, kc _ _ D2, kc _ _ D3⟩ | go_keep)
          (first | (go_at_call 8; refine hcall.mono ?_; rintro r w1 ⟨rfl, b1⟩; have bw : Below wr.heap.size wr w1 := ((Below.refl _ wr).drew).trans b1; have kc : ∀ p u, wr.cell? p = some u → w1.cell? p = some u := fun p u hp => (by rw [bw.cell (World.block_lt_of_cell? wr _ hp)]; exact hp)))
        go_wp2
        go_ret
        exact ⟨rfl, hb.trans (bw.mono hb.size)⟩
    · have i1 : ¬ (j : Int) < (ps.length : Int) := by omega
      have hll := hal.out
      rw [List.drop_eq_nil_of_le (by omega)] at hll
      have hTV : V = true := by rw [← hll]; rfl
      subst hTV
      clear hlq hll
      go_wp2
      go_ret
      exact ⟨rfl, hb⟩
theorem same_any : ∀ (d : Nat), SameC d
  | 0 => fun _ _ _ t => Empty.elim t
  | d + 1 => same_step d (same_any d)
end Go.Proofs.YtiddccohldjjcaaDoor
