
/- What the program's join does. -/
import Derived.Test.YtiddccohldjjcaaDoorPgB2
namespace Go.Proofs.YtiddccohldjjcaaDoor
open Go.RowKit Go.Lib
set_option linter.unusedSimpArgs false
set_option linter.unusedVariables false
attribute [local go_sem ↓] Go.wp_at_zero Go.wp_at_succ

/-- How many of the signs take two operands; how many are brackets. -/
def bins : List Sg2 → Nat
  | [] => 0
  | s :: W => bins W + (if s.2 = 0 ∨ s.2 = 6 then 0 else 1)
def brk : List Sg2 → Nat
  | [] => 0
  | s :: W => brk W + (if s.2 = 0 then 1 else 0)
theorem jn1_len {V : List Sx} {s : Sg2} {W : List Sg2} (h0 : s.2 ≠ 0) (h : V.length = bins (s :: W) + 1) : (jn1 V s).length = bins W + 1 ∧ (s.2 = 6 → 1 ≤ V.length) ∧ (s.2 ≠ 6 → 2 ≤ V.length) := by
  unfold bins at h
  unfold jn1
  by_cases h6 : s.2 = 6
  · rw [if_pos (.inr h6)] at h
    rw [if_pos h6]
    refine ⟨?_, fun _ => by omega, fun h => absurd h6 h⟩
    match V, h with
    | x :: V, h => exact h
  · rw [if_neg (fun q => q.elim h0 h6)] at h
    rw [if_neg h6]
    refine ⟨?_, fun h => absurd h h6, fun _ => by omega⟩
    match V, h with
    | x :: z :: V, h =>
      rw [List.length_cons, List.length_cons] at h
      show (V.length + 1) = _
      omega
    | [x], h => simp at h
theorem jn_ok {k : Nat} (hk : 1 ≤ k) : ∀ (W : List Sg2) (V : List Sx), V.length = bins W + 1 → (jn k V W).1.length = bins (jn k V W).2 + 1 ∧ brk (jn k V W).2 = brk W ∧ (jn k V W).2.length ≤ W.length ∧ topL (jn k V W).2 < k
  | [], V, h => ⟨h, rfl, Nat.le_refl _, hk⟩
  | s :: W, V, h => by
    unfold jn
    by_cases hs : k ≤ s.2
    · rw [if_pos hs]
      obtain ⟨a, b, c, d⟩ := jn_ok hk W (jn1 V s) (jn1_len (by omega) h).1
      refine ⟨a, ?_, by rw [List.length_cons]; omega, d⟩
      rw [b]
      show brk W = brk W + _
      rw [if_neg (by omega)]; rfl
    · rw [if_neg hs]
      exact ⟨h, rfl, Nat.le_refl _, by show s.2 < k; omega⟩
theorem bins_le : ∀ W, bins W ≤ W.length
  | [] => Nat.le_refl _
  | s :: W => by
    have := bins_le W
    show bins W + _ ≤ W.length + 1
    split <;> omega
/-- How many signs wait, as memory tells. -/
def wlen (X : Nat) (w : World) : Nat := match w.cell? ⟨X, 1, none⟩ with | some (.slice _ n _) => n | _ => 0
theorem Rdr.wlen {w : World} {X : Nat} {y : Yd} {vv ww : Value} (h : Rdr w X y vv ww) : wlen X w = y.W.length := by
  obtain ⟨a, cap, rfl, _⟩ := own_form h.w
  unfold Go.Proofs.YtiddccohldjjcaaDoor.wlen
  rw [h.b.c1]
/-- The last sign taken off. -/
theorem Rdr.popW {w : World} {X g cap : Nat} {V : List Sx} {s : Sg2} {W : List Sg2} {o : Nat} {b : Bool} {vv : Value} (h : Rdr w X ⟨V, s :: W, o, b⟩ vv (.slice (some ⟨g, 0, none⟩) (W.length + 1) cap)) :
    Rdr (w.setCell ⟨X, 1, none⟩ (.slice (some ⟨g, 0, none⟩) W.length cap)) X ⟨V, W, o, b⟩ vv (.slice (some ⟨g, 0, none⟩) W.length cap) := by
  obtain ⟨g', cap', e, _, _, _, _, _, _, ho⟩ := own_last2 h.w
  simp only [Value.slice.injEq, Option.some.injEq, Addr.mk.injEq, and_true, true_and] at e
  obtain ⟨rfl, rfl⟩ := e
  exact ⟨h.b.set1 _, ownsRow_setCell_below h.v (Nat.lt_succ_self X) _, ownsRow_setCell_below ho (Nat.lt_succ_self X) _, h.a⟩
theorem below_draws (B : Nat) (w : World) (m : Nat) : Below B w (w.drewN m) := ⟨rfl, rfl, rfl, Nat.le_refl _, fun _ _ => rfl⟩

set_option maxRecDepth 100000 in
set_option maxHeartbeats 4000000 in
theorem join_any {w : World} {X : Nat} {V : List Sx} {W : List Sg2} {o : Nat} {b : Bool} {vv ww : Value} (h : Rdr w X ⟨V, W, o, b⟩ vv ww) (k : Nat) (hk : 1 ≤ k) (hk6 : k ≤ 7) (hV : V.length = bins W + 1) (hl : W.length ≤ 3001) :
    Calls Tryd.prog 39 #[.pointer (some ⟨X, 0, none⟩), .int .i64 (k : Int)] w fun e w' => (∃ u, e = .returned u) ∧ (∃ vv' ww', Rdr w' X ⟨(jn k V W).1, (jn k V W).2, o, b⟩ vv' ww' ∧ Fr2 X vv ww w w' vv' ww') ∧ Below X w w' := by
  obtain ⟨R, hR⟩ : ∃ R, jn k V W = R := ⟨_, rfl⟩
  rw [hR]
  have hR0 : Hid (jn k V W = R) := hR
  clear hR
  go_enter Tryd.func39, Tryd.ntmps39
  go_wp2
  go_loopw [] (fun wr => ∃ (V' : List Sx) (W' : List Sg2) (vv' ww' : Value), Rdr wr X ⟨V', W', o, b⟩ vv' ww' ∧ Fr2 X vv ww w wr vv' ww' ∧ Hid (jn k V' W' = R) ∧ Hid (V'.length = bins W' + 1) ∧ W'.length ≤ 3001 ∧ Below X w wr) (fun wr => wlen X wr)
  case atStart => exact ⟨V, W, vv, ww, h, Fr2.refl X vv ww w, hR0, hV, hl, Below.refl _ _⟩
  case round =>
    obtain ⟨V', W', vv', ww', hr, hf, hj, hv, hl', hb⟩ := hrel
    have hL := last_any hr (by show W'.length ≤ 4000; omega)
    simp only at hL
    clear h hR0 hV hl
    by_cases hc : k ≤ topL W'
    · cases W' with
      | nil => exact absurd hc (by show ¬ k ≤ 0; omega)
      | cons s W' =>
      have hc' : k ≤ s.2 := hc
      have i1 : (k : Int) ≤ (topL (s :: W') : Int) := by omega
      have hm := hr.wlen
      obtain ⟨hn1, hn2, hn3⟩ := jn1_len (W := W') (by omega) hv.out
      have hjj : Hid (jn k (jn1 V' s) W' = R) := by
        have := hj.out
        rw [jn, if_pos hc'] at this
        exact this
      have hnn : Hid ((jn1 V' s).length = bins W' + 1) := hn1
      have hvl : V'.length ≤ 4000 := by
        have := bins_le (s :: W')
        have := hv.out
        omega
      obtain ⟨g, cap, rfl, a1, a2, a3, a4, c0, c1, ho⟩ := own_last2 hr.w
      have hJ := fun m => joinOne_any (hr.drewN m) s hn2 hn3 hvl
      have c0' : ∀ m, (wr.drewN m).cell? ⟨g, W'.length * 2, none⟩ = some (.string ⟨s.1.toArray⟩) := fun _ => c0
      have c1' : ∀ m, (wr.drewN m).cell? ⟨g, W'.length * 2 + 1, none⟩ = some (.int .i64 (s.2 : Int)) := fun _ => c1
      have y1 : ∀ m, (wr.drewN m).cell? ⟨X, 1, none⟩ = some (.slice (some ⟨g, 0, none⟩) (W'.length + 1) cap) := fun _ => hr.b.c1
      rw [List.length_cons] at hl'
      have i2 : IntKind.i64.wrap ((W'.length : Int) + 1 - 1) = (W'.length : Int) := by rw [IntKind.wrap_i64]; omega
      have i3 : (W'.length : Int) < (W'.length : Int) + 1 := by omega
      have i4 : (0 : Int) ≤ (W'.length : Int) := by omega
      have i5 : (W'.length : Int) ≤ (cap : Int) := by omega
      clear hj hv hn1 hn2 hn3
      go_wp2_with (first
        | (go_at_call 59; refine hL.mono ?_; rintro e w1 ⟨rfl, m, rfl⟩; have hJm := hJ m; have y1m := y1 m; have c0m := c0' m; have c1m := c1' m; clear hJ y1 c0' c1' c0 c1 hL; have hbm : Below X w (wr.drewN m) := hb.trans (below_draws _ _ m); have hfm := hf.on (below_draws _ _ m); generalize wr.drewN m = wm at *)
        | (go_at_call 62; refine hJm.mono ?_; rintro e w2 ⟨⟨u, rfl⟩, ⟨vv2, hr2, hf2⟩, b2⟩; have hb2 := hbm.trans b2; have hf3 := hfm.trans hf2; obtain ⟨q0, q1, q2, q3, g0, g1, g2, g3⟩ := id hr2.b))
      have hr3 := hr2.popW
      exact ⟨⟨_, _, _, _, hr3, (hf3.setX 1 _).rows rfl rfl, hjj, hnn, by omega, hb2.setCell (Nat.le_refl X) _⟩, by rw [hr3.wlen, hm]; exact Nat.lt_succ_self _⟩
    · have i1 : ¬ (k : Int) ≤ (topL W' : Int) := by omega
      have hjj := hj.out
      rw [jn_skip (by omega)] at hjj
      subst hjj
      go_wp2_with (first
        | (go_at_call 59; refine hL.mono ?_; rintro e w1 ⟨rfl, m, rfl⟩))
      go_end0
      exact ⟨⟨_, rfl⟩, ⟨_, _, hr.drewN m, hf.on (below_draws _ _ m)⟩, hb.trans (below_draws _ _ m)⟩
end Go.Proofs.YtiddccohldjjcaaDoor
