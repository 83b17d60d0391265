
/- What the program's closes, mayEnd and leafOf do. -/
import Derived.Test.YtiddccohldjjcaaDoorPgD
import Derived.Test.YtiddccohldjjcaaDoorGlyH
import Derived.Test.YtiddccohldjjcaaDoorPar
import Derived.Test.YtiddccohldjjcaaDoorGdN
namespace Go.Proofs.YtiddccohldjjcaaDoor
open Go.RowKit Go.Lib
set_option linter.unusedSimpArgs false
set_option linter.unusedVariables false
attribute [local go_sem ↓] Go.wp_at_zero Go.wp_at_succ

theorem pParseInt_any (s : ByteArray) (hs : numB (bl s) = true) (w : World) : Calls Tryd.prog 70 #[.string s, .int .i64 10, .int .i64 64] w fun e w' => e = .returned (.tuple #[.int .i64 (valB 0 (bl s)), .nilIface]) ∧ Below w.heap.size w w' := by
  have hl := (num_len hs).1
  have h := Any.strconv_ParseInt_10_at64_ok laysP s (by rw [← bl_length]; omega) (valB 0 (bl s)) (parse_num hs) w
  refine Calls.mono h ?_
  rintro e w' ⟨rfl, hw⟩
  refine ⟨rfl, ?_⟩
  rcases hw with rfl | ⟨t, rfl⟩
  · exact Below.refl _ _
  · exact bytesWorld_below _ _ _

set_option maxRecDepth 100000 in
set_option maxHeartbeats 4000000 in
theorem closes_no {w : World} {X : Nat} {V : List Sx} {W : List Sg2} {b : Bool} {vv ww : Value} (h : Rdr w X ⟨V, W, 0, b⟩ vv ww) :
    Calls Tryd.prog 57 #[.pointer (some ⟨X, 0, none⟩)] w fun e w' => e = .returned (.bool false) ∧ w = w' := by
  obtain ⟨y0, y1, y2, y3, f0, f1, f2, f3⟩ := id h.b
  simp only at y2
  go_enter Tryd.func57, Tryd.ntmps57
  go_wp2
  go_ret
  exact ⟨rfl, rfl⟩
theorem brk_top {W : List Sg2} (h : brk W ≠ 0) (ht : topL W < 1) : ∃ s W', W = s :: W' ∧ brk W = brk W' + 1 ∧ bins W = bins W' := by
  cases W with
  | nil => exact absurd rfl h
  | cons s W =>
    have h0 : s.2 = 0 := by have : s.2 < 1 := ht; omega
    refine ⟨s, W, rfl, ?_, ?_⟩
    · show brk W + _ = _; rw [if_pos h0]
    · show bins W + _ = _; rw [if_pos (.inl h0)]; rfl
set_option maxRecDepth 100000 in
set_option maxHeartbeats 4000000 in
theorem closes_yes {w : World} {X : Nat} {V : List Sx} {W : List Sg2} {o : Nat} {b : Bool} {vv ww : Value} (h : Rdr w X ⟨V, W, o, b⟩ vv ww) (ho : o ≠ 0) (hob : o = brk W) (hV : V.length = bins W + 1) (hl : W.length ≤ 3001) :
    Calls Tryd.prog 57 #[.pointer (some ⟨X, 0, none⟩)] w fun e w' => e = .returned (.bool true) ∧ (∃ vv' ww', Rdr w' X ⟨(jn 1 V W).1, (jn 1 V W).2.tail, o - 1, b⟩ vv' ww') ∧ Below X w w' := by
  obtain ⟨y0, y1, y2, y3, f0, f1, f2, f3⟩ := id h.b
  have hJ := join_any h 1 (by omega) (by omega) hV hl
  obtain ⟨a1, a2, a3, a4⟩ := jn_ok (k := 1) (by omega) W V hV
  obtain ⟨s, W', e, _, _⟩ := brk_top (W := (jn 1 V W).2) (by omega) a4
  obtain ⟨V', hV'⟩ : ∃ V', (jn 1 V W).1 = V' := ⟨_, rfl⟩
  rw [e, hV'] at hJ
  rw [e, hV', List.tail_cons]
  rw [e, List.length_cons] at a3
  have hob' : o ≤ 4000 := by
    have : ∀ W, brk W ≤ W.length := fun W => by
      induction W with
      | nil => exact Nat.le_refl _
      | cons x r ih => show brk r + _ ≤ r.length + 1; split <;> omega
    have := this W
    omega
  obtain ⟨q, rfl⟩ : ∃ q, o = q + 1 := ⟨o - 1, by omega⟩
  have i1 : (((q + 1 : Nat) : Int) == 0) = false := beq_eq_false_iff_ne.2 (by omega)
  simp only at y2
  clear hob ho hV a1 a2 a4 e hV' h
  go_enter Tryd.func57, Tryd.ntmps57
  go_wp2_with (first
    | (go_at_call 39; refine hJ.mono ?_; rintro e w1 ⟨⟨u, rfl⟩, ⟨vv1, ww1, hr1, _⟩, b1⟩; obtain ⟨g, cap, rfl, q1, q2, q3, q4, c0, c1, hoo⟩ := own_last2 hr1.w; obtain ⟨z0, z1, z2, z3, g0, g1, g2, g3⟩ := id hr1.b))
  have i2 : IntKind.i64.wrap ((W'.length : Int) + 1 - 1) = (W'.length : Int) := by rw [IntKind.wrap_i64]; omega
  have i4 : (0 : Int) ≤ (W'.length : Int) := by omega
  have i5 : (W'.length : Int) ≤ (cap : Int) := by omega
  go_region
  have hr2 := hr1.popW.drew
  have hb2 : Below X w (w1.setCell ⟨X, 1, none⟩ (.slice (some ⟨g, 0, none⟩) W'.length cap)).drew := (b1.setCell (Nat.le_refl X) _).drew
  clear hr1 z0 z1 z2 z3 g0 g1 g2 g3 b1 y0 y1 y2 y3 f0 f1 f2 f3 hJ c0 c1 hoo
  obtain ⟨z0, z1, z2, z3, g0, g1, g2, g3⟩ := id hr2.b
  simp only at z2
  generalize (w1.setCell ⟨X, 1, none⟩ (.slice (some ⟨g, 0, none⟩) W'.length cap)).drew = w2 at *
  have i6 : IntKind.i64.wrap (((q + 1 : Nat) : Int) - 1) = (q : Int) := by rw [IntKind.wrap_i64]; omega
  go_wp2
  go_ret
  exact ⟨rfl, ⟨_, _, hr2.b.set2 _, ownsRow_setCell_below hr2.v (Nat.lt_succ_self X) _, ownsRow_setCell_below hr2.w (Nat.lt_succ_self X) _, hr2.a⟩, hb2.setCell (Nat.le_refl X) _⟩
end Go.Proofs.YtiddccohldjjcaaDoor
