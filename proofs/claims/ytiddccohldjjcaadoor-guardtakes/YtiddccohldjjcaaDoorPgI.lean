
/- What the program's takesBehind does. -/
import Derived.Test.YtiddccohldjjcaaDoorPgH
namespace Go.Proofs.YtiddccohldjjcaaDoor
open Go.RowKit Go.Lib
set_option linter.unusedSimpArgs false
set_option linter.unusedVariables false
attribute [local go_sem ↓] Go.wp_at_zero Go.wp_at_succ

set_option maxRecDepth 100000 in
set_option maxHeartbeats 4000000 in
theorem behind_kind {w : World} {X K : Nat} {seg : List Ru} {y : Yd} {vv ww : Value} (h : Rdr w X y vv ww) (ln co : Int) (hK : K ≠ 3) :
    Calls Tryd.prog 37 #[.pointer (some ⟨X, 0, none⟩), wdV K seg ln co] w fun e w' => e = .returned (.bool false) ∧ (∃ vv' ww', Rdr w' X y vv' ww') ∧ Below X w w' := by
  obtain ⟨tx, htx⟩ : ∃ tx, txt seg = tx := ⟨_, rfl⟩
  unfold wdV
  rw [htx]
  have hq0 : Below w.heap.size w (w.alloc (.cells #[.int .i64 (K : Int), .string tx, .int .i64 ln, .int .i64 co] 43)) := (Below.refl _ _).alloc (Nat.le_refl _) _
  have k3 : ((K : Int) != 3) = true := by simp; omega
  go_enter Tryd.func37, Tryd.ntmps37
  go_wp2
  go_ret
  exact ⟨rfl, ⟨_, _, h.on hq0⟩, hq0.mono (Nat.le_of_lt h.lt)⟩
set_option maxRecDepth 100000 in
set_option maxHeartbeats 4000000 in
theorem behind_shut {w : World} {X : Nat} {V : List Sx} {W : List Sg2} {o : Nat} {b : Bool} {vv ww : Value} (h : Rdr w X ⟨V, W, o, b⟩ vv ww) (ln co : Int) (hob : o = brk W) (hV : V.length = bins W + 1) (hl : W.length ≤ 3001) :
    Calls Tryd.prog 37 #[.pointer (some ⟨X, 0, none⟩), sgV [41] ln co] w fun e w' => e = .returned (.bool (stB ⟨V, W, o, b⟩ (3, [41])).2) ∧ (∃ vv' ww', Rdr w' X (stB ⟨V, W, o, b⟩ (3, [41])).1 vv' ww') ∧ Below X w w' := by
  have hq0 : Below w.heap.size w (w.alloc (.cells #[.int .i64 3, .string ⟨#[41]⟩, .int .i64 ln, .int .i64 co] 43)) := (Below.refl _ _).alloc (Nat.le_refl _) _
  have hr0 := h.on hq0
  have hX := h.lt
  have hb0 := hq0.mono (Nat.le_of_lt hX)
  unfold sgV
  by_cases ho : o = 0
  · rw [stB_shut0 (by simp) rfl ho]
    subst ho
    clear hob
    have hC := closes_no hr0
    go_enter Tryd.func37, Tryd.ntmps37
    go_wp2_with (first
      | (go_at_call 57; refine hC.mono ?_; rintro e w1 ⟨rfl, rfl⟩))
    go_ret
    exact ⟨rfl, ⟨_, _, hr0⟩, hb0⟩
  · rw [stB_shut (by simp) rfl ho]
    have hC := closes_yes hr0 ho hob hV hl
    go_enter Tryd.func37, Tryd.ntmps37
    go_wp2_with (first
      | (go_at_call 57; refine hC.mono ?_; rintro e w1 ⟨rfl, ⟨vv1, ww1, hr1⟩, b1⟩))
    go_ret
    exact ⟨rfl, ⟨_, _, hr1⟩, hb0.trans b1⟩
set_option maxRecDepth 100000 in
set_option maxHeartbeats 4000000 in
theorem behind_none {w : World} {X : Nat} {y : Yd} {vv ww : Value} (h : Rdr w X y vv ww) (t : List UInt8) (ln co : Int) (h41 : ¬ t = [41]) (hv : lv t = 0) :
    Calls Tryd.prog 37 #[.pointer (some ⟨X, 0, none⟩), sgV t ln co] w fun e w' => e = .returned (.bool false) ∧ (∃ vv' ww', Rdr w' X y vv' ww') ∧ Below X w w' := by
  have hq0 : Below w.heap.size w (w.alloc (.cells #[.int .i64 3, .string ⟨t.toArray⟩, .int .i64 ln, .int .i64 co] 43)) := (Below.refl _ _).alloc (Nat.le_refl _) _
  have hL := fun w1 => pLevel_any ⟨t.toArray⟩ w1
  have e : lv (bl ⟨t.toArray⟩) = 0 := hv
  rw [e] at hL
  have e1 : (t == [41]) = false := beq_eq_false_iff_ne.2 h41
  clear e hv
  unfold sgV
  go_enter Tryd.func37, Tryd.ntmps37
  go_wp2_with (first
    | (go_at_call 58; refine (hL _).mono ?_; rintro e w1 ⟨rfl, rfl⟩))
  go_ret
  exact ⟨rfl, ⟨_, _, h.on hq0⟩, hq0.mono (Nat.le_of_lt h.lt)⟩
theorem At4.blk {w w' : World} {N : Nat} {a b c e : Value} (h : At4 w N a b c e) (hb : w'.heap[N]? = w.heap[N]?) : At4 w' N a b c e := by
  refine ⟨?_, ?_, ?_, ?_⟩
  · rw [World.cell?_of_block (w := w) (a := ⟨N, 0, none⟩) hb]; exact h.1
  · rw [World.cell?_of_block (w := w) (a := ⟨N, 1, none⟩) hb]; exact h.2.1
  · rw [World.cell?_of_block (w := w) (a := ⟨N, 2, none⟩) hb]; exact h.2.2.1
  · rw [World.cell?_of_block (w := w) (a := ⟨N, 3, none⟩) hb]; exact h.2.2.2
set_option maxRecDepth 100000 in
set_option maxHeartbeats 4000000 in
theorem behind_op {w : World} {X : Nat} {V : List Sx} {W : List Sg2} {o : Nat} {b : Bool} {vv ww : Value} (h : Rdr w X ⟨V, W, o, b⟩ vv ww) (t : List UInt8) (ln co : Int) (k : Nat) (hk : lv t = k) (hk1 : 1 ≤ k) (hV : V.length = bins W + 1) (hl : W.length ≤ 3001) :
    Calls Tryd.prog 37 #[.pointer (some ⟨X, 0, none⟩), sgV t ln co] w fun e w' => e = .returned (.bool (stB ⟨V, W, o, b⟩ (3, t)).2) ∧ (∃ vv' ww', Rdr w' X (stB ⟨V, W, o, b⟩ (3, t)).1 vv' ww') ∧ Below X w w' := by
  have hq0 : Below w.heap.size w (w.alloc (.cells #[.int .i64 3, .string ⟨t.toArray⟩, .int .i64 ln, .int .i64 co] 43)) := (Below.refl _ _).alloc (Nat.le_refl _) _
  have hr0 := h.on hq0
  have hX := h.lt
  have hb0 := hq0.mono (Nat.le_of_lt hX)
  have hA0 := At4.new w (.int .i64 3) (.string ⟨t.toArray⟩) (.int .i64 ln) (.int .i64 co) 43
  have hkeep : ∀ w1 vv1 ww1, Fr2 X vv ww (w.alloc (.cells #[.int .i64 3, .string ⟨t.toArray⟩, .int .i64 ln, .int .i64 co] 43)) w1 vv1 ww1 → At4 w1 w.heap.size (.int .i64 3) (.string ⟨t.toArray⟩) (.int .i64 ln) (.int .i64 co) := fun w1 vv1 ww1 hf =>
    hA0.blk (hf.block _ (by simp) (by omega) (fun e => by have := (World.ownsRow.lt h.v _ e).2; omega) (fun e => by have := (World.ownsRow.lt h.w _ e).2; omega))
  have hL := fun w1 => pLevel_any ⟨t.toArray⟩ w1
  have e : lv (bl ⟨t.toArray⟩) = k := hk
  rw [e] at hL
  have hk5 := lv_le t
  rw [hk] at hk5
  have e1 : (t == [41]) = false := beq_eq_false_iff_ne.2 (not41 (by omega))
  have ht := (lv_opr (s := t) (by omega)).2
  have k0 : ((k : Int) == 0) = false := beq_eq_false_iff_ne.2 (by omega)
  have i1 : IntKind.i64.wrap ((k : Int) + 1) = (k : Int) + 1 := by rw [IntKind.wrap_i64]; omega
  have hJ1 := join_any hr0 (k + 1) (by omega) (by omega) hV hl
  obtain ⟨a1, a2, a3, a4⟩ := jn_ok (k := k + 1) (by omega) W V hV
  have hjj := jn_jn (k := k) (k' := k + 1) (by omega) W V
  obtain ⟨b1, b2, b3, b4⟩ := jn_ok (k := k) (by omega) W V hV
  have hN : ∀ m : Nat, (((m + 1 : Nat)) : Int) = (m : Int) + 1 := fun m => by omega
  rw [hN] at hJ1
  have hLa := fun w1 vv1 ww1 (hr1 : Rdr w1 X ⟨(jn (k + 1) V W).1, (jn (k + 1) V W).2, o, b⟩ vv1 ww1) => last_any hr1 (by show (jn (k + 1) V W).2.length ≤ 4000; omega)
  simp only at hLa
  have hJ2 := fun w1 vv1 ww1 (hr1 : Rdr w1 X ⟨(jn (k + 1) V W).1, (jn (k + 1) V W).2, o, b⟩ vv1 ww1) => join_any hr1 k (by omega) (by omega) a1 (by omega)
  rw [hjj] at hJ2
  obtain ⟨V1, hV1⟩ : ∃ V1, (jn (k + 1) V W).1 = V1 := ⟨_, rfl⟩
  obtain ⟨W1, hW1⟩ : ∃ W1, (jn (k + 1) V W).2 = W1 := ⟨_, rfl⟩
  obtain ⟨V2, hV2⟩ : ∃ V2, (jn k V W).1 = V2 := ⟨_, rfl⟩
  obtain ⟨W2, hW2⟩ : ∃ W2, (jn k V W).2 = W2 := ⟨_, rfl⟩
  have hWt := fun w1 vv1 ww1 (hr1 : Rdr w1 X ⟨V2, W2, o, b⟩ vv1 ww1) => wait_any hr1 t k (by omega) (by rw [← hW2]; omega) (by omega)
  simp only [hV1, hW1, hV2, hW2] at hJ1 hJ2 hLa a1 a2 a3 a4
  by_cases htwo : k = 3 ∧ topL (jn (k + 1) V W).2 = 3
  · obtain ⟨h3, ht3⟩ := htwo
    subst h3
    rw [stB_two (by simp) hk ht3]
    simp only [hV1, hW1] at ht3 ⊢
    rw [ht3] at hLa
    clear hjj hV1 hW1 hV2 hW2 hWt hJ2 h hk
    unfold sgV
    go_enter Tryd.func37, Tryd.ntmps37
    go_wp2_with (first
      | (go_at_call 58; refine (hL _).mono ?_; rintro e w1 ⟨rfl, rfl⟩)
      | (go_at_call 39; refine hJ1.mono ?_; rintro e w1 ⟨⟨u, rfl⟩, ⟨vv1, ww1, hr1, hf1⟩, b1⟩)
      | (go_at_call 59; refine (hLa _ _ _ hr1).mono ?_; rintro e w2 ⟨rfl, m, rfl⟩))
    go_ret
    exact ⟨rfl, ⟨_, _, hr1.drewN m⟩, (hb0.trans b1).trans (below_draws _ _ m)⟩
  · rw [stB_op (by simp) hk hk1 htwo]
    simp only [hV1, hW1] at htwo
    simp only [hV2, hW2]
    unfold sgV
    by_cases h3 : k = 3
    · have ht3 : ((topL W1 : Int) == 3) = false := beq_eq_false_iff_ne.2 (fun e => htwo ⟨h3, by omega⟩)
      have k3 : ((k : Int) == 3) = true := by simp; omega
      clear hjj hV1 hW1 hV2 hW2 h hk htwo h3 e
      go_enter Tryd.func37, Tryd.ntmps37
      go_wp2_with (first
        | (go_at_call 60; refine (hWt _ _ _ hr3).mono ?_; rintro e w4 ⟨⟨u4, rfl⟩, ⟨ww4, hr4⟩, b4⟩; obtain ⟨z0, z1, z2, z3, g0, g1, g2, g3⟩ := id hr4.b)
        | (go_at_call 39; refine (hJ2 _ _ _ hr2).mono ?_; rintro e w3 ⟨⟨u3, rfl⟩, ⟨vv3, ww3, hr3, hf3⟩, b3⟩; obtain ⟨x0, x1, x2, x3⟩ := hkeep _ _ _ ((hf1.on (below_draws _ _ m)).trans hf3))
        | (go_at_call 59; refine (hLa _ _ _ hr1).mono ?_; rintro e w2 ⟨rfl, m, rfl⟩; have hr2 := hr1.drewN m)
        | (go_at_call 58; refine (hL _).mono ?_; rintro e w1 ⟨rfl, rfl⟩)
        | (go_at_call 39; refine hJ1.mono ?_; rintro e w1 ⟨⟨u, rfl⟩, ⟨vv1, ww1, hr1, hf1⟩, b1⟩))
      go_ret
      exact ⟨rfl, ⟨_, _, hr4.setB false⟩, ((((hb0.trans b1).trans (below_draws _ _ m)).trans b3).trans b4).setCell (Nat.le_refl X) _⟩
    · have k3 : ((k : Int) == 3) = false := beq_eq_false_iff_ne.2 (by omega)
      clear hjj hV1 hW1 hV2 hW2 h hk htwo h3 e
      go_enter Tryd.func37, Tryd.ntmps37
      go_wp2_with (first
        | (go_at_call 60; refine (hWt _ _ _ hr3).mono ?_; rintro e w4 ⟨⟨u4, rfl⟩, ⟨ww4, hr4⟩, b4⟩; obtain ⟨z0, z1, z2, z3, g0, g1, g2, g3⟩ := id hr4.b)
        | (go_at_call 39; refine (hJ2 _ _ _ hr1).mono ?_; rintro e w3 ⟨⟨u3, rfl⟩, ⟨vv3, ww3, hr3, hf3⟩, b3⟩; obtain ⟨x0, x1, x2, x3⟩ := hkeep _ _ _ (hf1.trans hf3))
        | (go_at_call 58; refine (hL _).mono ?_; rintro e w1 ⟨rfl, rfl⟩)
        | (go_at_call 39; refine hJ1.mono ?_; rintro e w1 ⟨⟨u, rfl⟩, ⟨vv1, ww1, hr1, hf1⟩, b1⟩))
      go_ret
      exact ⟨rfl, ⟨_, _, hr4.setB false⟩, (((hb0.trans b1).trans b3).trans b4).setCell (Nat.le_refl X) _⟩
end Go.Proofs.YtiddccohldjjcaaDoor
