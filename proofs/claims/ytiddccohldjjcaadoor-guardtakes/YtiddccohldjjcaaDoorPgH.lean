
/- What the program's takesAhead does with a sign; takesBehind. -/
import Derived.Test.YtiddccohldjjcaaDoorPgG
namespace Go.Proofs.YtiddccohldjjcaaDoor
open Go.RowKit Go.Lib
set_option linter.unusedSimpArgs false
set_option linter.unusedVariables false
attribute [local go_sem ↓] Go.wp_at_zero Go.wp_at_succ

theorem Rdr.setO {w : World} {X : Nat} {V : List Sx} {W : List Sg2} {o : Nat} {b : Bool} {vv ww : Value} (h : Rdr w X ⟨V, W, o, b⟩ vv ww) (o' : Nat) : Rdr (w.setCell ⟨X, 2, none⟩ (.int .i64 (o' : Int))) X ⟨V, W, o', b⟩ vv ww :=
  ⟨h.b.set2 _, ownsRow_setCell_below h.v (Nat.lt_succ_self X) _, ownsRow_setCell_below h.w (Nat.lt_succ_self X) _, h.a⟩
theorem Rdr.setB {w : World} {X : Nat} {V : List Sx} {W : List Sg2} {o : Nat} {b : Bool} {vv ww : Value} (h : Rdr w X ⟨V, W, o, b⟩ vv ww) (b' : Bool) : Rdr (w.setCell ⟨X, 3, none⟩ (.bool b')) X ⟨V, W, o, b'⟩ vv ww :=
  ⟨h.b.set3 _, ownsRow_setCell_below h.v (Nat.lt_succ_self X) _, ownsRow_setCell_below h.w (Nat.lt_succ_self X) _, h.a⟩
abbrev sgV (t : List UInt8) (ln co : Int) : Value := .agg #[.int .i64 3, .string ⟨t.toArray⟩, .int .i64 ln, .int .i64 co]
set_option maxRecDepth 100000 in
set_option maxHeartbeats 4000000 in
theorem ahead_par {w : World} {X : Nat} {V : List Sx} {W : List Sg2} {o : Nat} {vv ww : Value} (h : Rdr w X ⟨V, W, o, false⟩ vv ww) (ln co : Int) (hl : W.length ≤ 3001) (ho : o ≤ 4000) :
    Calls Tryd.prog 38 #[.pointer (some ⟨X, 0, none⟩), sgV [40] ln co] w fun e w' => e = .returned (.bool true) ∧ (∃ vv' ww', Rdr w' X ⟨V, ([40], 0) :: W, o + 1, false⟩ vv' ww') ∧ Below X w w' := by
  have hX := h.lt
  have hq1 : Rdr (w.setCell ⟨X, 2, none⟩ (.int .i64 ((o : Int) + 1))) X ⟨V, W, o + 1, false⟩ vv ww := h.setO (o + 1)
  have hq0 : Below w.heap.size w (w.alloc (.cells #[.int .i64 3, .string ⟨#[40]⟩, .int .i64 ln, .int .i64 co] 43)) := (Below.refl _ _).alloc (Nat.le_refl _) _
  have hA0 := At4.new w (.int .i64 3) (.string ⟨#[40]⟩) (.int .i64 ln) (.int .i64 co) 43
  obtain ⟨y0, y1, y2, y3⟩ := id hA0
  have hr0 := h.on hq0
  obtain ⟨z0, z1, z2, z3, g0, g1, g2, g3⟩ := id hr0.b
  have i1 : IntKind.i64.wrap ((o : Int) + 1) = (o : Int) + 1 := by rw [IntKind.wrap_i64]; omega
  simp only at z2
  have hW := fun w1 (hr : Rdr w1 X ⟨V, W, o + 1, false⟩ vv ww) => wait_any hr [40] 0 (by omega) hl (by simp)
  unfold sgV
  go_enter Tryd.func38, Tryd.ntmps38
  go_wp2_with (first
    | (go_at_call 60; refine (hW _ (hq1.on ((Below.refl _ _).alloc (Nat.le_refl _) _))).mono ?_; rintro e w1 ⟨⟨u, rfl⟩, ⟨ww1, hr1⟩, b1⟩))
  go_ret
  refine ⟨rfl, ⟨_, _, hr1⟩, Below.trans (((Below.refl X w).setCell (Nat.le_refl X) _).alloc (by simp; omega) _) b1⟩
set_option maxRecDepth 100000 in
set_option maxHeartbeats 4000000 in
theorem ahead_un {w : World} {X : Nat} {V : List Sx} {W : List Sg2} {o : Nat} {vv ww : Value} (h : Rdr w X ⟨V, W, o, false⟩ vv ww) (t : List UInt8) (hu : t = [33] ∨ t = [45]) (ln co : Int) (hl : W.length ≤ 3001) :
    Calls Tryd.prog 38 #[.pointer (some ⟨X, 0, none⟩), sgV t ln co] w fun e w' => e = .returned (.bool true) ∧ (∃ vv' ww', Rdr w' X ⟨V, (t, 6) :: W, o, false⟩ vv' ww') ∧ Below X w w' := by
  have hX := h.lt
  have hW := fun w1 (hr : Rdr w1 X ⟨V, W, o, false⟩ vv ww) => wait_any hr t 6 (by omega) hl (by rcases hu with rfl | rfl <;> simp)
  have hq0 : Below w.heap.size w (w.alloc (.cells #[.int .i64 3, .string ⟨t.toArray⟩, .int .i64 ln, .int .i64 co] 43)) := (Below.refl _ _).alloc (Nat.le_refl _) _
  have hA0 := At4.new w (.int .i64 3) (.string ⟨t.toArray⟩) (.int .i64 ln) (.int .i64 co) 43
  obtain ⟨y0, y1, y2, y3⟩ := id hA0
  have hr0 := h.on hq0
  have hW0 := hW _ hr0
  unfold sgV
  rcases hu with rfl | rfl
  all_goals (
    go_enter Tryd.func38, Tryd.ntmps38
    go_wp2_with (first
      | (go_at_call 60; refine hW0.mono ?_; rintro e w1 ⟨⟨u, rfl⟩, ⟨ww1, hr1⟩, b1⟩))
    go_ret
    exact ⟨rfl, ⟨_, _, hr1⟩, (hq0.mono (Nat.le_of_lt hX)).trans b1⟩)
set_option maxRecDepth 100000 in
set_option maxHeartbeats 4000000 in
theorem ahead_sign {w : World} {X : Nat} {V : List Sx} {W : List Sg2} {o : Nat} {vv ww : Value} (h : Rdr w X ⟨V, W, o, false⟩ vv ww) (t : List UInt8) (ht : t.length ≤ 12000) (ln co : Int) (hl : W.length ≤ 3001) (ho : o ≤ 4000) :
    Calls Tryd.prog 38 #[.pointer (some ⟨X, 0, none⟩), sgV t ln co] w fun e w' => e = .returned (.bool (stA (leafY (valB 0) rsvB) ⟨V, W, o, false⟩ (3, t)).2) ∧ (∃ vv' ww', Rdr w' X (stA (leafY (valB 0) rsvB) ⟨V, W, o, false⟩ (3, t)).1 vv' ww') ∧ Below X w w' := by
  have hq0 : Below w.heap.size w (w.alloc (.cells #[.int .i64 3, .string ⟨t.toArray⟩, .int .i64 ln, .int .i64 co] 43)) := (Below.refl _ _).alloc (Nat.le_refl _) _
  have hA0 := At4.new w (.int .i64 3) (.string ⟨t.toArray⟩) (.int .i64 ln) (.int .i64 co) 43
  obtain ⟨y0, y1, y2, y3⟩ := id hA0
  have hr0 := h.on hq0
  have hX := h.lt
  obtain ⟨z0, z1, z2, z3, g0, g1, g2, g3⟩ := id hr0.b
  unfold stA sgV
  rw [if_neg (by simp)]
  by_cases h40 : t = [40]
  · subst h40
    rw [if_pos rfl]
    exact ahead_par h ln co hl ho
  · rw [if_neg h40]
    by_cases hu : t = [33] ∨ t = [45]
    · rw [if_pos hu]
      exact ahead_un h t hu ln co hl
    · rw [if_neg hu]
      have e1 : (t == [40]) = false := beq_eq_false_iff_ne.2 h40
      have e2 : (t == [33]) = false := beq_eq_false_iff_ne.2 (fun e => hu (.inl e))
      have e3 : (t == [45]) = false := beq_eq_false_iff_ne.2 (fun e => hu (.inr e))
      go_enter Tryd.func38, Tryd.ntmps38
      go_wp2
      go_ret
      exact ⟨rfl, ⟨_, _, hr0⟩, hq0.mono (Nat.le_of_lt h.lt)⟩
end Go.Proofs.YtiddccohldjjcaaDoor
