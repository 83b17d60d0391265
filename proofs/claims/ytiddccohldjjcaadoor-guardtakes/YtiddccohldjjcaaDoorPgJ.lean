
/- What the program's takes, mayEnd and end do. -/
import Derived.Test.YtiddccohldjjcaaDoorPgI
namespace Go.Proofs.YtiddccohldjjcaaDoor
open Go.RowKit Go.Lib
set_option linter.unusedSimpArgs false
set_option linter.unusedVariables false
attribute [local go_sem ↓] Go.wp_at_zero Go.wp_at_succ

/-- What holds of the reader behind n words. -/
structure InvY (y : Yd) (n : Nat) : Prop where
  v : y.V.length = bins y.W + (if y.b = true then 1 else 0)
  o : y.o = brk y.W
  w : y.W.length ≤ n
theorem inv_start : InvY ⟨[], [], 0, false⟩ 0 := ⟨rfl, rfl, Nat.le_refl _⟩
theorem inv_step {leaf : Tk → Option Sx} {y : Yd} {n : Nat} (h : InvY y n) (w : Tk) : InvY (stp leaf y w).1 (n + 1) := by
  obtain ⟨V, W, o, b⟩ := y
  have h1 := h.v
  have h2 := h.o
  have h3 := h.w
  have hsame : InvY ⟨V, W, o, b⟩ (n + 1) := ⟨h1, h2, Nat.le_succ_of_le h3⟩
  simp only at h1 h2 h3
  unfold stp
  cases b with
  | true =>
    rw [if_pos rfl] at h1 ⊢
    by_cases hk : w.1 ≠ 3
    · rw [stB_kind hk]; exact hsame
    by_cases h41 : w.2 = [41]
    · by_cases ho : o = 0
      · rw [stB_shut0 hk h41 ho]; exact hsame
      · rw [stB_shut hk h41 ho]
        obtain ⟨a1, a2, a3, a4⟩ := jn_ok (k := 1) (by omega) W V h1
        obtain ⟨s, W', e, e1, e2⟩ := brk_top (W := (jn 1 V W).2) (by omega) a4
        refine ⟨?_, ?_, ?_⟩
        · show (jn 1 V W).1.length = bins (jn 1 V W).2.tail + _
          rw [a1, e2, e]; rfl
        · show o - 1 = brk (jn 1 V W).2.tail
          rw [e, List.tail_cons]; omega
        · show (jn 1 V W).2.tail.length ≤ n + 1
          rw [List.length_tail]; omega
    · by_cases hl : lv w.2 = 0
      · rw [stB_none hk h41 hl]; exact hsame
      · by_cases ht : lv w.2 = 3 ∧ topL (jn 4 V W).2 = 3
        · rw [stB_two hk ht.1 ht.2]
          obtain ⟨a1, a2, a3, a4⟩ := jn_ok (k := 4) (by omega) W V h1
          exact ⟨a1, h2.trans a2.symm, by show (jn 4 V W).2.length ≤ n + 1; omega⟩
        · rw [stB_op hk rfl (by omega) (fun q => ht ⟨q.1, by have := q.2; rw [q.1] at this; exact this⟩)]
          obtain ⟨a1, a2, a3, a4⟩ := jn_ok (k := lv w.2) (by omega) W V h1
          have h5 := lv_le w.2
          refine ⟨?_, ?_, by show (jn (lv w.2) V W).2.length + 1 ≤ n + 1; omega⟩
          · show (jn (lv w.2) V W).1.length = bins (jn (lv w.2) V W).2 + (if lv w.2 = 0 ∨ lv w.2 = 6 then 0 else 1) + 0
            rw [if_neg (by omega)]; exact a1
          · show o = brk (jn (lv w.2) V W).2 + (if lv w.2 = 0 then 1 else 0)
            rw [if_neg hl]; omega
  | false =>
    rw [if_neg Bool.false_ne_true] at h1 ⊢
    unfold stA
    by_cases hk : w.1 ≠ 3
    · rw [if_pos hk]
      cases leaf w with
      | some x => exact ⟨by show V.length + 1 = bins W + 1; omega, h2, Nat.le_succ_of_le h3⟩
      | none => exact hsame
    · rw [if_neg hk]
      by_cases h40 : w.2 = [40]
      · rw [if_pos h40]
        exact ⟨h1, by show o + 1 = brk W + 1; omega, by show W.length + 1 ≤ n + 1; omega⟩
      · rw [if_neg h40]
        by_cases hu : w.2 = [33] ∨ w.2 = [45]
        · rw [if_pos hu]
          exact ⟨h1, h2, by show W.length + 1 ≤ n + 1; omega⟩
        · rw [if_neg hu]; exact hsame
theorem brk_le (W : List Sg2) : brk W ≤ W.length := by
  induction W with
  | nil => exact Nat.le_refl _
  | cons x r ih => show brk r + _ ≤ r.length + 1; split <;> omega
theorem ahead_any {w : World} {X K n : Nat} {seg : List Ru} {V : List Sx} {W : List Sg2} {o : Nat} {vv ww : Value} (h : Rdr w X ⟨V, W, o, false⟩ vv ww) (hi : InvY ⟨V, W, o, false⟩ n) (hn : n ≤ 3000) (h1 : OneW K seg) (ln co : Int) :
    Calls Tryd.prog 38 #[.pointer (some ⟨X, 0, none⟩), wdV K seg ln co] w fun e w' => e = .returned (.bool (stA (leafY (valB 0) rsvB) ⟨V, W, o, false⟩ (K, byt seg)).2) ∧ (∃ vv' ww', Rdr w' X (stA (leafY (valB 0) rsvB) ⟨V, W, o, false⟩ (K, byt seg)).1 vv' ww') ∧ Below X w w' := by
  have hv := hi.v
  have ho := hi.o
  have hw := hi.w
  have hb := bins_le W
  have hbk := brk_le W
  simp only at hv ho hw
  rw [if_neg (by decide)] at hv
  by_cases hK : K = 3
  · subst hK
    exact ahead_sign h (byt seg) h1.l ln co (by omega) (by omega)
  · have e : stA (leafY (valB 0) rsvB) ⟨V, W, o, false⟩ (K, byt seg) = match leafY (valB 0) rsvB (K, byt seg) with | some x => (⟨x :: V, W, o, true⟩, true) | none => (⟨V, W, o, false⟩, false) := by
      unfold stA; rw [if_pos hK]
      cases leafY (valB 0) rsvB (K, byt seg) <;> rfl
    rw [e]
    cases hx : leafY (valB 0) rsvB (K, byt seg) with
    | some x => exact ahead_leaf h h1 ln co hK (by omega) hx
    | none => exact ahead_no h h1 ln co hK hx
theorem behind_any {w : World} {X K n : Nat} {seg : List Ru} {V : List Sx} {W : List Sg2} {o : Nat} {vv ww : Value} (h : Rdr w X ⟨V, W, o, true⟩ vv ww) (hi : InvY ⟨V, W, o, true⟩ n) (hn : n ≤ 3000) (h1 : OneW K seg) (ln co : Int) :
    Calls Tryd.prog 37 #[.pointer (some ⟨X, 0, none⟩), wdV K seg ln co] w fun e w' => e = .returned (.bool (stB ⟨V, W, o, true⟩ (K, byt seg)).2) ∧ (∃ vv' ww', Rdr w' X (stB ⟨V, W, o, true⟩ (K, byt seg)).1 vv' ww') ∧ Below X w w' := by
  have hv : V.length = bins W + 1 := hi.v
  have ho : o = brk W := hi.o
  have hw : W.length ≤ n := hi.w
  by_cases hK : K = 3
  · subst hK
    by_cases h41 : byt seg = [41]
    · have : wdV 3 seg ln co = sgV [41] ln co := by
        show Value.agg #[.int .i64 ((3 : Nat) : Int), .string ⟨(byt seg).toArray⟩, _, _] = _
        rw [h41]; rfl
      rw [this, h41]
      exact behind_shut h ln co ho hv (by omega)
    · by_cases hl : lv (byt seg) = 0
      · rw [stB_none (by simp) h41 hl]
        exact behind_none h (byt seg) ln co h41 hl
      · exact behind_op h (byt seg) ln co _ rfl (by omega) hv (by omega)
  · rw [stB_kind hK]
    exact behind_kind h ln co hK
set_option maxRecDepth 100000 in
set_option maxHeartbeats 4000000 in
theorem takes_any {w : World} {X K n : Nat} {seg : List Ru} {y : Yd} {vv ww : Value} (h : Rdr w X y vv ww) (hi : InvY y n) (hn : n ≤ 3000) (h1 : OneW K seg) (ln co : Int) :
    Calls Tryd.prog 18 #[.pointer (some ⟨X, 0, none⟩), wdV K seg ln co] w fun e w' => e = .returned (.bool (stp (leafY (valB 0) rsvB) y (K, byt seg)).2) ∧ (∃ vv' ww', Rdr w' X (stp (leafY (valB 0) rsvB) y (K, byt seg)).1 vv' ww') ∧ Below X w w' := by
  obtain ⟨V, W, o, b⟩ := y
  have hX := h.lt
  have hq0 : Below w.heap.size w (w.alloc (.cells #[.int .i64 (K : Int), .string (txt seg), .int .i64 ln, .int .i64 co] 43)) := (Below.refl _ _).alloc (Nat.le_refl _) _
  have hA0 := At4.new w (.int .i64 (K : Int)) (.string (txt seg)) (.int .i64 ln) (.int .i64 co) 43
  have hr0 := h.on hq0
  have hb0 := hq0.mono (Nat.le_of_lt hX)
  obtain ⟨y0, y1, y2, y3⟩ := id hA0
  obtain ⟨z0, z1, z2, z3, g0, g1, g2, g3⟩ := id hr0.b
  unfold stp
  cases b with
  | true =>
    rw [if_pos rfl]
    have hC := behind_any hr0 hi hn h1 ln co
    obtain ⟨r, hr⟩ : ∃ r, stB ⟨V, W, o, true⟩ (K, byt seg) = r := ⟨_, rfl⟩
    unfold wdV at hC ⊢
    rw [hr] at hC ⊢
    go_enter Tryd.func18, Tryd.ntmps18
    go_wp2_with (first
      | (go_at_call 37; refine hC.mono ?_; rintro e w1 ⟨rfl, ⟨vv1, ww1, hr1⟩, b1⟩))
    go_ret
    exact ⟨rfl, ⟨_, _, hr1⟩, hb0.trans b1⟩
  | false =>
    rw [if_neg Bool.false_ne_true]
    have hC := ahead_any hr0 hi hn h1 ln co
    obtain ⟨r, hr⟩ : ∃ r, stA (leafY (valB 0) rsvB) ⟨V, W, o, false⟩ (K, byt seg) = r := ⟨_, rfl⟩
    unfold wdV at hC ⊢
    rw [hr] at hC ⊢
    go_enter Tryd.func18, Tryd.ntmps18
    go_wp2_with (first
      | (go_at_call 38; refine hC.mono ?_; rintro e w1 ⟨rfl, ⟨vv1, ww1, hr1⟩, b1⟩))
    go_ret
    exact ⟨rfl, ⟨_, _, hr1⟩, hb0.trans b1⟩
set_option maxRecDepth 100000 in
set_option maxHeartbeats 4000000 in
theorem mayEnd_any {w : World} {X : Nat} {y : Yd} {vv ww : Value} (h : Rdr w X y vv ww) (ho : y.o ≤ 4000) :
    Calls Tryd.prog 19 #[.pointer (some ⟨X, 0, none⟩)] w fun e w' => e = .returned (.bool (y.b && decide (y.o = 0))) ∧ Below w.heap.size w w' := by
  obtain ⟨V, W, o, b⟩ := y
  obtain ⟨z0, z1, z2, z3, g0, g1, g2, g3⟩ := id h.b
  simp only at z2 z3 ho ⊢
  clear h
  cases b with
  | true =>
    by_cases hq : o = 0
    · have i1 : ((o : Int) == 0) = true := by simp; omega
      rw [decide_eq_true hq]
      clear hq
      go_enter Tryd.func19, Tryd.ntmps19
      go_wp2
      go_ret
      exact ⟨rfl, Below.refl _ _⟩
    · have i1 : ((o : Int) == 0) = false := beq_eq_false_iff_ne.2 (by omega)
      rw [decide_eq_false hq]
      clear hq
      go_enter Tryd.func19, Tryd.ntmps19
      go_wp2
      go_ret
      exact ⟨rfl, Below.refl _ _⟩
  | false =>
    rw [Bool.false_and]
    go_enter Tryd.func19, Tryd.ntmps19
    go_wp2
    go_ret
    exact ⟨rfl, Below.refl _ _⟩
/-- Where no bracket is open, all is joined. -/
theorem jn_all {V : List Sx} {W : List Sg2} (hV : V.length = bins W + 1) (hb : brk W = 0) : ∃ x, jn 1 V W = ([x], []) := by
  obtain ⟨a1, a2, a3, a4⟩ := jn_ok (k := 1) (by omega) W V hV
  have hW : (jn 1 V W).2 = [] := by
    cases hq : (jn 1 V W).2 with
    | nil => rfl
    | cons s r =>
      rw [hq] at a2 a4
      have : s.2 < 1 := a4
      have h3 : brk r + (if s.2 = 0 then 1 else 0) = brk W := a2
      rw [if_pos (by omega)] at h3
      omega
  rw [hW] at a1
  obtain ⟨x, hx⟩ : ∃ x, (jn 1 V W).1 = [x] := by
    match hq : (jn 1 V W).1, a1 with
    | [x], _ => exact ⟨x, rfl⟩
  exact ⟨x, by rw [← hx, ← hW]⟩
set_option maxRecDepth 100000 in
set_option maxHeartbeats 4000000 in
theorem end_any {w : World} {X : Nat} {V : List Sx} {W : List Sg2} {o : Nat} {b : Bool} {vv ww : Value} (h : Rdr w X ⟨V, W, o, b⟩ vv ww) (hV : V.length = bins W + 1) (hl : W.length ≤ 3001) {x : Sx} (hx : jn 1 V W = ([x], [])) :
    Calls Tryd.prog 20 #[.pointer (some ⟨X, 0, none⟩)] w fun e w' => e = .returned (exX x) ∧ Below X w w' := by
  have hJ := join_any h 1 (by omega) (by omega) hV hl
  rw [hx] at hJ
  simp only at hJ
  go_enter Tryd.func20, Tryd.ntmps20
  go_wp2_with (first
    | (go_at_call 39; refine hJ.mono ?_; rintro e w1 ⟨⟨u, rfl⟩, ⟨vv1, ww1, hr1, _⟩, b1⟩; obtain ⟨g, cap, rfl, q1, q2, q3, q4, c0, fz, _⟩ := own_last1 hr1.v; obtain ⟨z0, z1, z2, z3, g0, g1, g2, g3⟩ := id hr1.b; simp only [List.length_nil] at c0 z0))
  go_ret
  exact ⟨rfl, b1⟩
end Go.Proofs.YtiddccohldjjcaaDoor
