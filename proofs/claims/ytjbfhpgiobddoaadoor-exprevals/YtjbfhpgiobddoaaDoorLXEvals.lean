/- The walk of ExprEvals, of what is asked of the program's Eval. -/
import Derived.Test.YtjbfhpgiobddoaaDoorExP
import Derived.Test.YtjbfhpgiobddoaaDoorExA
import Derived.Test.YtjbfhpgiobddoaaDoorExD
import Derived.Test.YtjbfhpgiobddoaaDoorExI
namespace Go.Proofs.YtjbfhpgiobddoaaDoor
open Go.RowKit Go.Lib
set_option linter.unusedSimpArgs false
set_option linter.unusedVariables false

set_option maxHeartbeats 2000000 in
theorem exprEvals_of (G : EvalP) {w : World} (hT : Tabs w) {d : Nat} {t : T d} {v vv : Value} {vs : List Vr} (h : RdT (fun _ => True) w d t v) (hv : RdV w vv vs) :
    Calls Tryd.prog 4 #[v, vv] w fun e w' => e = .returned (.bool true) ∧ Below w.heap.size w w' := by
  match d, t, h with
  | 0, t, _ => exact Empty.elim t
  | d + 1, t, h =>
  obtain ⟨k, n, s, ps, rfl⟩ := T.open t
  have h0 := h
  obtain ⟨sl, rfl, hp⟩ := rdT_mk.1 h
  clear hp h
  have hb0 := (Below.refl w.heap.size w).alloc (Nat.le_refl _) (.cells #[.int .i64 k, .int .i64 n, .string s, sl] 24)
  have hA := At4.new w (.int .i64 k) (.int .i64 n) (.string s) sl 24
  have h1 := awakeX G (w.alloc (.cells #[.int .i64 k, .int .i64 n, .string s, sl] 24))
  have h2 := fun w1 (b : Below w.heap.size w w1) => refSmallTop_any (RdT.below b (Nat.le_refl _) h0)
  have h3 := fun w1 (b : Below w.heap.size w w1) => few_any (hv.below b (Nat.le_refl _))
  have h4 := fun w1 => awakeX G w1
  by_cases hsm : 0 ≤ sml (d + 1) (mkT k n s ps) 0 200
  case neg =>
    simp only [decide_eq_false hsm] at h2
    clear h3 hsm
    go_enter Tryd.func4, Tryd.ntmps4
    go_wp2_with (first
      | (go_at_call 6; refine h1.mono ?_; rintro e w1 ⟨rfl, b1⟩; have bb1 := hb0.trans (b1.mono hb0.size); obtain ⟨y0, y1, y2, y3⟩ := hA.keepB b1 (by simp); have h2' := h2 w1 bb1; clear h1 h2)
      | (go_at_call 7; refine h2'.mono ?_; rintro e w2 ⟨rfl, b2⟩; have bb2 := bb1.trans (b2.mono bb1.size); have h4' := h4 w2; clear h2' h4 y0 y1 y2 y3)
      | (go_at_call 6; refine h4'.mono ?_; rintro e w3 ⟨rfl, b3⟩; have bb3 := bb2.trans (b3.mono bb2.size); clear h4'))
    go_ret
    exact ⟨rfl, bb3⟩
  simp only [decide_eq_true hsm] at h2
  cases hfw : fewS vs with
  | false =>
    simp only [hfw] at h3
    clear hsm
    go_enter Tryd.func4, Tryd.ntmps4
    go_wp2_with (first
      | (go_at_call 6; refine h1.mono ?_; rintro e w1 ⟨rfl, b1⟩; have bb1 := hb0.trans (b1.mono hb0.size); obtain ⟨y0, y1, y2, y3⟩ := hA.keepB b1 (by simp); have h2' := h2 w1 bb1; clear h1 h2)
      | (go_at_call 7; refine h2'.mono ?_; rintro e w2 ⟨rfl, b2⟩; have bb2 := bb1.trans (b2.mono bb1.size); have h3' := h3 w2 bb2; have h4' := h4 w2; clear h2' h3 h4 y0 y1 y2 y3)
      | (go_at_call 14; refine h3'.mono ?_; rintro e w' ⟨rfl, rfl⟩; clear h3')
      | (go_at_call 6; refine h4'.mono ?_; rintro e w3 ⟨rfl, b3⟩; have bb3 := bb2.trans (b3.mono bb2.size); clear h4'))
    go_ret
    exact ⟨rfl, bb3⟩
  | true =>
    simp only [hfw] at h3
    have hvl : vs.length ≤ 200 := by unfold fewS at hfw; simp only [Bool.and_eq_true, decide_eq_true_eq] at hfw; exact hfw.1
    obtain ⟨hc1, hc2⟩ := small_cln hsm
    have hcl := cl_cln (d + 1) (mkT k n s ps)
    have h5 := fun w1 (b : Below w.heap.size w w1) => theirs_any (d + 1) _ _ _ w1 (RdT.below b (Nat.le_refl _) h0)
    have h6 := fun w1 (b : Below w.heap.size w w1) => G (d + 2) (cln (d + 1) (mkT k n s ps)) vs vv w1 hcl (Nat.le_trans hc1 (by omega)) hc2 (hv.below b (Nat.le_refl _)) (by omega)
    have h7 := fun w1 (b : Below w.heap.size w w1) => clean_any (d + 1) _ _ _ w1 (RdT.below b (Nat.le_refl _) h0)
    have h8 := fun w1 (b : Below w.heap.size w w1) (lo : Nat) (u : Value) (hu : RdT (fun b => lo ≤ b) w1 (d + 2) (cln (d + 1) (mkT k n s ps)) u) => refEval_any (hT.below b (Nat.le_refl _)) hcl hu (hv.below b (Nat.le_refl _)) (by omega) hc1 hc2
    have hee : evX vs (d + 2) (cln (d + 1) (mkT k n s ps)) = evT vs (d + 2) (cln (d + 1) (mkT k n s ps)) := rfl
    rw [hee] at h6
    rw [exV_cln] at h6
    obtain ⟨ex, hex⟩ : ∃ ex, exV (d + 1) (mkT k n s ps) = ex := ⟨_, rfl⟩
    obtain ⟨⟨a, b⟩, hab⟩ : ∃ x, evT vs (d + 2) (cln (d + 1) (mkT k n s ps)) = x := ⟨_, rfl⟩
    simp only [hex] at h5 h6
    simp only [hab] at h6 h8
    obtain ⟨c, hcc⟩ : ∃ c, cln (d + 1) (mkT k n s ps) = c := ⟨_, rfl⟩
    simp only [hcc] at h7 h8
    clear hsm hfw hex hab hcc hcl hc1 hc2 hee h4 hT
    go_enter Tryd.func4, Tryd.ntmps4
    go_wp2_with (first
      | (go_at_call 6; refine h1.mono ?_; rintro e w1 ⟨rfl, b1⟩; have bb1 := hb0.trans (b1.mono hb0.size); have hA1 := hA.keepB b1 (by simp); obtain ⟨y0, y1, y2, y3⟩ := id hA1; have h2' := h2 w1 bb1; clear h1 h2)
      | (go_at_call 7; refine h2'.mono ?_; rintro e w2 ⟨rfl, b2⟩; have bb2 := bb1.trans (b2.mono bb1.size); have hA2 := hA1.keepB b2 (World.block_lt_of_cell? w1 _ y0); obtain ⟨z0, z1, z2, z3⟩ := id hA2; have h3' := h3 w2 bb2; have h5' := h5 w2 bb2; clear h2' h3 h5 y0 y1 y2 y3)
      | (go_at_call 14; refine h3'.mono ?_; rintro e w' ⟨rfl, rfl⟩; clear h3')
      | (go_at_call 8; refine h5'.mono ?_; rintro e w3 ⟨rfl, b3⟩; have bb3 := bb2.trans (b3.mono bb2.size); have hA3 := hA2.keepB b3 (World.block_lt_of_cell? w2 _ z0); have h6' := h6 w3 bb3; clear h5' h6)
      | (go_at_call 15; refine h6'.mono ?_; rintro e w4 ⟨rfl, b4⟩; have bb4 := bb3.trans (b4.mono bb3.size); obtain ⟨x0, x1, x2, x3⟩ := hA3.keepB b4 (World.block_lt_of_cell? w3 _ hA3.1); have h7' := h7 w4 bb4; clear h6' h7 z0 z1 z2 z3)
      | (go_at_call 11; refine h7'.mono ?_; rintro e w5 ⟨u, rfl, hu, b5⟩; have bb5 := bb4.trans (b5.mono bb4.size); have h8' := h8 w5 bb5 _ u hu; clear h7' h8 x0 x1 x2 x3)
      | (go_at_call 16; refine h8'.mono ?_; rintro e w6 ⟨rfl, b6⟩; have bb6 := bb5.trans (b6.mono bb5.size); clear h8'))
    go_ret
    exact ⟨ret_bool (by simp), bb6⟩
end Go.Proofs.YtjbfhpgiobddoaaDoor
