
/- What awake answers; what parsing tells of its expression. -/
import Derived.Test.YtiddccohldjjcaaDoorPgL
import Derived.Test.YtiddccohldjjcaaDoorPxSm
namespace Go.Proofs.YtiddccohldjjcaaDoor
open Go.RowKit Go.Lib
set_option linter.unusedSimpArgs false
set_option linter.unusedVariables false
attribute [local go_sem ↓] Go.wp_at_zero Go.wp_at_succ
def oneX : Sx := mk2 ⟨#[43]⟩ (mk0 1 1 ⟨#[]⟩) (mk0 1 2 ⟨#[]⟩)
set_option maxRecDepth 100000 in
theorem parse_one : parseC [49, 32, 43, 32, 50] = (oneX, 0) := by kernel_rfl
theorem cl_no : ClX noX := cl_none (d := 0)
theorem cl_one : ClX oneX := cl_mk2 (show Cl 1 (mkT 1 1 ⟨#[]⟩ []) from .inl ⟨rfl, rfl, rfl⟩) (show Cl 1 (mkT 1 2 ⟨#[]⟩ []) from .inl ⟨rfl, rfl, rfl⟩)
theorem take_cl {ws : List Wd} (h : ∀ x ∈ ws, OneW x.1 x.2.1) : ClX (takeC (ws.map tkW)).1 ∧ cntX (takeC (ws.map tkW)).1 ≤ 2000 := by
  have hb : BadOr _ 0 (rdC (ws.map tkW)) := fine_read h _ 1 0 (by omega) (by omega)
  unfold takeC
  rcases hb with ⟨e1, e2⟩ | e1
  · rw [if_neg (by omega)]
    by_cases hq : fmX (rdC (ws.map tkW)).1 = true
    · rw [if_pos hq]
      have := (fm_parts hq).1
      exact ⟨e2.1.cl, by show cnt _ _ ≤ 2000; simp only; omega⟩
    · rw [if_neg hq]; exact ⟨cl_no, (show cntX noX ≤ 2000 by decide)⟩
  · rw [if_pos e1]; exact ⟨cl_no, (show cntX noX ≤ 2000 by decide)⟩
theorem parse_no {s : List UInt8} (h : (parseC s).2 ≠ 0) : (parseC s).1 = noX := by
  unfold parseC at h ⊢
  split
  · rfl
  · split
    · rfl
    · split
      · rfl
      · rename_i h1 h2 h3
        rw [if_neg h1, if_neg h2, if_neg h3] at h
        exact absurd rfl h
theorem parse_cl (s : List UInt8) : ClX (parseC s).1 ∧ cntX (parseC s).1 ≤ 2000 := by
  by_cases h : (parseC s).2 = 0
  · obtain ⟨h1, h2⟩ := parse_fine h
    exact ⟨h1.cl, by have := (fm_parts h2).1; show cnt _ _ ≤ 2000; omega⟩
  · rw [parse_no h]; exact ⟨cl_no, (show cntX noX ≤ 2000 by decide)⟩
set_option maxRecDepth 100000 in
set_option maxHeartbeats 4000000 in
theorem awakeG (w : World) : Calls Tryd.prog 5 #[] w fun e w' => e = .returned (.bool true) ∧ Below w.heap.size w w' := by
  have h1 := pParse_any ⟨#[49, 32, 43, 32, 50]⟩ w (by decide)
  rw [show parseC (bl ⟨#[49, 32, 43, 32, 50]⟩) = (oneX, 0) from parse_one] at h1
  have h2 := fun w1 => sameP oneX.1 oneX.1 oneX.2 oneX.2 w1 cl_one cl_one (by decide) (by decide)
  simp only [samC_refl] at h2
  have e1 : exV oneX.1 oneX.2 = .iface 53 (.agg #[.string ⟨#[43]⟩, .iface 51 (.agg #[.int .i64 1]), .iface 51 (.agg #[.int .i64 2])]) := rfl
  have e2 : exX oneX = .iface 53 (.agg #[.string ⟨#[43]⟩, .iface 51 (.agg #[.int .i64 1]), .iface 51 (.agg #[.int .i64 2])]) := rfl
  simp only [e1] at h2
  simp only [e2] at h1
  clear e1 e2
  go_enter Tryd.func5, Tryd.ntmps5
  go_wp2_with (first
    | (go_at_call 6; refine h1.mono ?_; rintro e w1 ⟨rfl, b1⟩)
    | (go_at_call 14; refine (h2 _).mono ?_; rintro e w2 ⟨rfl, b2⟩))
  go_ret
  exact ⟨rfl, b1.trans (b2.mono b1.size)⟩
end Go.Proofs.YtiddccohldjjcaaDoor
