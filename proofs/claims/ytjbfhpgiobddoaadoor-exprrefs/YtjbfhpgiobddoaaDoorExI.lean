/- What the document's Eval does; and few. -/
import Derived.Test.YtjbfhpgiobddoaaDoorExH
import Derived.Test.YtjbfhpgiobddoaaDoorFew
namespace Go.Proofs.YtjbfhpgiobddoaaDoor
open Go.RowKit Go.Lib
set_option linter.unusedSimpArgs false
set_option linter.unusedVariables false

/-- The value of any expression. -/
def evT (vs : List Vr) (d : Nat) (t : T d) : Int × Int := if fmC d t = true then evC vs d t else (0, 1)
theorem fm_sound {d : Nat} {t : T d} (h : fmC d t = true) : sdC d t = true := by
  unfold fmC at h
  simp only [Bool.and_eq_true] at h
  exact h.2

set_option maxHeartbeats 1000000 in
theorem refEval_any {vs : List Vr} {ok : Nat → Prop} {d : Nat} {t : T d} {v vv : Value} {w : World} (hT : Tabs w) (hcl : Cl d t) (h : RdT ok w d t v) (hv : RdV w vv vs) (hl : vs.length ≤ 1000) (hc : cnt d t ≤ 1000) (hsh : shrt 1000 d t = true) :
    Calls Tryd.prog 16 #[v, vv] w fun e w' => e = .returned (pr (evT vs d t)) ∧ Below w.heap.size w w' := by
  match d, t, hcl, h, hc, hsh with
  | 0, t, _, _, _, _ => exact Empty.elim t
  | d + 1, t, hcl, h, hc, hsh =>
    obtain ⟨k, n, s, ps, rfl⟩ := T.open t
    have h0 := h
    obtain ⟨sl, rfl, hp⟩ := rdT_mk.1 h
    have hb0 := (Below.refl w.heap.size w).alloc (Nat.le_refl _) (.cells #[.int .i64 k, .int .i64 n, .string s, sl] 24)
    have hA := At4.new w (.int .i64 k) (.int .i64 n) (.string s) sl 24
    have h1 := formed_any (hT.below hb0 (Nat.le_refl _)) (RdT.below hb0 (Nat.le_refl _) h0) hc hsh
    unfold evT
    cases hf : fmC (d + 1) (mkT k n s ps) with
    | false =>
      rw [hf] at h1
      rw [if_neg (by decide)]
      clear hT h0 hp hf hA
      go_enter Tryd.func16, Tryd.ntmps16
      go_wp2_with (first
        | (go_at_call 10; refine h1.mono ?_; rintro e w1 ⟨rfl, b1⟩; have bb1 := hb0.trans (b1.mono hb0.size); clear h1))
      go_ret2
      exact ⟨rfl, bb1⟩
    | true =>
      rw [hf] at h1
      rw [if_pos rfl]
      have h2 := fun w1 (b1 : Below w.heap.size w w1) => eval_any (d + 1) vs ok (mkT k n s ps) _ vv w1 hcl (fm_sound hf) (RdT.below b1 (Nat.le_refl _) h0) (hv.below b1 (Nat.le_refl _)) hl
      obtain ⟨⟨x, xe⟩, hx⟩ : ∃ x, evC vs (d + 1) (mkT k n s ps) = x := ⟨_, rfl⟩
      simp only [hx] at h2 ⊢
      clear hT h0 hp hf hx hcl hc hsh
      go_enter Tryd.func16, Tryd.ntmps16
      go_wp2_with (first
        | (go_at_call 10; refine h1.mono ?_; rintro e w1 ⟨rfl, b1⟩; have bb1 := hb0.trans (b1.mono hb0.size); obtain ⟨y0, y1, y2, y3⟩ := hA.keepB b1 (by simp); have h2' := h2 w1 bb1; clear h1 h2)
        | (go_at_call 26; refine h2'.mono ?_; rintro e w2 ⟨rfl, b2⟩; have bb2 := bb1.trans (b2.mono bb1.size); clear h2' y0 y1 y2 y3))
      go_ret2
      exact ⟨rfl, bb2⟩

end Go.Proofs.YtjbfhpgiobddoaaDoor
