/- The walk of GlyphNames, of what is asked of the program's calls. -/
import Derived.Test.YtlnldpkackmceaaDoorGlyC
import Derived.Test.YtlnldpkackmceaaDoorGlyX
namespace Go.Proofs.YtlnldpkackmceaaDoor
open Go.RowKit Go.Lib
set_option linter.unusedSimpArgs false
set_option linter.unusedVariables false

set_option maxHeartbeats 1000000 in
theorem glyphNames_of (G : GC) {w : World} (hT : Tabs w) (s : ByteArray) (hs : s.size ≤ 140737488351232) (r : Int) (hr : (Lit.int .i32 r).wf = true) :
    Calls Tryd.prog 3 #[.string s, .int .i32 r] w fun e w' => e = .returned (.bool true) ∧ Below w.heap.size w w' := by
  have h1 := awake_any G w
  have h2 := fun w1 (b : Below w.heap.size w w1) => G.name s w1 hs
  have h3 := fun w1 (b : Below w.heap.size w w1) => refName_any s w1 (hT.below b (Nat.le_refl _)) hs
  have h4 := fun w1 => G.letter r w1
  have h5 := fun w1 => refLetter_any r w1
  obtain ⟨x, hx⟩ : ∃ x, nameS (bl s) = x := ⟨_, rfl⟩
  obtain ⟨y, hy⟩ : ∃ y, letter r = y := ⟨_, rfl⟩
  simp only [hx] at h2 h3
  rw [hy] at h4 h5
  clear hx hy hT hr
  go_enter Tryd.func3, Tryd.ntmps3
  go_wp2_with (first
    | (go_at_call 5; refine h1.mono ?_; rintro e w1 ⟨rfl, b1⟩; have h2' := h2 w1 b1; clear h1 h2)
    | (go_at_call 6; refine h2'.mono ?_; rintro e w2 ⟨rfl, hb2⟩; have b2 := b1.trans (hb2.mono b1.size); have h3' := h3 w2 b2; clear h2' h3 b1 hb2)
    | (go_at_call 7; refine h3'.mono ?_; rintro e w3 ⟨rfl, hb3⟩; have b3 := b2.trans (hb3.mono b2.size); have h4' := h4 w3; clear h3' h4 b2 hb3)
    | (go_at_call 8; refine h4'.mono ?_; rintro e w4 ⟨rfl, hb4⟩; have b4 := b3.trans (hb4.mono b3.size); have h5' := h5 w4; clear h4' h5 b3 hb4)
    | (go_at_call 9; refine h5'.mono ?_; rintro e w5 ⟨rfl, rfl⟩; clear h5'))
  go_ret
  exact ⟨by simp, b4⟩
end Go.Proofs.YtlnldpkackmceaaDoor
