/- The walk of GlyphWords, of what is asked of the program's calls. -/
import Derived.Test.YtlnldpkackmceaaDoorGlyZ
import Derived.Test.YtlnldpkackmceaaDoorGlyQ
namespace Go.Proofs.YtlnldpkackmceaaDoor
open Go.RowKit Go.Lib
set_option linter.unusedSimpArgs false
set_option linter.unusedVariables false

set_option maxRecDepth 100000 in
set_option maxHeartbeats 2000000 in
theorem glyphWords_of (G : GC) {w : World} (hT : Tabs w) (s : ByteArray) (hs : s.size ≤ 140737488351232) :
    Calls Tryd.prog 4 #[.string s] w fun e w' => e = .returned (.bool true) ∧ Below w.heap.size w w' := by
  have h1 := awake_any G w
  have h2 := fun w1 (b : Below w.heap.size w w1) => G.words s w1 hs
  have h3 := fun w1 (b : Below w.heap.size w w1) => refWords_any s w1 (hT.below b (Nat.le_refl _)) hs
  have h4 := fun w1 (b : Below w.heap.size w w1) => G.ends s w1 hs
  have h5 := fun w1 (b : Below w.heap.size w w1) => refEnd_any s w1 (hT.below b (Nat.le_refl _)) hs
  have hfew := words_few (bl s)
  obtain ⟨⟨X, ⟨pL, pC⟩, er⟩, hx⟩ : ∃ x, wordsS (bl s) = x := ⟨_, rfl⟩
  obtain ⟨⟨eL, eC⟩, hy⟩ : ∃ y, endR (runes (bl s)) 1 1 = y := ⟨_, rfl⟩
  simp only [hx] at h2 h3 hfew
  simp only [hy] at h4 h5
  clear hx hy hT
  go_enter Tryd.func4, Tryd.ntmps4
  go_wp2_with (first
    | (go_at_call 5; refine h1.mono ?_; rintro e w1 ⟨rfl, b1⟩; have h2' := h2 w1 b1; clear h1 h2)
    | (go_at_call 10; refine h2'.mono ?_; rintro e w2 ⟨u2, rfl, o2, hb2⟩; have b2 := b1.trans (hb2.mono b1.size); have hA2 := At.new w2 (.int .i64 pL) (.int .i64 pC) 28 _ rfl; have o2' := o2.below ((Below.refl _ _).alloc (Nat.le_refl _) (.cells #[.int .i64 pL, .int .i64 pC] 28)) (Nat.le_refl _); have b2' := b2.alloc b2.size (.cells #[.int .i64 pL, .int .i64 pC] 28); have h3' := h3 _ b2'; clear h2' h3 b1 hb2 o2)
    | (go_at_call 11; refine h3'.mono ?_; rintro e w3 ⟨u3, rfl, o3, hb3⟩; have b3 := b2'.trans (hb3.mono b2'.size); have bz := (Below.refl w3.heap.size w3).alloc (Nat.le_refl _) (.cells #[.int .i64 pL, .int .i64 pC] 28); have hA3 := (hA2.keep hb3).keep bz; have hB3 := At.new w3 (.int .i64 pL) (.int .i64 pC) 28 _ rfl; have o2x := (o2'.below hb3 (Nat.le_refl _)).below bz (Nat.le_refl _); have o3x := o3.below bz (Nat.le_refl _); have b4 := b3.alloc b3.size (.cells #[.int .i64 pL, .int .i64 pC] 28); have h15 := sameW_any u2 u3 X _ o2x o3x hfew; clear h3' b2 b2' hb3 hA2 o2' o3 bz o2x o3x b3)
    | (go_at_call 12; refine h15.mono ?_; rintro e w5 ⟨rfl, hb5⟩; obtain ⟨y0, y1, y2, y3⟩ := hA3.keep hb5; obtain ⟨z0, z1, z2, z3⟩ := hB3.keep hb5; have b5 := b4.trans (hb5.mono b4.size); have h4' := h4 w5 b5; clear h15 h4 hA3 hB3 hb5 b4)
    | (go_at_call 13; refine h4'.mono ?_; rintro e w6 ⟨rfl, hb6⟩; have b6 := b5.trans (hb6.mono b5.size); have h5' := h5 w6 b6; clear h4' h5 b5 hb6 y0 y1 y2 y3 z0 z1 z2 z3)
    | (go_at_call 14; refine h5'.mono ?_; rintro e w7 ⟨rfl, hb7⟩; have b7 := b6.trans (hb7.mono b6.size); clear h5' b6 hb7))
  go_ret
  exact ⟨by simp, b7⟩
end Go.Proofs.YtlnldpkackmceaaDoor
