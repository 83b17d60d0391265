/- What is asked of the program's Name, Letter, Words and End; and what awake then answers. -/
import Derived.Test.YtlnldpkackmceaaRows
import Derived.Test.YtlnldpkackmceaaGlyB
namespace Go.Proofs.Ytlnldpkackmceaa
open Go.RowKit Go.Lib
set_option linter.unusedSimpArgs false
set_option linter.unusedVariables false

/-- The program's calls answer as the document's. -/
structure GC : Prop where
  name : ∀ (s : ByteArray) (w : World), s.size ≤ 140737488351232 → Calls Try.prog 9 #[.string s] w fun e w' => e = .returned (.bool (nameS (bl s))) ∧ Below w.heap.size w w'
  letter : ∀ (r : Int) (w : World), Calls Try.prog 15 #[.int .i32 r] w fun e w' => e = .returned (.bool (letter r)) ∧ Below w.heap.size w w'
  words : ∀ (s : ByteArray) (w : World), s.size ≤ 140737488351232 → Calls Try.prog 7 #[.string s] w fun e w' => ∃ u, e = .returned (.tuple #[u, .agg #[.int .i64 (wordsS (bl s)).2.1.1, .int .i64 (wordsS (bl s)).2.1.2], .int .i64 (wordsS (bl s)).2.2]) ∧ OwnW w' w.heap.size 30 u (wordsS (bl s)).1 ∧ Below w.heap.size w w'
  ends : ∀ (s : ByteArray) (w : World), s.size ≤ 140737488351232 → Calls Try.prog 8 #[.string s] w fun e w' => e = .returned (.agg #[.int .i64 (endR (runes (bl s)) 1 1).1, .int .i64 (endR (runes (bl s)) 1 1).2]) ∧ Below w.heap.size w w'

def known : List Wd := [(1, [(97, [97])], 1, 1), (3, [(60, [60]), (61, [61])], 1, 2), (2, [(49, [49])], 1, 4)]
theorem words_known : wordsS (bl ⟨#[97, 60, 61, 49, 35, 120]⟩) = (known, (0, 0), 0) := by kernel_rfl
theorem name_known : nameS (bl ⟨#[209, 143, 49]⟩) = true := by kernel_rfl
theorem own_form4 {w : World} {base e L : Nat} {v : Value} {l : List Wd} (h : OwnW w base e v l) (hL : l.length = L) (h0 : 0 < L) : ∃ g cap, v = .slice (some ⟨g, 0, none⟩) L cap := by
  subst hL
  rcases h.2 with ⟨_, hn⟩ | ⟨g, cap, _, rfl, _⟩
  · omega
  · exact ⟨g, cap, rfl⟩
theorem cellW {w : World} {base e g L cap : Nat} {l : List Wd} (h : OwnW w base e (.slice (some ⟨g, 0, none⟩) L cap) l) {j : Nat} {v : Value} (hj : (celsW l)[j]? = some v) : w.cell? ⟨g, j, none⟩ = some v := by
  have h1 := World.ownsRow.cells h (g := g) rfl j v hj
  have hp : (⟨g, 0, none⟩ : Addr).add j = ⟨g, j, none⟩ := by unfold Addr.add; split <;> simp_all
  rw [hp] at h1
  exact h1

set_option maxHeartbeats 1000000 in
theorem awake_any (G : GC) (w : World) : Calls Try.prog 6 #[] w fun e w' => e = .returned (.bool true) ∧ Below w.heap.size w w' := by
  have h1 := G.words ⟨#[97, 60, 61, 49, 35, 120]⟩ w (by decide)
  rw [words_known] at h1
  have h2 := fun w1 (b : Below w.heap.size w w1) => G.name ⟨#[209, 143, 49]⟩ w1 (by decide)
  rw [name_known] at h2
  go_enter Try.func6, Try.ntmps6
  go_wp2_with (first
    | (go_at_call 7; refine h1.mono ?_; rintro e w1 ⟨u1, rfl, o1, b1⟩; obtain ⟨g, cap, rfl⟩ := own_form4 o1 (L := 3) rfl (by omega); have c5 : w1.cell? ⟨g, 5, none⟩ = some (.string ⟨#[60, 61]⟩) := cellW o1 rfl; have hgl : g < w1.heap.size := World.block_lt_of_cell? w1 _ c5; have c5' := ((Below.refl w1.heap.size w1).alloc (Nat.le_refl _) (.cells #[.int .i64 0, .int .i64 0] 25)).cell (p := ⟨g, 5, none⟩) hgl; rw [c5] at c5'; have h2' := h2 _ (b1.alloc b1.size (.cells #[.int .i64 0, .int .i64 0] 25)); clear h1 h2 o1 c5)
    | (go_at_call 9; refine h2'.mono ?_; rintro e w2 ⟨rfl, b2⟩))
  go_ret
  exact ⟨rfl, (b1.alloc b1.size _).trans (b2.mono (by have := b1.size; simp; omega))⟩
end Go.Proofs.Ytlnldpkackmceaa
