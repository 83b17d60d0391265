
/- What the program's Same does. -/
import Derived.Test.YtiddccohldjjcaaDoorPxSa
import Derived.Test.YtiddccohldjjcaaDoorPxSb
import Derived.Test.YtiddccohldjjcaaDoorPxSc
import Derived.Test.YtiddccohldjjcaaDoorPxSd
import Derived.Test.YtiddccohldjjcaaDoorSmP
namespace Go.Proofs.YtiddccohldjjcaaDoor
open Go.RowKit Go.Lib
set_option linter.unusedSimpArgs false
set_option linter.unusedVariables false

theorem start_any {d e : Nat} {t : T d} {u : T e} (w : World) (hc : Cl d t) (hc' : Cl e u) (hn : cnt d t ≤ 2000) (hn' : cnt e u ≤ 2000) : Start w (exV d t) (exV e u) (samC d e t u) := by
  refine ⟨[⟨d, t⟩], [⟨e, u⟩], ?_, ?_, rfl, ?_, ?_, ?_, ?_, ?_⟩
  · have := World.ownsRow_lit (e := 24) (base := w.heap.size) (size := 1) w #[exV d t] 1 (Nat.le_refl _) (by simp [maxLen]) (by simp)
    have h2 := World.ownsRow.alloc this (.cells #[exV e u] 24)
    unfold Stk
    simpa [exS] using h2
  · have := World.ownsRow_lit (e := 24) (base := w.heap.size) (size := 1) (w.alloc (.cells #[exV d t] 24)) #[exV e u] 1 (by simp) (by simp [maxLen]) (by simp)
    unfold Stk
    simpa [exS] using this
  · intro z hz; simp at hz; subst hz; exact hc
  · intro z hz; simp at hz; subst hz; exact hc'
  · show (samC d e t u && true) = samC d e t u; simp
  · show cnt d t + 0 ≤ 2000; omega
  · show cnt e u + 0 ≤ 2000; omega
theorem sameP : SameP := by
  intro d e t u w hc hc' hn hn'
  have hs : Hid (Start w (exV d t) (exV e u) (samC d e t u)) := start_any w hc hc' hn hn'
  rcases exV_form d t with h | ⟨u1, y1, h⟩ <;> rcases exV_form e u with h' | ⟨u2, y2, h'⟩ <;> rw [h, h'] at hs ⊢
  · exact same_a hs
  · exact same_b hs
  · exact same_c hs
  · exact same_d hs
end Go.Proofs.YtiddccohldjjcaaDoor
