
/- What is asked of the program's Formed. -/
import Derived.Test.YtiddccohldjjcaaDoorExBv
import Derived.Test.YtiddccohldjjcaaDoorExS
namespace Go.Proofs.YtiddccohldjjcaaDoor
open Go.RowKit Go.Lib
set_option linter.unusedSimpArgs false
set_option linter.unusedVariables false

/-- The program's Formed answers as the document says. -/
def FormedP : Prop := ∀ (d : Nat) (t : T d) (w : World), Cl d t → cnt d t ≤ 100000 → shrt 1000 d t = true → Calls Tryd.prog 21 #[exV d t] w fun r w' => r = .returned (.bool (fmC d t)) ∧ Below w.heap.size w w'
theorem bthen {a b c : World} (h : Below a.heap.size a b) (k : Below b.heap.size b c) : Below a.heap.size a c := h.trans (k.mono h.size)
theorem At4.on {w w' : World} {X : Nat} {a b c e : Value} (h : At4 w X a b c e) (hb : Below w.heap.size w w') : At4 w' X a b c e := h.keepB hb (World.block_lt_of_cell? w _ h.1)
/-- A small tree, cleaned. -/
theorem small_cln {d : Nat} {t : T d} (h : 0 ≤ sml d t 0 200) : cnt (d + 1) (cln d t) ≤ 1000 ∧ shrt 1000 (d + 1) (cln d t) = true := by
  obtain ⟨h1, h2⟩ := sml_ok d t 0 200 h
  have h3 := cnt_cln d t
  exact ⟨by omega, shrt_cln 1000 d t h2⟩
end Go.Proofs.YtiddccohldjjcaaDoor
