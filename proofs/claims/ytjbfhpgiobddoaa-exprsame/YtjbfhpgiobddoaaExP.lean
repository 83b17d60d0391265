/- What is asked of the program's calls; what awake then answers. -/
import Derived.Test.YtjbfhpgiobddoaaExB
import Derived.Test.YtjbfhpgiobddoaaExV
namespace Go.Proofs.Ytjbfhpgiobddoaa
open Go.RowKit Go.Lib
set_option linter.unusedSimpArgs false
set_option linter.unusedVariables false

abbrev pr2 (x : Int × Int) : Value := .tuple #[.int .i64 x.1, .int .i64 x.2]
/-- The value of any expression. -/
def evX (vs : List Vr) (d : Nat) (t : T d) : Int × Int := if fmC d t = true then evC vs d t else (0, 1)
/-- The program's Eval answers as the document says. -/
def EvalP : Prop := ∀ (d : Nat) (t : T d) (vs : List Vr) (vv : Value) (w : World), Cl d t → cnt d t ≤ 2000 → shrt 1000 d t = true → RdV w vv vs → vs.length ≤ 10000 →
  Calls Try.prog 15 #[exV d t, vv] w fun e w' => e = .returned (pr2 (evX vs d t)) ∧ Below w.heap.size w w'

/-- The program's Formed answers as the document says. -/
def FormedP : Prop := ∀ (d : Nat) (t : T d) (w : World), Cl d t → cnt d t ≤ 2000 → shrt 1000 d t = true → Calls Try.prog 14 #[exV d t] w fun r w' => r = .returned (.bool (fmC d t)) ∧ Below w.heap.size w w'

theorem rdV_nil (w : World) : RdV w (.slice none 0 0) [] := ⟨none, 0, rfl, by simp, by simp [maxLen], fun _ => rfl, fun x hx => by cases hx⟩
def two3 : T 2 := mkT 5 0 ⟨#[43]⟩ [mkT 1 2 ⟨#[]⟩ [], mkT 1 3 ⟨#[]⟩ []]
theorem two3_ev : evX [] 2 two3 = (5, 0) := by kernel_rfl
theorem two3_ex : exV 2 two3 = .iface 38 (.agg #[.string ⟨#[43]⟩, .iface 47 (.agg #[.int .i64 2]), .iface 47 (.agg #[.int .i64 3])]) := rfl
theorem two3_cl : Cl 2 two3 := .inr (.inr (.inr (.inl ⟨rfl, rfl, _, _, rfl, .inl ⟨rfl, rfl, rfl⟩, .inl ⟨rfl, rfl, rfl⟩⟩)))
theorem awakeX (G : EvalP) (w : World) : Calls Try.prog 6 #[] w fun e w' => e = .returned (.bool true) ∧ Below w.heap.size w w' := by
  have h := G 2 two3 [] (.slice none 0 0) w two3_cl (by decide) (by kernel_rfl) (rdV_nil w) (by simp)
  rw [two3_ev, two3_ex] at h
  unfold pr2 at h
  go_enter Try.func6, Try.ntmps6
  go_wp2_with (first
    | (go_at_call 15; refine h.mono ?_; rintro e w1 ⟨rfl, b1⟩))
  go_ret
  exact ⟨rfl, b1⟩

theorem bthen {a b c : World} (h : Below a.heap.size a b) (k : Below b.heap.size b c) : Below a.heap.size a c := h.trans (k.mono h.size)
theorem At4.on {w w' : World} {X : Nat} {a b c e : Value} (h : At4 w X a b c e) (hb : Below w.heap.size w w') : At4 w' X a b c e := h.keepB hb (World.block_lt_of_cell? w _ h.1)
/-- A small tree, cleaned. -/
theorem small_cln {d : Nat} {t : T d} (h : 0 ≤ sml d t 0 200) : cnt (d + 1) (cln d t) ≤ 1000 ∧ shrt 1000 (d + 1) (cln d t) = true := by
  obtain ⟨h1, h2⟩ := sml_ok d t 0 200 h
  have h3 := cnt_cln d t
  exact ⟨by omega, shrt_cln 1000 d t h2⟩
end Go.Proofs.Ytjbfhpgiobddoaa
