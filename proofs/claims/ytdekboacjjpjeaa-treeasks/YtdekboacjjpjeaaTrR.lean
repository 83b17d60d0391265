
/- Nodes in memory. -/
import Derived.Test.YtdekboacjjpjeaaTrM
import Derived.Test.YtdekboacjjpjeaaCdL
import Derived.Deep.RegionHeldLaw
import Derived.Deep.DeepCutAuto
namespace Go.Proofs.Ytdekboacjjpjeaa
open Go.RowKit Go.Lib
set_option linter.unusedSimpArgs false
set_option linter.unusedVariables false

/-- A node: name; parent, depth, behind; all, end, leaf. -/
abbrev Nd := ByteArray × (Int × Int × Int) × (Bool × Bool × Bool)
def ndV (n : Nd) : List Value := [.string n.1, .int .i64 n.2.1.1, .int .i64 n.2.1.2.1, .int .i64 n.2.1.2.2, .bool n.2.2.1, .bool n.2.2.2.1, .bool n.2.2.2.2]
def ndZ : Nd := (⟨#[]⟩, (0, 0, 0), (false, false, false))
def nAt (l : List Nd) (i : Nat) : Nd := l.getD i ndZ
def nP (l : List Nd) (i : Nat) : Int := (nAt l i).2.1.1
def nD (l : List Nd) (i : Nat) : Int := (nAt l i).2.1.2.1
def nB (l : List Nd) (i : Nat) : Int := (nAt l i).2.1.2.2
def nL (l : List Nd) (i : Nat) : Bool := (nAt l i).2.2.2.2
def rNd (ok : Nat → Prop) (w : World) (n : Nd) (cs : List Value) : Prop := cs = ndV n
theorem kp_nd : Kp rNd := fun _ _ _ _ _ _ h _ => h
abbrev RdNd (ok : Nat → Prop) (w : World) (l : List Nd) (v : Value) : Prop := RdK ok w 7 (rNd ok w) l v
theorem nAt_get {l : List Nd} {j : Nat} (hj : j < l.length) : nAt l j = l[j] := by unfold nAt; simp [hj]
/-- A node's cells. -/
theorem nd_at {ok : Nat → Prop} {w : World} {l : List Nd} {a : Option Addr} {n cap : Nat} (h : RdNd ok w l (.slice a n cap)) (j : Nat) (hj : j < l.length) : ∃ b off, a = some ⟨b, off, none⟩ ∧ b < w.heap.size ∧
    w.cell? ⟨b, off + j * 7, none⟩ = some (.string (nAt l j).1) ∧ w.cell? ⟨b, off + j * 7 + 1, none⟩ = some (.int .i64 (nP l j)) ∧ w.cell? ⟨b, off + j * 7 + 2, none⟩ = some (.int .i64 (nD l j)) ∧ w.cell? ⟨b, off + j * 7 + 3, none⟩ = some (.int .i64 (nB l j)) ∧
    w.cell? ⟨b, off + j * 7 + 4, none⟩ = some (.bool (nAt l j).2.2.1) ∧ w.cell? ⟨b, off + j * 7 + 5, none⟩ = some (.bool (nAt l j).2.2.2.1) ∧ w.cell? ⟨b, off + j * 7 + 6, none⟩ = some (.bool (nL l j)) := by
  obtain ⟨a1, cap1, he, h1, h2, h3⟩ := h
  simp only [Value.slice.injEq] at he
  obtain ⟨rfl, rfl, rfl⟩ := he
  obtain ⟨b, off, cs, ha, _, hb, hl, hr, hc⟩ := h3 j hj
  have hr : cs = ndV l[j] := hr
  subst hr
  rw [← nAt_get hj] at hc
  exact ⟨b, off, ha, hb, hc 0 _ rfl, hc 1 _ rfl, hc 2 _ rfl, hc 3 _ rfl, hc 4 _ rfl, hc 5 _ rfl, hc 6 _ rfl⟩
instance (D : Nat → Int) (n : Nat) : Decidable (nst D n) := by unfold nst; infer_instance
instance (n : Nat) (D P B : Nat → Int) (L : Nat → Bool) : Decidable (FmP n D P B L) := by unfold FmP; infer_instance
/-- Are nodes formed? -/
def fmB (l : List Nd) : Bool := decide (FmP l.length (nD l) (nP l) (nB l) (nL l))
def nsB (l : List Nd) : Bool := decide (nst (nD l) l.length)
/-- A node as it follows of how deep they lie. -/
def plN (l : List Nd) (i : Nat) : Nd := ((nAt l i).1, (ppar (nD l) (nD l i) i, nD l i, (pbeh (nD l) (nD l i) (l.length - (i + 1)) (i + 1) : Nat)), ((nAt l i).2.2.1, (nAt l i).2.2.2.1, decide (pbeh (nD l) (nD l i) (l.length - (i + 1)) (i + 1) = i + 1)))
theorem cell_drw {w : World} {p : Addr} {v : Value} (h : w.cell? p = some v) : w.drew.cell? p = some v := h
theorem Below.nxt {w wc w1 : World} (h : Below w.heap.size w wc) (b : Below wc.heap.size wc w1) : Below w.heap.size w w1 := h.trans (b.mono h.size)
theorem Below.nxtd {w wc w1 : World} (h : Below w.heap.size w wc) (b : Below wc.drew.heap.size wc.drew w1) : Below w.heap.size w w1 := (h.drew).trans (b.mono h.size)
theorem hidOf {p : Prop} (h : p) : Hid p := h
theorem RdK.on {α : Type} {ok : Nat → Prop} {w w' : World} {k : Nat} {R : (Nat → Prop) → World → α → List Value → Prop} {v : Value} {l : List α} (hR : Kp R) (h : RdK ok w k (R ok w) l v) (hb : Below w.heap.size w w') : RdK ok w' k (R ok w') l v :=
  h.stay hR (fun b hk hlt => ⟨hk, hb.block b hlt⟩)
end Go.Proofs.Ytdekboacjjpjeaa
