
/- The program's reader in memory: its operands, and the signs that wait; what is small. -/
import Derived.Test.YtiddccohldjjcaaDoorPgS
import Derived.Test.YtiddccohldjjcaaDoorPxK
import Derived.Test.YtiddccohldjjcaaDoorExC
import Derived.Test.YtiddccohldjjcaaDoorStpA
import Derived.WalkSmall
import Derived.BigQuiet
import Derived.Deep.QuietTactic
namespace Go.Proofs.YtiddccohldjjcaaDoor
open Go.RowKit Go.Lib
set_option linter.unusedSimpArgs false
set_option linter.unusedVariables false
attribute [local go_sem ↓] Go.wp_at_zero Go.wp_at_succ

def exX (x : Sx) : Value := exV x.1 x.2
theorem exX_form (x : Sx) : exX x = .nilIface ∨ ∃ u y, exX x = .iface u y := exV_form x.1 x.2
theorem exX_mk2 (s : ByteArray) (x y : Sx) : exX (mk2 s x y) = .iface 53 (.agg #[.string s, exX x, exX y]) := foldS_mk2 _ s x y
theorem exX_not (x : Sx) : exX (mk1 3 x) = .iface 59 (.agg #[exX x]) := rfl
theorem exX_neg (x : Sx) : exX (mk1 4 x) = .iface 60 (.agg #[exX x]) := rfl
theorem exX_lit (n : Int) : exX (mk0 1 n ⟨#[]⟩) = .iface 51 (.agg #[.int .i64 n]) := rfl
theorem exX_ref (s : ByteArray) : exX (mk0 2 0 s) = .iface 57 (.agg #[.string s]) := rfl
theorem exX_no : exX noX = .nilIface := rfl
/-- A sign's cells. -/
def cel2 (s : Sg2) : List Value := [.string ⟨s.1.toArray⟩, .int .i64 (s.2 : Int)]
def cels2 (l : List Sg2) : List Value := l.flatMap cel2
theorem cels2_app (a b : List Sg2) : cels2 (a ++ b) = cels2 a ++ cels2 b := by simp [cels2]
theorem cels2_len (l : List Sg2) : (cels2 l).length = l.length * 2 := by
  induction l with
  | nil => rfl
  | cons a r ih => simp [cels2, cel2] at ih ⊢; omega
/-- The reader in block X: its two rows lie behind it, apart. -/
structure Rdr (w : World) (X : Nat) (y : Yd) (vv ww : Value) : Prop where
  b : B4 w X vv ww (.int .i64 (y.o : Int)) (.bool y.b)
  v : w.ownsRow (X + 1) 24 1 vv y.V.length (y.V.reverse.map exX)
  w : w.ownsRow (X + 1) 108 2 ww y.W.length (cels2 y.W.reverse)
  a : ∀ g, vv.ownBlock = some g → ww.ownBlock ≠ some g
theorem own_keep {w w' : World} {base e size n : Nat} {v : Value} {xs : List Value} (h : w.ownsRow base e size v n xs) (hk : ∀ g, v.ownBlock = some g → w'.heap[g]? = w.heap[g]?) : w'.ownsRow base e size v n xs := ownsRow_keep h hk
theorem Rdr.on {w w' : World} {X : Nat} {y : Yd} {vv ww : Value} (h : Rdr w X y vv ww) (hb : Below w.heap.size w w') : Rdr w' X y vv ww :=
  ⟨h.b.keep hb, own_on h.v hb (Nat.le_refl _), own_on h.w hb (Nat.le_refl _), h.a⟩
theorem Rdr.drew {w : World} {X : Nat} {y : Yd} {vv ww : Value} (h : Rdr w X y vv ww) : Rdr w.drew X y vv ww := ⟨⟨h.b.c0, h.b.c1, h.b.c2, h.b.c3, h.b.f0, h.b.f1, h.b.f2, h.b.f3⟩, h.v, h.w, h.a⟩
theorem Rdr.drewN {w : World} {X : Nat} {y : Yd} {vv ww : Value} (h : Rdr w X y vv ww) (m : Nat) : Rdr (w.drewN m) X y vv ww := h.on ⟨rfl, rfl, rfl, Nat.le_refl _, fun _ _ => rfl⟩
theorem Rdr.lt {w : World} {X : Nat} {y : Yd} {vv ww : Value} (h : Rdr w X y vv ww) : X < w.heap.size := h.b.lt
/-- Nothing has turned but the reader, its two rows, and new blocks; the rows are where they were, or new. -/
structure Fr2 (X : Nat) (vv ww : Value) (w w' : World) (vv' ww' : Value) : Prop where
  size : w.heap.size ≤ w'.heap.size
  block : ∀ k, k < w.heap.size → k ≠ X → vv.ownBlock ≠ some k → ww.ownBlock ≠ some k → w'.heap[k]? = w.heap[k]?
  lv : ∀ g, vv'.ownBlock = some g → vv.ownBlock = some g ∨ w.heap.size ≤ g
  lw : ∀ g, ww'.ownBlock = some g → ww.ownBlock = some g ∨ w.heap.size ≤ g
theorem Fr2.refl (X : Nat) (vv ww : Value) (w : World) : Fr2 X vv ww w w vv ww := ⟨Nat.le_refl _, fun _ _ _ _ _ => rfl, fun _ h => .inl h, fun _ h => .inl h⟩
theorem Fr2.on {X : Nat} {vv ww vv' ww' : Value} {w w1 w2 : World} (h : Fr2 X vv ww w w1 vv' ww') (hb : Below w1.heap.size w1 w2) : Fr2 X vv ww w w2 vv' ww' :=
  ⟨Nat.le_trans h.size hb.size, fun k hk a b c => (hb.block k (Nat.lt_of_lt_of_le hk h.size)).trans (h.block k hk a b c), h.lv, h.lw⟩
theorem Fr2.setX {X : Nat} {vv ww vv' ww' : Value} {w w1 : World} (h : Fr2 X vv ww w w1 vv' ww') (i : Nat) (u : Value) : Fr2 X vv ww w (w1.setCell ⟨X, i, none⟩ u) vv' ww' :=
  ⟨by simpa using h.size, fun k hk a b c => (Below.heap_setCell _ _ _ _ (fun e => a e)).trans (h.block k hk a b c), h.lv, h.lw⟩
theorem Fr2.setV {X g : Nat} {vv ww vv' ww' : Value} {w w1 : World} (h : Fr2 X vv ww w w1 vv' ww') (hg : vv'.ownBlock = some g) (i : Nat) (u : Value) : Fr2 X vv ww w (w1.setCell ⟨g, i, none⟩ u) vv' ww' :=
  ⟨by simpa using h.size, fun k hk a b c => (Below.heap_setCell _ _ _ _ (fun e => by
    rcases h.lv g hg with q | q
    · exact b (by rw [q]; exact congrArg some e.symm)
    · have : k = g := e
      omega)).trans (h.block k hk a b c), h.lv, h.lw⟩
theorem Fr2.rows {X : Nat} {vv ww vv' ww' vv2 ww2 : Value} {w w1 : World} (h : Fr2 X vv ww w w1 vv' ww') (hv : vv2.ownBlock = vv'.ownBlock) (hw : ww2.ownBlock = ww'.ownBlock) : Fr2 X vv ww w w1 vv2 ww2 :=
  ⟨h.size, h.block, fun g hg => h.lv g (hv ▸ hg), fun g hg => h.lw g (hw ▸ hg)⟩
theorem Fr2.trans {X : Nat} {vv ww v1 u1 v2 u2 : Value} {w w1 w2 : World} (h : Fr2 X vv ww w w1 v1 u1) (k : Fr2 X v1 u1 w1 w2 v2 u2) : Fr2 X vv ww w w2 v2 u2 := by
  refine ⟨Nat.le_trans h.size k.size, fun j hj a b c => ?_, fun g hg => ?_, fun g hg => ?_⟩
  · rw [k.block j (Nat.lt_of_lt_of_le hj h.size) a (fun e => ?_) (fun e => ?_), h.block j hj a b c]
    · rcases h.lv j e with q | q
      · exact b q
      · omega
    · rcases h.lw j e with q | q
      · exact c q
      · omega
  · rcases k.lv g hg with q | q
    · exact h.lv g q
    · exact .inr (Nat.le_trans h.size q)
  · rcases k.lw g hg with q | q
    · exact h.lw g q
    · exact .inr (Nat.le_trans h.size q)
theorem own_form {w : World} {base e size n : Nat} {v : Value} {xs : List Value} (h : w.ownsRow base e size v n xs) : ∃ a cap, v = .slice a n cap ∧ n ≤ cap := by
  rcases h.2 with ⟨h1, h2⟩ | ⟨g, cap, cur, h1, _, _, h3, _⟩
  · exact ⟨none, 0, by rw [h1, h2], by omega⟩
  · exact ⟨_, _, h1, h3⟩
/-- The last sign that waits, in memory. -/
theorem own_last2 {w : World} {base e : Nat} {v : Value} {s : Sg2} {W : List Sg2} (h : w.ownsRow base e 2 v (s :: W).length (cels2 (s :: W).reverse)) : ∃ g cap, v = .slice (some ⟨g, 0, none⟩) (W.length + 1) cap ∧ W.length + 1 ≤ cap ∧ cap ≤ maxLen ∧ base ≤ g ∧ g < w.heap.size ∧
    w.cell? ⟨g, W.length * 2, none⟩ = some (.string ⟨s.1.toArray⟩) ∧ w.cell? ⟨g, W.length * 2 + 1, none⟩ = some (.int .i64 (s.2 : Int)) ∧ w.ownsRow base e 2 (.slice (some ⟨g, 0, none⟩) W.length cap) W.length (cels2 W.reverse) := by
  rw [List.length_cons, List.reverse_cons, cels2_app] at h
  have hl : (cels2 W.reverse).length = W.length * 2 := by rw [cels2_len, List.length_reverse]
  have hc := fun g => World.ownsRow.cells h (g := g)
  have h' := h
  rcases h.2 with ⟨_, h2⟩ | ⟨g, cap, cur, rfl, hb, hg, hnc, hcm, hcs, htake⟩
  · omega
  · have c0 := hc g rfl (W.length * 2) (.string ⟨s.1.toArray⟩) (by rw [List.getElem?_append_right (by omega), hl, Nat.sub_self]; rfl)
    have c1 := hc g rfl (W.length * 2 + 1) (.int .i64 (s.2 : Int)) (by rw [List.getElem?_append_right (by omega), hl, Nat.add_sub_cancel_left]; rfl)
    have hp : ∀ i, (⟨g, 0, none⟩ : Addr).add i = ⟨g, i, none⟩ := fun i => by unfold Addr.add; split <;> simp_all
    rw [hp] at c0 c1
    exact ⟨g, cap, rfl, hnc, hcm, hb, (Array.getElem?_eq_some_iff.1 hg).1, c0, c1, ownsRow_pop hl h'⟩
theorem own_nil {w : World} {base e size : Nat} {v : Value} {xs : List Value} (h : w.ownsRow base e size v 0 xs) : ∃ a cap, v = .slice a 0 cap := by
  obtain ⟨a, cap, rfl, _⟩ := own_form h
  exact ⟨a, cap, rfl⟩

set_option maxHeartbeats 1000000 in
theorem last_any {w : World} {X : Nat} {y : Yd} {vv ww : Value} (h : Rdr w X y vv ww) (hl : y.W.length ≤ 4000) : Calls Tryd.prog 59 #[.pointer (some ⟨X, 0, none⟩)] w fun e w' => e = .returned (.int .i64 (topL y.W : Int)) ∧ ∃ m, w' = w.drewN m := by
  have hc := h.b.c1
  have hw := h.w
  clear h
  obtain ⟨V, W, o, b⟩ := y
  simp only at hc hw hl ⊢
  cases W with
  | nil =>
    obtain ⟨a, cap, rfl⟩ := own_nil hw
    clear hw
    go_enter Tryd.func59, Tryd.ntmps59
    go_wp2
    go_ret
    exact ⟨rfl, 0, rfl⟩
  | cons s W =>
    obtain ⟨g, cap, rfl, h1, h2, h3, h4, c0, c1, _⟩ := own_last2 hw
    rw [List.length_cons] at hl
    have i1 : ((W.length : Int) + 1 == 0) = false := beq_eq_false_iff_ne.2 (by omega)
    have i2 : IntKind.i64.wrap ((W.length : Int) + 1 - 1) = (W.length : Int) := by rw [IntKind.wrap_i64]; omega
    have i3 : (W.length : Int) < (W.length : Int) + 1 := by omega
    have i4 : (0 : Int) ≤ (W.length : Int) := by omega
    clear hw
    go_enter Tryd.func59, Tryd.ntmps59
    go_wp2
    go_quiet (fail)
    go_wp2
    go_ret
    exact ⟨rfl, _, rfl⟩
end Go.Proofs.YtiddccohldjjcaaDoor
