
/- Blocks of four cells; rows that stay. -/
import Derived.Test.YtdekboacjjpjeaaRows
import Derived.Test.YtdekboacjjpjeaaExR
import Derived.Deep.AppendLies
namespace Go.Proofs.Ytdekboacjjpjeaa
open Go.RowKit
set_option linter.unusedSimpArgs false
set_option linter.unusedVariables false

/-- A block of four cells that may be written. -/
structure B4 (w : World) (X : Nat) (a b c e : Value) : Prop where
  c0 : w.cell? ⟨X, 0, none⟩ = some a
  c1 : w.cell? ⟨X, 1, none⟩ = some b
  c2 : w.cell? ⟨X, 2, none⟩ = some c
  c3 : w.cell? ⟨X, 3, none⟩ = some e
  f0 : w.frozen? ⟨X, 0, none⟩ = false
  f1 : w.frozen? ⟨X, 1, none⟩ = false
  f2 : w.frozen? ⟨X, 2, none⟩ = false
  f3 : w.frozen? ⟨X, 3, none⟩ = false
theorem B4.new (w : World) (a b c e : Value) (t : TypeId) (n : Nat) (hn : n = w.heap.size) : B4 (w.alloc (.cells #[a, b, c, e] t)) n a b c e := by
  subst hn
  exact ⟨by simp, by simp, by simp, by simp, by simp, by simp, by simp, by simp⟩
theorem B4.keepB {w w' : World} {X B : Nat} {a b c e : Value} (h : B4 w X a b c e) (hb : Below B w w') (hX : X < B) : B4 w' X a b c e := by
  have hc : ∀ i, w'.cell? ⟨X, i, none⟩ = w.cell? ⟨X, i, none⟩ := fun i => hb.cell (p := ⟨X, i, none⟩) hX
  have hf : ∀ i, w'.frozen? ⟨X, i, none⟩ = w.frozen? ⟨X, i, none⟩ := fun i => hb.frozen (p := ⟨X, i, none⟩) hX
  exact ⟨by rw [hc]; exact h.c0, by rw [hc]; exact h.c1, by rw [hc]; exact h.c2, by rw [hc]; exact h.c3, by rw [hf]; exact h.f0, by rw [hf]; exact h.f1, by rw [hf]; exact h.f2, by rw [hf]; exact h.f3⟩
theorem B4.lt {w : World} {X : Nat} {a b c e : Value} (h : B4 w X a b c e) : X < w.heap.size := World.block_lt_of_cell? w _ h.c0
theorem B4.keep {w w' : World} {X : Nat} {a b c e : Value} (h : B4 w X a b c e) (hb : Below w.heap.size w w') : B4 w' X a b c e := h.keepB hb h.lt
theorem cell_same4 {w : World} {p : Addr} {u v : Value} (h : w.cell? p = some u) : (w.setCell p v).cell? p = some v := World.cell?_setCell_same' w _ v (by rw [h]; rfl)
theorem cell_far4 {w : World} {X i Y j : Nat} {u v : Value} (hne : ¬ (X = Y ∧ i = j)) (h : w.cell? ⟨Y, j, none⟩ = some u) : (w.setCell ⟨X, i, none⟩ v).cell? ⟨Y, j, none⟩ = some u :=
  (World.cell?_setCell_other w ⟨X, i, none⟩ ⟨Y, j, none⟩ v (by simp; intro h1 h2; exact hne ⟨h1, h2⟩)).trans h
theorem B4.far {w : World} {X Y i : Nat} {a b c e : Value} (h : B4 w Y a b c e) (hne : X ≠ Y) (v : Value) : B4 (w.setCell ⟨X, i, none⟩ v) Y a b c e :=
  ⟨cell_far4 (by omega) h.c0, cell_far4 (by omega) h.c1, cell_far4 (by omega) h.c2, cell_far4 (by omega) h.c3, (World.frozen?_setCell _ _ _ _).trans h.f0, (World.frozen?_setCell _ _ _ _).trans h.f1, (World.frozen?_setCell _ _ _ _).trans h.f2, (World.frozen?_setCell _ _ _ _).trans h.f3⟩
theorem B4.set0 {w : World} {X : Nat} {a b c e : Value} (h : B4 w X a b c e) (v : Value) : B4 (w.setCell ⟨X, 0, none⟩ v) X v b c e :=
  ⟨cell_same4 h.c0, cell_far4 (by omega) h.c1, cell_far4 (by omega) h.c2, cell_far4 (by omega) h.c3, (World.frozen?_setCell _ _ _ _).trans h.f0, (World.frozen?_setCell _ _ _ _).trans h.f1, (World.frozen?_setCell _ _ _ _).trans h.f2, (World.frozen?_setCell _ _ _ _).trans h.f3⟩
theorem B4.set1 {w : World} {X : Nat} {a b c e : Value} (h : B4 w X a b c e) (v : Value) : B4 (w.setCell ⟨X, 1, none⟩ v) X a v c e :=
  ⟨cell_far4 (by omega) h.c0, cell_same4 h.c1, cell_far4 (by omega) h.c2, cell_far4 (by omega) h.c3, (World.frozen?_setCell _ _ _ _).trans h.f0, (World.frozen?_setCell _ _ _ _).trans h.f1, (World.frozen?_setCell _ _ _ _).trans h.f2, (World.frozen?_setCell _ _ _ _).trans h.f3⟩
theorem B4.set2 {w : World} {X : Nat} {a b c e : Value} (h : B4 w X a b c e) (v : Value) : B4 (w.setCell ⟨X, 2, none⟩ v) X a b v e :=
  ⟨cell_far4 (by omega) h.c0, cell_far4 (by omega) h.c1, cell_same4 h.c2, cell_far4 (by omega) h.c3, (World.frozen?_setCell _ _ _ _).trans h.f0, (World.frozen?_setCell _ _ _ _).trans h.f1, (World.frozen?_setCell _ _ _ _).trans h.f2, (World.frozen?_setCell _ _ _ _).trans h.f3⟩
theorem B4.set3 {w : World} {X : Nat} {a b c e : Value} (h : B4 w X a b c e) (v : Value) : B4 (w.setCell ⟨X, 3, none⟩ v) X a b c v :=
  ⟨cell_far4 (by omega) h.c0, cell_far4 (by omega) h.c1, cell_far4 (by omega) h.c2, cell_same4 h.c3, (World.frozen?_setCell _ _ _ _).trans h.f0, (World.frozen?_setCell _ _ _ _).trans h.f1, (World.frozen?_setCell _ _ _ _).trans h.f2, (World.frozen?_setCell _ _ _ _).trans h.f3⟩
/-- All four cells written. -/
abbrev put4 (w : World) (X : Nat) (a b c e : Value) : World := (((w.setCell ⟨X, 0, none⟩ a).setCell ⟨X, 1, none⟩ b).setCell ⟨X, 2, none⟩ c).setCell ⟨X, 3, none⟩ e
theorem B4.put {w : World} {X : Nat} {a b c e : Value} (h : B4 w X a b c e) (a' b' c' e' : Value) : B4 (put4 w X a' b' c' e') X a' b' c' e' := (((h.set0 a').set1 b').set2 c').set3 e'
theorem B4.farPut {w : World} {X Y : Nat} {a b c e : Value} (h : B4 w Y a b c e) (hne : X ≠ Y) (a' b' c' e' : Value) : B4 (put4 w X a' b' c' e') Y a b c e := (((h.far hne a').far hne b').far hne c').far hne e'
theorem heap_put {w : World} {X k : Nat} (hne : X ≠ k) (a b c e : Value) : (put4 w X a b c e).heap[k]? = w.heap[k]? := by
  unfold put4
  rw [Below.heap_setCell _ _ _ _ (fun e => hne e.symm), Below.heap_setCell _ _ _ _ (fun e => hne e.symm), Below.heap_setCell _ _ _ _ (fun e => hne e.symm), Below.heap_setCell _ _ _ _ (fun e => hne e.symm)]
theorem below_put {B : Nat} {u w : World} (h : Below B u w) {X : Nat} (hX : B ≤ X) (a b c e : Value) : Below B u (put4 w X a b c e) := (((h.setCell hX _).setCell hX _).setCell hX _).setCell hX _
theorem size_put (w : World) (X : Nat) (a b c e : Value) : (put4 w X a b c e).heap.size = w.heap.size := by simp [put4]

theorem news4 (w : World) (a b c e : Value) (t : TypeId) : ∀ j u, [a, b, c, e][j]? = some u → (w.alloc (.cells #[a, b, c, e] t)).cell? ((⟨w.heap.size, 0, none⟩ : Addr).add j) = some u := by
  intro j u hj
  match j, hj with
  | 0, hj => simp at hj; subst hj; simp [Addr.add]
  | 1, hj => simp at hj; subst hj; simp [Addr.add]
  | 2, hj => simp at hj; subst hj; simp [Addr.add]
  | 3, hj => simp at hj; subst hj; simp [Addr.add]
  | j + 4, hj => simp at hj
abbrev Q4 := Value × Value × Value × Value
def celsQ (qs : List Q4) : List Value := qs.flatMap (fun q => [q.1, q.2.1, q.2.2.1, q.2.2.2])
theorem celsQ_snoc (qs : List Q4) (q : Q4) : celsQ (qs ++ [q]) = celsQ qs ++ [q.1, q.2.1, q.2.2.1, q.2.2.2] := by simp [celsQ]
theorem celsQ_at : ∀ (qs : List Q4) (i : Nat) (h : i < qs.length), (celsQ qs)[i * 4]? = some (qs[i]).1 ∧ (celsQ qs)[i * 4 + 1]? = some (qs[i]).2.1 ∧ (celsQ qs)[i * 4 + 2]? = some (qs[i]).2.2.1 ∧ (celsQ qs)[i * 4 + 3]? = some (qs[i]).2.2.2
  | [], i, h => by simp at h
  | x :: t, 0, h => ⟨rfl, rfl, rfl, rfl⟩
  | x :: t, k + 1, h => by
    have ih := celsQ_at t k (by simpa using h)
    have e : ∀ i, (celsQ (x :: t))[(k + 1) * 4 + i]? = (celsQ t)[k * 4 + i]? := fun i => by
      show ([x.1, x.2.1, x.2.2.1, x.2.2.2] ++ celsQ t)[(k + 1) * 4 + i]? = _
      rw [List.getElem?_append_right (by simp; omega)]
      congr 1
      simp; omega
    refine ⟨(e 0).trans ih.1, (e 1).trans ih.2.1, (e 2).trans ih.2.2.1, (e 3).trans ih.2.2.2⟩
theorem ownsRow_keep {w w' : World} {base e size : Nat} {v : Value} {n : Nat} {xs : List Value} (h : w.ownsRow base e size v n xs) (hk : ∀ g, v.ownBlock = some g → w'.heap[g]? = w.heap[g]?) : w'.ownsRow base e size v n xs := by
  refine ⟨h.1, ?_⟩
  rcases h.2 with hn | ⟨g, cap, cur, rfl, hbg, hg, rest⟩
  · exact .inl hn
  · exact .inr ⟨g, cap, cur, rfl, hbg, by rw [hk g rfl]; exact hg, rest⟩
theorem ownsRow_lt {w : World} {base e size : Nat} {v : Value} {n : Nat} {xs : List Value} (h : w.ownsRow base e size v n xs) : ∀ g, v.ownBlock = some g → base ≤ g ∧ g < w.heap.size := by
  intro g hg
  rcases h.2 with ⟨rfl, _⟩ | ⟨g', cap, cur, rfl, hbg, hgg, rest⟩
  · simp [Value.ownBlock] at hg
  · simp [Value.ownBlock] at hg
    subst hg
    exact ⟨hbg, (Array.getElem?_eq_some_iff.1 hgg).1⟩
end Go.Proofs.Ytdekboacjjpjeaa
