import Derived.Test.YtiddccohldjjcaaGreatDoorRows
import Derived.Test.YtiddccohldjjcaaGreatDoorWh05
import Derived.Deep.AppendLies
import Derived.Test.YtiddccohldjjcaaGreatDoorWh02
import Derived.WalkSmall
import Derived.BigQuiet
import Derived.Deep.QuietTactic
import Derived.BigRegion

/- What Clean makes of a tree: memory. -/
namespace Go.Proofs.YtiddccohldjjcaaGreatDoor
open Go.RowKit
set_option linter.unusedSimpArgs false
set_option linter.unusedVariables false

/-- A block of four cells that may be written. -/
structure B4 (w : World) (X : Nat) (a b c e : Value) : Prop where
  c0 : w.cell? ⟨X, 0, none⟩ = some a
  c1 : w.cell? ⟨X, 1, none⟩ = some b
  c2 : w.cell? ⟨X, 2, none⟩ = some c
  c3 : w.cell? ⟨X, 3, none⟩ = some e
  f0 : w.frozen? ⟨X, 0, none⟩ = false
  f1 : w.frozen? ⟨X, 1, none⟩ = false
  f2 : w.frozen? ⟨X, 2, none⟩ = false
  f3 : w.frozen? ⟨X, 3, none⟩ = false
theorem B4.new (w : World) (a b c e : Value) (t : TypeId) (n : Nat) (hn : n = w.heap.size) : B4 (w.alloc (.cells #[a, b, c, e] t)) n a b c e := by
  subst hn
  exact ⟨by simp, by simp, by simp, by simp, by simp, by simp, by simp, by simp⟩
theorem B4.keepB {w w' : World} {X B : Nat} {a b c e : Value} (h : B4 w X a b c e) (hb : Below B w w') (hX : X < B) : B4 w' X a b c e := by
  have hc : ∀ i, w'.cell? ⟨X, i, none⟩ = w.cell? ⟨X, i, none⟩ := fun i => hb.cell (p := ⟨X, i, none⟩) hX
  have hf : ∀ i, w'.frozen? ⟨X, i, none⟩ = w.frozen? ⟨X, i, none⟩ := fun i => hb.frozen (p := ⟨X, i, none⟩) hX
  exact ⟨by rw [hc]; exact h.c0, by rw [hc]; exact h.c1, by rw [hc]; exact h.c2, by rw [hc]; exact h.c3, by rw [hf]; exact h.f0, by rw [hf]; exact h.f1, by rw [hf]; exact h.f2, by rw [hf]; exact h.f3⟩
theorem B4.lt {w : World} {X : Nat} {a b c e : Value} (h : B4 w X a b c e) : X < w.heap.size := World.block_lt_of_cell? w _ h.c0
theorem B4.keep {w w' : World} {X : Nat} {a b c e : Value} (h : B4 w X a b c e) (hb : Below w.heap.size w w') : B4 w' X a b c e := h.keepB hb h.lt
theorem cell_same4 {w : World} {p : Addr} {u v : Value} (h : w.cell? p = some u) : (w.setCell p v).cell? p = some v := World.cell?_setCell_same' w _ v (by rw [h]; rfl)
theorem cell_far4 {w : World} {X i Y j : Nat} {u v : Value} (hne : ¬ (X = Y ∧ i = j)) (h : w.cell? ⟨Y, j, none⟩ = some u) : (w.setCell ⟨X, i, none⟩ v).cell? ⟨Y, j, none⟩ = some u :=
  (World.cell?_setCell_other w ⟨X, i, none⟩ ⟨Y, j, none⟩ v (by simp; intro h1 h2; exact hne ⟨h1, h2⟩)).trans h
theorem B4.far {w : World} {X Y i : Nat} {a b c e : Value} (h : B4 w Y a b c e) (hne : X ≠ Y) (v : Value) : B4 (w.setCell ⟨X, i, none⟩ v) Y a b c e :=
  ⟨cell_far4 (by omega) h.c0, cell_far4 (by omega) h.c1, cell_far4 (by omega) h.c2, cell_far4 (by omega) h.c3, (World.frozen?_setCell _ _ _ _).trans h.f0, (World.frozen?_setCell _ _ _ _).trans h.f1, (World.frozen?_setCell _ _ _ _).trans h.f2, (World.frozen?_setCell _ _ _ _).trans h.f3⟩
theorem B4.set0 {w : World} {X : Nat} {a b c e : Value} (h : B4 w X a b c e) (v : Value) : B4 (w.setCell ⟨X, 0, none⟩ v) X v b c e :=
  ⟨cell_same4 h.c0, cell_far4 (by omega) h.c1, cell_far4 (by omega) h.c2, cell_far4 (by omega) h.c3, (World.frozen?_setCell _ _ _ _).trans h.f0, (World.frozen?_setCell _ _ _ _).trans h.f1, (World.frozen?_setCell _ _ _ _).trans h.f2, (World.frozen?_setCell _ _ _ _).trans h.f3⟩
theorem B4.set1 {w : World} {X : Nat} {a b c e : Value} (h : B4 w X a b c e) (v : Value) : B4 (w.setCell ⟨X, 1, none⟩ v) X a v c e :=
  ⟨cell_far4 (by omega) h.c0, cell_same4 h.c1, cell_far4 (by omega) h.c2, cell_far4 (by omega) h.c3, (World.frozen?_setCell _ _ _ _).trans h.f0, (World.frozen?_setCell _ _ _ _).trans h.f1, (World.frozen?_setCell _ _ _ _).trans h.f2, (World.frozen?_setCell _ _ _ _).trans h.f3⟩
theorem B4.set2 {w : World} {X : Nat} {a b c e : Value} (h : B4 w X a b c e) (v : Value) : B4 (w.setCell ⟨X, 2, none⟩ v) X a b v e :=
  ⟨cell_far4 (by omega) h.c0, cell_far4 (by omega) h.c1, cell_same4 h.c2, cell_far4 (by omega) h.c3, (World.frozen?_setCell _ _ _ _).trans h.f0, (World.frozen?_setCell _ _ _ _).trans h.f1, (World.frozen?_setCell _ _ _ _).trans h.f2, (World.frozen?_setCell _ _ _ _).trans h.f3⟩
theorem B4.set3 {w : World} {X : Nat} {a b c e : Value} (h : B4 w X a b c e) (v : Value) : B4 (w.setCell ⟨X, 3, none⟩ v) X a b c v :=
  ⟨cell_far4 (by omega) h.c0, cell_far4 (by omega) h.c1, cell_far4 (by omega) h.c2, cell_same4 h.c3, (World.frozen?_setCell _ _ _ _).trans h.f0, (World.frozen?_setCell _ _ _ _).trans h.f1, (World.frozen?_setCell _ _ _ _).trans h.f2, (World.frozen?_setCell _ _ _ _).trans h.f3⟩
/-- All four cells written. -/
abbrev put4 (w : World) (X : Nat) (a b c e : Value) : World := (((w.setCell ⟨X, 0, none⟩ a).setCell ⟨X, 1, none⟩ b).setCell ⟨X, 2, none⟩ c).setCell ⟨X, 3, none⟩ e
theorem B4.put {w : World} {X : Nat} {a b c e : Value} (h : B4 w X a b c e) (a' b' c' e' : Value) : B4 (put4 w X a' b' c' e') X a' b' c' e' := (((h.set0 a').set1 b').set2 c').set3 e'
theorem B4.farPut {w : World} {X Y : Nat} {a b c e : Value} (h : B4 w Y a b c e) (hne : X ≠ Y) (a' b' c' e' : Value) : B4 (put4 w X a' b' c' e') Y a b c e := (((h.far hne a').far hne b').far hne c').far hne e'
theorem heap_put {w : World} {X k : Nat} (hne : X ≠ k) (a b c e : Value) : (put4 w X a b c e).heap[k]? = w.heap[k]? := by
  unfold put4
  rw [Below.heap_setCell _ _ _ _ (fun e => hne e.symm), Below.heap_setCell _ _ _ _ (fun e => hne e.symm), Below.heap_setCell _ _ _ _ (fun e => hne e.symm), Below.heap_setCell _ _ _ _ (fun e => hne e.symm)]
theorem below_put {B : Nat} {u w : World} (h : Below B u w) {X : Nat} (hX : B ≤ X) (a b c e : Value) : Below B u (put4 w X a b c e) := (((h.setCell hX _).setCell hX _).setCell hX _).setCell hX _
theorem size_put (w : World) (X : Nat) (a b c e : Value) : (put4 w X a b c e).heap.size = w.heap.size := by simp [put4]

theorem news4 (w : World) (a b c e : Value) (t : TypeId) : ∀ j u, [a, b, c, e][j]? = some u → (w.alloc (.cells #[a, b, c, e] t)).cell? ((⟨w.heap.size, 0, none⟩ : Addr).add j) = some u := by
  intro j u hj
  match j, hj with
  | 0, hj => simp at hj; subst hj; simp [Addr.add]
  | 1, hj => simp at hj; subst hj; simp [Addr.add]
  | 2, hj => simp at hj; subst hj; simp [Addr.add]
  | 3, hj => simp at hj; subst hj; simp [Addr.add]
  | j + 4, hj => simp at hj
abbrev Q4 := Value × Value × Value × Value
def celsQ (qs : List Q4) : List Value := qs.flatMap (fun q => [q.1, q.2.1, q.2.2.1, q.2.2.2])
theorem celsQ_snoc (qs : List Q4) (q : Q4) : celsQ (qs ++ [q]) = celsQ qs ++ [q.1, q.2.1, q.2.2.1, q.2.2.2] := by simp [celsQ]
theorem celsQ_at : ∀ (qs : List Q4) (i : Nat) (h : i < qs.length), (celsQ qs)[i * 4]? = some (qs[i]).1 ∧ (celsQ qs)[i * 4 + 1]? = some (qs[i]).2.1 ∧ (celsQ qs)[i * 4 + 2]? = some (qs[i]).2.2.1 ∧ (celsQ qs)[i * 4 + 3]? = some (qs[i]).2.2.2
  | [], i, h => by simp at h
  | x :: t, 0, h => ⟨rfl, rfl, rfl, rfl⟩
  | x :: t, k + 1, h => by
    have ih := celsQ_at t k (by simpa using h)
    have e : ∀ i, (celsQ (x :: t))[(k + 1) * 4 + i]? = (celsQ t)[k * 4 + i]? := fun i => by
      show ([x.1, x.2.1, x.2.2.1, x.2.2.2] ++ celsQ t)[(k + 1) * 4 + i]? = _
      rw [List.getElem?_append_right (by simp; omega)]
      congr 1
      simp; omega
    refine ⟨(e 0).trans ih.1, (e 1).trans ih.2.1, (e 2).trans ih.2.2.1, (e 3).trans ih.2.2.2⟩
/-- The slice v is the call's own, from block base on, and holds the trees l; their own memory lies apart. -/
def OwnN (w : World) (base : Nat) (v : Value) {d : Nat} (l : List (T d)) : Prop :=
  ∃ qs : List Q4, w.ownsRow base 24 4 v l.length (celsQ qs) ∧ qs.length = l.length ∧ ∀ (i : Nat) (h : i < l.length) (h' : i < qs.length), RdT (fun b => base ≤ b ∧ v.ownBlock ≠ some b) w d l[i] (.agg #[(qs[i]).1, (qs[i]).2.1, (qs[i]).2.2.1, (qs[i]).2.2.2])
theorem ownN_nil (w : World) (base : Nat) {d : Nat} : OwnN w base (.slice none 0 0) ([] : List (T d)) := ⟨[], World.ownsRow_nil w base 24 4, rfl, fun i h => absurd h (by simp)⟩
theorem ownsRow_keep {w w' : World} {base e size : Nat} {v : Value} {n : Nat} {xs : List Value} (h : w.ownsRow base e size v n xs) (hk : ∀ g, v.ownBlock = some g → w'.heap[g]? = w.heap[g]?) : w'.ownsRow base e size v n xs := by
  refine ⟨h.1, ?_⟩
  rcases h.2 with hn | ⟨g, cap, cur, rfl, hbg, hg, rest⟩
  · exact .inl hn
  · exact .inr ⟨g, cap, cur, rfl, hbg, by rw [hk g rfl]; exact hg, rest⟩
theorem ownsRow_lt {w : World} {base e size : Nat} {v : Value} {n : Nat} {xs : List Value} (h : w.ownsRow base e size v n xs) : ∀ g, v.ownBlock = some g → base ≤ g ∧ g < w.heap.size := by
  intro g hg
  rcases h.2 with ⟨rfl, _⟩ | ⟨g', cap, cur, rfl, hbg, hgg, rest⟩
  · simp [Value.ownBlock] at hg
  · simp [Value.ownBlock] at hg
    subst hg
    exact ⟨hbg, (Array.getElem?_eq_some_iff.1 hgg).1⟩
/-- It stays where the blocks from base on that there are stay. -/
theorem OwnN.keep {w w' : World} {base : Nat} {v : Value} {d : Nat} {l : List (T d)} (h : OwnN w base v l) (hk : ∀ b, base ≤ b → b < w.heap.size → w'.heap[b]? = w.heap[b]?) : OwnN w' base v l := by
  obtain ⟨qs, ho, hl, hr⟩ := h
  refine ⟨qs, ownsRow_keep ho (fun g hg => ?_), hl, fun i h h' => RdT.keep (fun b hb hlt => ⟨hb, hk b hb.1 hlt⟩) (hr i h h')⟩
  obtain ⟨a, b⟩ := ownsRow_lt ho g hg
  exact hk g a b
theorem OwnN.below {w w' : World} {base : Nat} {v : Value} {d : Nat} {l : List (T d)} (h : OwnN w base v l) (hb : Below w.heap.size w w') : OwnN w' base v l := h.keep (fun b _ hlt => hb.block b hlt)
theorem OwnN.set {w : World} {base : Nat} {v : Value} {d : Nat} {l : List (T d)} (h : OwnN w base v l) {X i : Nat} (hX : X < base) (u : Value) : OwnN (w.setCell ⟨X, i, none⟩ u) base v l :=
  h.keep (fun b hb _ => Below.heap_setCell _ _ _ _ (fun e => by have : b = X := e; omega))
theorem OwnN.snoc {w w' : World} {base g cap lo n : Nat} {v : Value} {d : Nat} {l : List (T d)} {p : T d} {c0 c1 c2 c3 : Value} {qs : List Q4}
    (hn : l.length = n) (ho : w.ownsRow base 24 4 v n (celsQ qs)) (hl : qs.length = l.length) (hr : ∀ (i : Nat) (h : i < l.length) (h' : i < qs.length), RdT (fun b => base ≤ b ∧ v.ownBlock ≠ some b) w d l[i] (.agg #[(qs[i]).1, (qs[i]).2.1, (qs[i]).2.2.1, (qs[i]).2.2.2]))
    (ho' : w'.ownsRow base 24 4 (.slice (some ⟨g, 0, none⟩) (n + 1) cap) (n + 1) (celsQ qs ++ [c0, c1, c2, c3])) (hg : w.grownBy w' v.ownBlock) (hat : v.ownBlock = some g ∨ g = w.heap.size)
    (hp : RdT (fun b => lo ≤ b) w d p (.agg #[c0, c1, c2, c3])) (hlo : base ≤ lo) (hv : ∀ x, v.ownBlock = some x → x < lo) : OwnN w' base (.slice (some ⟨g, 0, none⟩) (n + 1) cap) (l ++ [p]) := by
  subst hn
  have key : ∀ b, base ≤ b ∧ v.ownBlock ≠ some b → b < w.heap.size → (base ≤ b ∧ (Value.slice (some ⟨g, 0, none⟩) (l.length + 1) cap).ownBlock ≠ some b) ∧ w'.heap[b]? = w.heap[b]? := fun b hb hlt => by
    refine ⟨⟨hb.1, ?_⟩, hg.block b hlt (fun e => hb.2 e.symm)⟩
    simp only [Value.ownBlock, ne_eq, Option.some.injEq]
    rintro rfl
    rcases hat with h | h
    · exact hb.2 h
    · omega
  refine ⟨qs ++ [(c0, c1, c2, c3)], ?_, by simp [hl], fun i h h' => ?_⟩
  · rw [celsQ_snoc, List.length_append]
    exact ho'
  · rcases Nat.lt_or_ge i l.length with hi | hi
    · rw [List.getElem_append_left hi, List.getElem_append_left (by omega)]
      exact RdT.keep key (hr i hi (by omega))
    · have : i = l.length := by simp at h; omega
      subst this
      have e1 : (l ++ [p])[l.length] = p := by simp
      have e2 : (qs ++ [(c0, c1, c2, c3)])[l.length]'h' = (c0, c1, c2, c3) := by simp [← hl]
      rw [e1, e2]
      exact RdT.keep (fun b hb hlt => key b ⟨by omega, fun e => by have := hv b e; omega⟩ hlt) hp
theorem OwnN.form {w : World} {base : Nat} {v : Value} {d : Nat} {l : List (T d)} (h : OwnN w base v l) : ∃ a cap, v = .slice a l.length cap := by
  obtain ⟨qs, ho, _⟩ := h
  rcases ho.2 with ⟨h1, h2⟩ | ⟨g, cap, cur, h1, _⟩
  · exact ⟨none, 0, by rw [h1, h2]⟩
  · exact ⟨_, _, h1⟩
/-- It reads as the trees. -/
theorem OwnN.rd {w : World} {base : Nat} {v : Value} {d : Nat} {l : List (T d)} (h : OwnN w base v l) : RdP (fun b => base ≤ b) w (RdT (fun b => base ≤ b) w d) l v := by
  obtain ⟨qs, ho, hl, hr⟩ := h
  have hc := fun g => World.ownsRow.cells ho (g := g)
  rcases ho.2 with ⟨rfl, hn⟩ | ⟨g, cap, cur, rfl, hb, hg, hnc, hcm, hcs, htake⟩
  · have hx : l = [] := List.eq_nil_of_length_eq_zero hn
    subst hx
    exact ⟨none, 0, rfl, by simp, by simp [maxLen], by simp, fun x hx => by cases hx⟩
  · refine ⟨some ⟨g, 0, none⟩, cap, rfl, hnc, hcm, by simp, ?_⟩
    intro x hx i hi
    obtain rfl := Option.some.inj hx
    obtain ⟨h0, h1, h2, h3⟩ := celsQ_at qs i (by omega)
    exact ⟨hb, _, _, _, _, RdT.keep (fun b hb _ => ⟨hb.1, rfl⟩) (hr i hi (by omega)), hc g rfl _ _ h0, hc g rfl _ _ h1, hc g rfl _ _ h2, hc g rfl _ _ h3⟩
theorem OwnN.base {w : World} {base lo : Nat} {d : Nat} {l : List (T d)} {v : Value} (h : RdP (fun b => base ≤ b) w (RdT (fun b => base ≤ b) w d) l v) (hlo : lo ≤ base) : RdP (fun b => lo ≤ b) w (RdT (fun b => lo ≤ b) w d) l v :=
  h.keep (fun x _ u hu => RdT.keep (fun b hb _ => ⟨by omega, rfl⟩) hu) (fun b hb _ => ⟨by omega, rfl⟩)
theorem rdP_none (ok : Nat → Prop) (w : World) {d : Nat} : RdP ok w (RdT ok w d) [] (.slice none 0 0) := ⟨none, 0, rfl, by simp, by simp [maxLen], fun _ => rfl, fun x hx => by cases hx⟩
theorem rdT_none (ok : Nat → Prop) (w : World) {d : Nat} : RdT ok w (d + 1) none0 (.agg #[.int .i64 0, .int .i64 0, .string ⟨#[]⟩, .slice none 0 0]) := ⟨_, rfl, rdP_none ok w⟩
end Go.Proofs.YtiddccohldjjcaaGreatDoor

/- An append as a step of a region that draws its order, and where the new row lies. -/
namespace Go.Proofs.YtiddccohldjjcaaGreatDoor
open Go.RowKit
set_option linter.unusedSimpArgs false
set_option linter.unusedVariables false
section
variable {P : Program} (w : World)
/-- An append to a slice of the call's own: it has room, or what comes of it is small enough to grow. -/
theorem run_append_at (base : Nat) (t tx ty e : TypeId) (i : TypeInfo) (z : Value) (size bytes : Nat) (ht : P.underlying t = some (.slice e)) (hi : P.info? e = some i) (hz : i.zero = some z)
    (hsize : i.size = size) (hby : i.bytes = bytes) (hzs : z.cells.size = size)
    (v : Value) (n : Nat) (xs : List Value) (hown : w.ownsRow base e size v n xs)
    (x : Value) (m : Nat) (news : List Value) (hs : Src P size tx x m news w) (r : Nat) (hroom : Room bytes v n r) (hm : m ≤ r)
    (h63 : n + r ≤ maxLen) (hbase : base ≤ w.heap.size) :
    ∃ v' w', (Builtin.append_ #[t, tx] ty #[v, x]).run P w = .ok v' w' ∧ w'.ownsRow base e size v' (n + m) (xs ++ news) ∧ w.grownBy w' v.ownBlock ∧ Room bytes v' (n + m) (r - m) ∧ (v'.ownBlock = v.ownBlock ∨ v'.ownBlock = some w.heap.size) := by
  subst hsize
  subst hby
  have hl := hs.newsLen
  have h63' : n + m ≤ 9223372036854775807 := by simp only [maxLen] at h63; omega
  have h63m : n + m ≤ maxLen := by simp only [maxLen] at h63 ⊢; omega
  have hlen : (xs ++ news).length = (n + m) * i.size := by rw [List.length_append, hown.1, hl, Nat.add_mul]
  have grown : ∀ (old : Nat), old < n + m → ∀ (row : Option Nat),
      (w.drew.alloc (.cells ((xs ++ news).toArray ++ Builtin.zeroCells z.cells (grownCap w (n + m) old e - (n + m))) e)).ownsRow base e i.size
        (.slice (some ⟨w.heap.size, 0, none⟩) (n + m) (grownCap w (n + m) old e)) (n + m) (xs ++ news) ∧
      w.grownBy (w.drew.alloc (.cells ((xs ++ news).toArray ++ Builtin.zeroCells z.cells (grownCap w (n + m) old e - (n + m))) e)) row := by
    intro old ho row
    have hge := grownCap_ge w (n + m) old e
    have hcm : grownCap w (n + m) old e ≤ maxLen := grownCap_le_maxLen w (n + m) old e h63m
    refine ⟨⟨hlen, .inr ⟨w.heap.size, _, _, rfl, hbase, heap_alloc_new w.drew _, hge, hcm, ?_, ?_⟩⟩, ⟨rfl, rfl, rfl, by simp, fun k hk _ => Below.heap_alloc w.drew _ k hk⟩⟩
    · simp only [Array.size_append, List.size_toArray, size_zeroCells, hzs, hlen, ← Nat.add_mul]
      congr 1
      omega
    · simp only [Array.toList_append]
      rw [← hlen]
      exact List.take_left
  have bound : ∀ {a cap}, v = .slice a n cap → cap < n + m → (n + r + (n + r) / 4 + 192) * i.bytes ≤ 281474976710656 := by
    intro a cap hv hc
    rcases hroom with ⟨a', cap', hv', hc'⟩ | h
    · rw [hv] at hv'
      simp only [Value.slice.injEq] at hv'
      omega
    · exact h
  rcases hown.2 with ⟨rfl, rfl⟩ | ⟨g, cap, cur, rfl, hbg, hg, hnc, hcm, hcs, htake⟩
  · have hx : xs = [] := List.eq_nil_of_length_eq_zero (by simpa using hown.1)
    subst hx
    by_cases hm0 : m = 0
    · subst hm0
      have hn : news = [] := List.eq_nil_of_length_eq_zero (by simpa using hl)
      subst hn
      exact ⟨.slice none 0 0, w, run_append_nothing w t tx ty e i ht hi x hs, World.ownsRow_nil w base e i.size, World.grownBy.refl w _, by simpa using hroom, .inl rfl⟩
    · have hb := bound rfl (by omega)
      have hr := run_append_grow_src (P := P) w t tx ty e i z ht hi hz none 0 0 [] (by simp [Builtin.firstCells]) x m news hs (by omega) (by omega) (growslice_fits_wide (by omega) (Nat.le_trans (Nat.mul_le_mul_right _ (by omega)) hb))
      have hgr := grown 0 (by omega) (Value.ownBlock (.slice none 0 0))
      simp only [Nat.zero_add, List.nil_append] at hgr hr ⊢
      exact ⟨_, _, hr, hgr.1, hgr.2, .inr (Nat.le_trans (Nat.mul_le_mul_right _ (by omega)) hb), .inr rfl⟩
  · by_cases hrm : n + m ≤ cap
    · have hfit : n * i.size + news.length ≤ cur.size := by rw [hl, hcs, ← Nat.add_mul]; exact Nat.mul_le_mul_right _ hrm
      have hr := run_append_room_src_own (P := P) w t tx ty e i ht hi g n cap cur hg x m news hs hrm hfit
      refine ⟨_, _, hr, ⟨hlen, .inr ⟨g, cap, _, rfl, hbg, setRow_heap w g cur _ e _ hg, hrm, hcm, ?_, ?_⟩⟩, ⟨rfl, rfl, rfl, by simp, fun k _ hk => setRow_other w g k _ (fun e => hk (by simp [Value.ownBlock, e]))⟩, ?_, .inl rfl⟩
      · simp only [List.size_toArray, List.length_append, List.length_take, List.length_drop, Array.length_toList]
        omega
      · rw [htake, ← hlen]
        exact List.take_left
      · rcases hroom with ⟨a, c, hv, hc⟩ | h
        · simp only [Value.slice.injEq] at hv
          exact .inl ⟨_, _, rfl, by omega⟩
        · exact .inr (Nat.le_trans (Nat.mul_le_mul_right _ (by omega)) h)
    · have hb := bound rfl (by omega)
      have holds : ∀ j u, xs[j]? = some u → w.cell? ((⟨g, 0, none⟩ : Addr).add j) = some u := hown.cells (g := g) rfl
      have hr := run_append_grow_src (P := P) w t tx ty e i z ht hi hz (some ⟨g, 0, none⟩) n cap xs (run_firstCells_some w.drew i.size n ⟨g, 0, none⟩ n cap xs hown.1 (by simpa using holds)) x m news hs (by omega) (by omega)
        (growslice_fits_wide (by omega) (Nat.le_trans (Nat.mul_le_mul_right _ (by omega)) hb))
      have hgr := grown cap (by omega) (Value.ownBlock (.slice (some ⟨g, 0, none⟩) n cap))
      exact ⟨_, _, hr, hgr.1, hgr.2, .inr (Nat.le_trans (Nat.mul_le_mul_right _ (by omega)) hb), .inr rfl⟩

theorem wpList_append_at {ops : Array Oper} {rest : List Oper} {o : Oper} {a : Act} {Q : Exit → Act → World → Prop} (hgd : o.guard = none) (s x : Operand) (t tx : TypeId)
    (ho : o.op = .call { callee := .builtin .append, args := #[s, x], argTypes := #[t, tx] })
    (base : Nat) (e : TypeId) (i : TypeInfo) (z : Value) (size bytes : Nat) (ht : P.underlying t = some (.slice e)) (hi : P.info? e = some i) (hz : i.zero = some z)
    (hsize : i.size = size) (hby : i.bytes = bytes) (hzs : z.cells.size = size)
    (v : Value) (n : Nat) (xs : List Value) (hs : a.eval s = v) (hown : w.ownsRow base e size v n xs)
    (xv : Value) (m : Nat) (news : List Value) (hx : a.eval x = xv) (hsrc : Src P size tx xv m news w) (r : Nat) (hroom : Room bytes v n r) (hm : m ≤ r)
    (h63 : n + r ≤ maxLen) (hbase : base ≤ w.heap.size)
    (h : ∀ v' w', w'.ownsRow base e size v' (n + m) (xs ++ news) → w.grownBy w' v.ownBlock → (v'.ownBlock = v.ownBlock ∨ v'.ownBlock = some w.heap.size) → wpList P ops Q rest (a.put o.dst v') w') : wpList P ops Q (o :: rest) a w := by
  refine wpList_plain hgd fun K hK => ?_
  obtain ⟨v', w', hr, h2, h3, _, h4⟩ := run_append_at (P := P) w base t tx o.type e i z size bytes ht hi hz hsize hby hzs v n xs hown xv m news hsrc r hroom hm h63 hbase
  unfold Oper.wp execOp
  simp only [ho, resolve, invoke, builtin, Sem.run_bind, Sem.run_pure, Result.andThen_ok, List.map_toArray, List.map_cons, List.map_nil, hs, hx, hr]
  exact hK _ _ (h v' w' h2 h3 h4)
end
theorem step_append_at {P : Program} (w : World) {ops : Array Oper} {o : Oper} {a : Act} {K : Act → World → Prop} {Q : Exit → Act → World → Prop} {E : Prop} (hgd : o.guard = none) (s x : Operand) (t tx : TypeId)
    (ho : o.op = .call { callee := .builtin .append, args := #[s, x], argTypes := #[t, tx] })
    (base : Nat) (e : TypeId) (i : TypeInfo) (z : Value) (size bytes : Nat) (ht : P.underlying t = some (.slice e)) (hi : P.info? e = some i) (hz : i.zero = some z)
    (hsize : i.size = size) (hby : i.bytes = bytes) (hzs : z.cells.size = size)
    (v : Value) (n : Nat) (xs : List Value) (hs : a.eval s = v) (hown : w.ownsRow base e size v n xs)
    (xv : Value) (m : Nat) (news : List Value) (hx : a.eval x = xv) (hsrc : Src P size tx xv m news w) (r : Nat) (hroom : Room bytes v n r) (hm : m ≤ r)
    (h63 : n + r ≤ maxLen) (hbase : base ≤ w.heap.size)
    (h : ∀ v' w', w'.ownsRow base e size v' (n + m) (xs ++ news) → w.grownBy w' v.ownBlock → (v'.ownBlock = v.ownBlock ∨ v'.ownBlock = some w.heap.size) → K (a.put o.dst v') w') :
    if Region.wanted o (yielded ops a.tmps) = true then Oper.wp P o a w K Q else E := by
  have hw : Region.wanted o (yielded ops a.tmps) = true := by simp [Region.wanted, hgd]
  rw [if_pos hw]
  obtain ⟨v', w', hr, h2, h3, _, h4⟩ := run_append_at (P := P) w base t tx o.type e i z size bytes ht hi hz hsize hby hzs v n xs hown xv m news hsrc r hroom hm h63 hbase
  unfold Oper.wp execOp
  simp only [ho, resolve, invoke, builtin, Sem.run_bind, Sem.run_pure, Result.andThen_ok, List.map_toArray, List.map_cons, List.map_nil, hs, hx, hr]
  exact h v' w' h2 h3 h4

end Go.Proofs.YtiddccohldjjcaaGreatDoor

/- The program's reader in memory: its operands, and the signs that wait; what is small. -/
namespace Go.Proofs.YtiddccohldjjcaaGreatDoor
open Go.RowKit Go.Lib
set_option linter.unusedSimpArgs false
set_option linter.unusedVariables false
attribute [local go_sem ↓] Go.wp_at_zero Go.wp_at_succ

def exX (x : Sx) : Value := exV x.1 x.2
theorem exX_form (x : Sx) : exX x = .nilIface ∨ ∃ u y, exX x = .iface u y := exV_form x.1 x.2
theorem exX_mk2 (s : ByteArray) (x y : Sx) : exX (mk2 s x y) = .iface 43 (.agg #[.string s, exX x, exX y]) := foldS_mk2 _ s x y
theorem exX_not (x : Sx) : exX (mk1 3 x) = .iface 54 (.agg #[exX x]) := rfl
theorem exX_neg (x : Sx) : exX (mk1 4 x) = .iface 55 (.agg #[exX x]) := rfl
theorem exX_lit (n : Int) : exX (mk0 1 n ⟨#[]⟩) = .iface 41 (.agg #[.int .i64 n]) := rfl
theorem exX_ref (s : ByteArray) : exX (mk0 2 0 s) = .iface 52 (.agg #[.string s]) := rfl
theorem exX_no : exX noX = .nilIface := rfl
/-- A sign's cells. -/
def cel2 (s : Sg2) : List Value := [.string ⟨s.1.toArray⟩, .int .i64 (s.2 : Int)]
def cels2 (l : List Sg2) : List Value := l.flatMap cel2
theorem cels2_app (a b : List Sg2) : cels2 (a ++ b) = cels2 a ++ cels2 b := by simp [cels2]
theorem cels2_len (l : List Sg2) : (cels2 l).length = l.length * 2 := by
  induction l with
  | nil => rfl
  | cons a r ih => simp [cels2, cel2] at ih ⊢; omega
/-- The reader in block X: its two rows lie behind it, apart. -/
structure Rdr (w : World) (X : Nat) (y : Yd) (vv ww : Value) : Prop where
  b : B4 w X vv ww (.int .i64 (y.o : Int)) (.bool y.b)
  v : w.ownsRow (X + 1) 31 1 vv y.V.length (y.V.reverse.map exX)
  w : w.ownsRow (X + 1) 131 2 ww y.W.length (cels2 y.W.reverse)
  a : ∀ g, vv.ownBlock = some g → ww.ownBlock ≠ some g
theorem own_keep {w w' : World} {base e size n : Nat} {v : Value} {xs : List Value} (h : w.ownsRow base e size v n xs) (hk : ∀ g, v.ownBlock = some g → w'.heap[g]? = w.heap[g]?) : w'.ownsRow base e size v n xs := ownsRow_keep h hk
theorem Rdr.on {w w' : World} {X : Nat} {y : Yd} {vv ww : Value} (h : Rdr w X y vv ww) (hb : Below w.heap.size w w') : Rdr w' X y vv ww :=
  ⟨h.b.keep hb, own_on h.v hb (Nat.le_refl _), own_on h.w hb (Nat.le_refl _), h.a⟩
theorem Rdr.drew {w : World} {X : Nat} {y : Yd} {vv ww : Value} (h : Rdr w X y vv ww) : Rdr w.drew X y vv ww := ⟨⟨h.b.c0, h.b.c1, h.b.c2, h.b.c3, h.b.f0, h.b.f1, h.b.f2, h.b.f3⟩, h.v, h.w, h.a⟩
theorem Rdr.drewN {w : World} {X : Nat} {y : Yd} {vv ww : Value} (h : Rdr w X y vv ww) (m : Nat) : Rdr (w.drewN m) X y vv ww := h.on ⟨rfl, rfl, rfl, Nat.le_refl _, fun _ _ => rfl⟩
theorem Rdr.lt {w : World} {X : Nat} {y : Yd} {vv ww : Value} (h : Rdr w X y vv ww) : X < w.heap.size := h.b.lt
/-- Nothing has turned but the reader, its two rows, and new blocks; the rows are where they were, or new. -/
structure Fr2 (X : Nat) (vv ww : Value) (w w' : World) (vv' ww' : Value) : Prop where
  size : w.heap.size ≤ w'.heap.size
  block : ∀ k, k < w.heap.size → k ≠ X → vv.ownBlock ≠ some k → ww.ownBlock ≠ some k → w'.heap[k]? = w.heap[k]?
  lv : ∀ g, vv'.ownBlock = some g → vv.ownBlock = some g ∨ w.heap.size ≤ g
  lw : ∀ g, ww'.ownBlock = some g → ww.ownBlock = some g ∨ w.heap.size ≤ g
theorem Fr2.refl (X : Nat) (vv ww : Value) (w : World) : Fr2 X vv ww w w vv ww := ⟨Nat.le_refl _, fun _ _ _ _ _ => rfl, fun _ h => .inl h, fun _ h => .inl h⟩
theorem Fr2.on {X : Nat} {vv ww vv' ww' : Value} {w w1 w2 : World} (h : Fr2 X vv ww w w1 vv' ww') (hb : Below w1.heap.size w1 w2) : Fr2 X vv ww w w2 vv' ww' :=
  ⟨Nat.le_trans h.size hb.size, fun k hk a b c => (hb.block k (Nat.lt_of_lt_of_le hk h.size)).trans (h.block k hk a b c), h.lv, h.lw⟩
theorem Fr2.setX {X : Nat} {vv ww vv' ww' : Value} {w w1 : World} (h : Fr2 X vv ww w w1 vv' ww') (i : Nat) (u : Value) : Fr2 X vv ww w (w1.setCell ⟨X, i, none⟩ u) vv' ww' :=
  ⟨by simpa using h.size, fun k hk a b c => (Below.heap_setCell _ _ _ _ (fun e => a e)).trans (h.block k hk a b c), h.lv, h.lw⟩
theorem Fr2.setV {X g : Nat} {vv ww vv' ww' : Value} {w w1 : World} (h : Fr2 X vv ww w w1 vv' ww') (hg : vv'.ownBlock = some g) (i : Nat) (u : Value) : Fr2 X vv ww w (w1.setCell ⟨g, i, none⟩ u) vv' ww' :=
  ⟨by simpa using h.size, fun k hk a b c => (Below.heap_setCell _ _ _ _ (fun e => by
    rcases h.lv g hg with q | q
    · exact b (by rw [q]; exact congrArg some e.symm)
    · have : k = g := e
      omega)).trans (h.block k hk a b c), h.lv, h.lw⟩
theorem Fr2.rows {X : Nat} {vv ww vv' ww' vv2 ww2 : Value} {w w1 : World} (h : Fr2 X vv ww w w1 vv' ww') (hv : vv2.ownBlock = vv'.ownBlock) (hw : ww2.ownBlock = ww'.ownBlock) : Fr2 X vv ww w w1 vv2 ww2 :=
  ⟨h.size, h.block, fun g hg => h.lv g (hv ▸ hg), fun g hg => h.lw g (hw ▸ hg)⟩
theorem Fr2.trans {X : Nat} {vv ww v1 u1 v2 u2 : Value} {w w1 w2 : World} (h : Fr2 X vv ww w w1 v1 u1) (k : Fr2 X v1 u1 w1 w2 v2 u2) : Fr2 X vv ww w w2 v2 u2 := by
  refine ⟨Nat.le_trans h.size k.size, fun j hj a b c => ?_, fun g hg => ?_, fun g hg => ?_⟩
  · rw [k.block j (Nat.lt_of_lt_of_le hj h.size) a (fun e => ?_) (fun e => ?_), h.block j hj a b c]
    · rcases h.lv j e with q | q
      · exact b q
      · omega
    · rcases h.lw j e with q | q
      · exact c q
      · omega
  · rcases k.lv g hg with q | q
    · exact h.lv g q
    · exact .inr (Nat.le_trans h.size q)
  · rcases k.lw g hg with q | q
    · exact h.lw g q
    · exact .inr (Nat.le_trans h.size q)
theorem own_form {w : World} {base e size n : Nat} {v : Value} {xs : List Value} (h : w.ownsRow base e size v n xs) : ∃ a cap, v = .slice a n cap ∧ n ≤ cap := by
  rcases h.2 with ⟨h1, h2⟩ | ⟨g, cap, cur, h1, _, _, h3, _⟩
  · exact ⟨none, 0, by rw [h1, h2], by omega⟩
  · exact ⟨_, _, h1, h3⟩
/-- The last sign that waits, in memory. -/
theorem own_last2 {w : World} {base e : Nat} {v : Value} {s : Sg2} {W : List Sg2} (h : w.ownsRow base e 2 v (s :: W).length (cels2 (s :: W).reverse)) : ∃ g cap, v = .slice (some ⟨g, 0, none⟩) (W.length + 1) cap ∧ W.length + 1 ≤ cap ∧ cap ≤ maxLen ∧ base ≤ g ∧ g < w.heap.size ∧
    w.cell? ⟨g, W.length * 2, none⟩ = some (.string ⟨s.1.toArray⟩) ∧ w.cell? ⟨g, W.length * 2 + 1, none⟩ = some (.int .i64 (s.2 : Int)) ∧ w.ownsRow base e 2 (.slice (some ⟨g, 0, none⟩) W.length cap) W.length (cels2 W.reverse) := by
  rw [List.length_cons, List.reverse_cons, cels2_app] at h
  have hl : (cels2 W.reverse).length = W.length * 2 := by rw [cels2_len, List.length_reverse]
  have hc := fun g => World.ownsRow.cells h (g := g)
  have h' := h
  rcases h.2 with ⟨_, h2⟩ | ⟨g, cap, cur, rfl, hb, hg, hnc, hcm, hcs, htake⟩
  · omega
  · have c0 := hc g rfl (W.length * 2) (.string ⟨s.1.toArray⟩) (by rw [List.getElem?_append_right (by omega), hl, Nat.sub_self]; rfl)
    have c1 := hc g rfl (W.length * 2 + 1) (.int .i64 (s.2 : Int)) (by rw [List.getElem?_append_right (by omega), hl, Nat.add_sub_cancel_left]; rfl)
    have hp : ∀ i, (⟨g, 0, none⟩ : Addr).add i = ⟨g, i, none⟩ := fun i => by unfold Addr.add; split <;> simp_all
    rw [hp] at c0 c1
    exact ⟨g, cap, rfl, hnc, hcm, hb, (Array.getElem?_eq_some_iff.1 hg).1, c0, c1, ownsRow_pop hl h'⟩
theorem own_nil {w : World} {base e size : Nat} {v : Value} {xs : List Value} (h : w.ownsRow base e size v 0 xs) : ∃ a cap, v = .slice a 0 cap := by
  obtain ⟨a, cap, rfl, _⟩ := own_form h
  exact ⟨a, cap, rfl⟩

set_option maxHeartbeats 1000000 in
theorem last_any {w : World} {X : Nat} {y : Yd} {vv ww : Value} (h : Rdr w X y vv ww) (hl : y.W.length ≤ 4000) : Calls Tryz.prog 89 #[.pointer (some ⟨X, 0, none⟩)] w fun e w' => e = .returned (.int .i64 (topL y.W : Int)) ∧ ∃ m, w' = w.drewN m := by
  have hc := h.b.c1
  have hw := h.w
  clear h
  obtain ⟨V, W, o, b⟩ := y
  simp only at hc hw hl ⊢
  cases W with
  | nil =>
    obtain ⟨a, cap, rfl⟩ := own_nil hw
    clear hw
    go_enter Tryz.func89, Tryz.ntmps89
    go_wp2
    go_ret
    exact ⟨rfl, 0, rfl⟩
  | cons s W =>
    obtain ⟨g, cap, rfl, h1, h2, h3, h4, c0, c1, _⟩ := own_last2 hw
    rw [List.length_cons] at hl
    have i1 : ((W.length : Int) + 1 == 0) = false := beq_eq_false_iff_ne.2 (by omega)
    have i2 : IntKind.i64.wrap ((W.length : Int) + 1 - 1) = (W.length : Int) := by rw [IntKind.wrap_i64]; omega
    have i3 : (W.length : Int) < (W.length : Int) + 1 := by omega
    have i4 : (0 : Int) ≤ (W.length : Int) := by omega
    clear hw
    go_enter Tryz.func89, Tryz.ntmps89
    go_wp2
    go_quiet (fail)
    go_wp2
    go_ret
    exact ⟨rfl, _, rfl⟩
end Go.Proofs.YtiddccohldjjcaaGreatDoor

/- What the program's joinOne and join do. -/
namespace Go.Proofs.YtiddccohldjjcaaGreatDoor
open Go.RowKit Go.Lib
set_option linter.unusedSimpArgs false
set_option linter.unusedVariables false
attribute [local go_sem ↓] Go.wp_at_zero Go.wp_at_succ

theorem addr_plain (g i : Nat) : (⟨g, 0, none⟩ : Addr).add i = ⟨g, i, none⟩ := by unfold Addr.add; split <;> simp_all
/-- The last operand, in memory. -/
theorem own_last1 {w : World} {base e : Nat} {v : Value} {x : Sx} {V : List Sx} (h : w.ownsRow base e 1 v (x :: V).length ((x :: V).reverse.map exX)) : ∃ g cap, v = .slice (some ⟨g, 0, none⟩) (V.length + 1) cap ∧ V.length + 1 ≤ cap ∧ cap ≤ maxLen ∧ base ≤ g ∧ g < w.heap.size ∧
    w.cell? ⟨g, V.length, none⟩ = some (exX x) ∧ (∀ j, w.frozen? ⟨g, j, none⟩ = false) ∧ w.ownsRow base e 1 (.slice (some ⟨g, 0, none⟩) (V.length + 1) cap) (V.length + 1) (V.reverse.map exX ++ [exX x]) := by
  rw [List.length_cons, List.reverse_cons, List.map_append] at h
  have hl : (V.reverse.map exX).length = V.length := by simp
  have hc := fun g => World.ownsRow.cells h (g := g)
  have h' := h
  rcases h.2 with ⟨_, h2⟩ | ⟨g, cap, cur, rfl, hb, hg, hnc, hcm, hcs, htake⟩
  · omega
  · have c0 := hc g rfl V.length (exX x) (by rw [List.getElem?_append_right (by omega), hl, Nat.sub_self]; rfl)
    rw [addr_plain] at c0
    exact ⟨g, cap, rfl, hnc, hcm, hb, (Array.getElem?_eq_some_iff.1 hg).1, c0, fun j => World.ownsRow.frozenAt h' j, h'⟩
/-- The last operand written anew. -/
theorem own_set1 {w : World} {base e g cap n : Nat} {xs : List Value} {a u : Value} (hn : xs.length = n) (h : w.ownsRow base e 1 (.slice (some ⟨g, 0, none⟩) (n + 1) cap) (n + 1) (xs ++ [a])) : (w.setCell ⟨g, n, none⟩ u).ownsRow base e 1 (.slice (some ⟨g, 0, none⟩) (n + 1) cap) (n + 1) (xs ++ [u]) := by
  have := (World.ownsRow.stored h n u).1
  subst hn
  rw [List.set_append_right _ _ (Nat.le_refl _), Nat.sub_self] at this
  exact this
theorem rdr_far {w : World} {X g i : Nat} {y : Yd} {vv ww : Value} (h : w.ownsRow (X + 1) 131 2 ww y.W.length (cels2 y.W.reverse)) (ha : ww.ownBlock ≠ some g) (u : Value) : (w.setCell ⟨g, i, none⟩ u).ownsRow (X + 1) 131 2 ww y.W.length (cels2 y.W.reverse) :=
  own_keep h (fun k hk => Below.heap_setCell _ _ _ _ (fun e => ha (by rw [hk]; exact congrArg some e)))

set_option maxRecDepth 100000 in
set_option maxHeartbeats 4000000 in
theorem joinOne_bin {w : World} {X : Nat} {x z : Sx} {V : List Sx} {W : List Sg2} {o : Nat} {b : Bool} {vv ww : Value} (h : Rdr w X ⟨x :: z :: V, W, o, b⟩ vv ww) (s : Sg2) (hs : ¬ s.2 = 6) (hl : V.length ≤ 4000) :
    Calls Tryz.prog 92 #[.pointer (some ⟨X, 0, none⟩), .agg #[.string ⟨s.1.toArray⟩, .int .i64 (s.2 : Int)]] w fun e w' => (∃ u, e = .returned u) ∧ (∃ vv', Rdr w' X ⟨mk2 ⟨s.1.toArray⟩ z x :: V, W, o, b⟩ vv' ww ∧ Fr2 X vv ww w w' vv' ww) ∧ Below X w w' := by
  have hb := h.b
  have hw := h.w
  have ha := h.a
  obtain ⟨g, cap, rfl, h1, h2, h3, h4, c1, fz, ho⟩ := own_last1 h.v
  simp only [List.length_cons] at h1 c1 ho hb ha
  have ho2 : w.ownsRow (X + 1) 31 1 (.slice (some ⟨g, 0, none⟩) (V.length + 1) cap) (V.length + 1) ((z :: V).reverse.map exX) := ownsRow_pop (by simp) ho
  have c0 : w.cell? ⟨g, V.length, none⟩ = some (exX z) := by
    have := World.ownsRow.cells ho2 (g := g) rfl V.length (exX z) (by rw [List.reverse_cons, List.map_append, List.getElem?_append_right (by simp)]; simp)
    rwa [addr_plain] at this
  obtain ⟨q, hq⟩ : ∃ q, exX x = q := ⟨_, rfl⟩
  obtain ⟨r, hr⟩ : ∃ r, exX z = r := ⟨_, rfl⟩
  have hqf := exX_form x
  have hrf := exX_form z
  rw [hq] at c1 hqf
  rw [hr] at c0 hrf
  have l1 : ((s.2 : Int) != 6) = true := by simp; omega
  have i2 : IntKind.i64.wrap ((V.length : Int) + 1 + 1 - 1) = (V.length : Int) + 1 := by rw [IntKind.wrap_i64]; omega
  have i3 : IntKind.i64.wrap ((V.length : Int) + 1 - 1) = (V.length : Int) := by rw [IntKind.wrap_i64]; omega
  have i4 : IntKind.i64.wrap ((V.length : Int) + 1) = (V.length : Int) + 1 := by rw [IntKind.wrap_i64]; omega
  have hbel : Below w.heap.size w (w.alloc (.cells #[.string ⟨s.1.toArray⟩, .int .i64 (s.2 : Int)] 131)) := (Below.refl _ w).alloc (Nat.le_refl _) _
  have hA := hb.keep hbel
  have c1' := (hbel.cell (p := ⟨g, V.length + 1, none⟩) h4).trans c1
  have c0' := (hbel.cell (p := ⟨g, V.length, none⟩) h4).trans c0
  have z1 := (hbel.frozen (p := ⟨g, V.length, none⟩) h4).trans (fz _)
  have ho3 := World.ownsRow.alloc ho2 (.cells #[.string ⟨s.1.toArray⟩, .int .i64 (s.2 : Int)] 131)
  have hw3 := World.ownsRow.alloc hw (.cells #[.string ⟨s.1.toArray⟩, .int .i64 (s.2 : Int)] 131)
  have p1 : (w.alloc (.cells #[.string ⟨s.1.toArray⟩, .int .i64 (s.2 : Int)] 131)).cell? ⟨w.heap.size, 0, none⟩ = some (.string ⟨s.1.toArray⟩) := by simp
  have p2 : (w.alloc (.cells #[.string ⟨s.1.toArray⟩, .int .i64 (s.2 : Int)] 131)).cell? ⟨w.heap.size, 1, none⟩ = some (.int .i64 (s.2 : Int)) := by simp
  obtain ⟨y0, y1, y2, y3, f0, f1, f2, f3⟩ := id hA
  have j1 : (V.length : Int) < (V.length : Int) + 1 + 1 := by omega
  have j2 : (V.length : Int) + 1 < (V.length : Int) + 1 + 1 := by omega
  have j3 : (0 : Int) ≤ (V.length : Int) := by omega
  have j4 : (0 : Int) ≤ (V.length : Int) + 1 := by omega
  have j5 : (V.length : Int) + 1 ≤ (cap : Int) := by omega
  have hu : exX (mk2 ⟨s.1.toArray⟩ z x) = .iface 43 (.agg #[.string ⟨s.1.toArray⟩, r, q]) := by rw [exX_mk2, hr, hq]
  have hXg : g ≠ X := by omega
  have haw : ww.ownBlock ≠ some g := ha g rfl
  have ho4 : (w.alloc (.cells #[.string ⟨s.1.toArray⟩, .int .i64 (s.2 : Int)] 131)).ownsRow (X + 1) 31 1 (.slice (some ⟨g, 0, none⟩) (V.length + 1) cap) (V.length + 1) (V.reverse.map exX ++ [exX z]) := by rw [List.reverse_cons, List.map_append] at ho3; exact ho3
  clear h hb ha hw ho ho2 ho3 c0 c1 fz hq hr
  rcases hqf with rfl | ⟨qu, qy, rfl⟩ <;> rcases hrf with rfl | ⟨ru, ry, rfl⟩
  all_goals (
    go_enter Tryz.func92, Tryz.ntmps92
    go_wp2
    generalize w.alloc (.cells #[.string ⟨s.1.toArray⟩, .int .i64 (s.2 : Int)] 131) = wa at *
    go_region
    have ho5 := own_set1 (u := exX (mk2 ⟨s.1.toArray⟩ z x)) (by simp) ho4
    have hB := hA.far hXg (i := V.length) (exX (mk2 ⟨s.1.toArray⟩ z x))
    have hw4 := rdr_far (y := ⟨mk2 ⟨s.1.toArray⟩ z x :: V, W, o, b⟩) hw3 haw (exX (mk2 ⟨s.1.toArray⟩ z x)) (vv := .nilIface) (i := V.length)
    have hF := (((Fr2.refl X (.slice (some ⟨g, 0, none⟩) (V.length + 1 + 1) cap) ww w).on hbel).setV (g := g) rfl V.length (exX (mk2 ⟨s.1.toArray⟩ z x)))
    have hbel2 : Below X w (wa.setCell ⟨g, V.length, none⟩ (exX (mk2 ⟨s.1.toArray⟩ z x))) := (hbel.mono (by omega)).setCell (by show X ≤ g; omega) _
    rw [hu] at ho5 hB hw4 hbel2 hF
    clear hA y0 y1 y2 y3 f0 f1 f2 f3 ho4 hw3 hbel c0' c1' z1 p1 p2
    obtain ⟨y0, y1, y2, y3, f0, f1, f2, f3⟩ := id hB
    generalize wa.setCell ⟨g, V.length, none⟩ _ = wb at *
    go_wp2
    go_end0
    refine ⟨⟨_, rfl⟩, ⟨_, Rdr.drew ⟨hB.set0 _, ?_, ownsRow_setCell_below hw4 (Nat.lt_succ_self X) _, fun k hk => ?_⟩, ((hF.setX 0 _).on ((Below.refl _ _).drew)).rows rfl rfl⟩, ((hbel2.setCell (Nat.le_refl _) _).drew)⟩
    · show World.ownsRow _ _ _ _ _ (V.length + 1) ((mk2 ⟨s.1.toArray⟩ z x :: V).reverse.map exX)
      rw [List.reverse_cons, List.map_append, List.map_singleton, hu]
      exact ownsRow_setCell_below ho5 (Nat.lt_succ_self X) _
    · simp only [Value.ownBlock, Option.some.injEq] at hk
      rw [← hk]; exact haw)
end Go.Proofs.YtiddccohldjjcaaGreatDoor

/- What the program's joinOne does with a sign ahead. -/
namespace Go.Proofs.YtiddccohldjjcaaGreatDoor
open Go.RowKit Go.Lib
set_option linter.unusedSimpArgs false
set_option linter.unusedVariables false
attribute [local go_sem ↓] Go.wp_at_zero Go.wp_at_succ


set_option maxRecDepth 100000 in
set_option maxHeartbeats 4000000 in
theorem joinOne_un {w : World} {X : Nat} {x : Sx} {V : List Sx} {W : List Sg2} {o : Nat} {b : Bool} {vv ww : Value} (h : Rdr w X ⟨x :: V, W, o, b⟩ vv ww) (t : List UInt8) (hl : V.length ≤ 4000) :
    Calls Tryz.prog 92 #[.pointer (some ⟨X, 0, none⟩), .agg #[.string ⟨t.toArray⟩, .int .i64 6]] w fun e w' => (∃ u, e = .returned u) ∧ (∃ vv', Rdr w' X ⟨mk1 (if t = [33] then 3 else 4) x :: V, W, o, b⟩ vv' ww ∧ Fr2 X vv ww w w' vv' ww) ∧ Below X w w' := by
  have hb := h.b
  have hw := h.w
  have ha := h.a
  obtain ⟨g, cap, rfl, h1, h2, h3, h4, c1, fz, ho⟩ := own_last1 h.v
  obtain ⟨q, hq⟩ : ∃ q, exX x = q := ⟨_, rfl⟩
  have hqf := exX_form x
  rw [hq] at c1 hqf
  have i2 : IntKind.i64.wrap ((V.length : Int) + 1 - 1) = (V.length : Int) := by rw [IntKind.wrap_i64]; omega
  have i4 : IntKind.i64.wrap ((V.length : Int) + 1) = (V.length : Int) + 1 := by rw [IntKind.wrap_i64]; omega
  have hbel : Below w.heap.size w (w.alloc (.cells #[.string ⟨t.toArray⟩, .int .i64 6] 131)) := (Below.refl _ w).alloc (Nat.le_refl _) _
  have hA := hb.keep hbel
  have c1' := (hbel.cell (p := ⟨g, V.length, none⟩) h4).trans c1
  have z1 := (hbel.frozen (p := ⟨g, V.length, none⟩) h4).trans (fz _)
  have ho4 := World.ownsRow.alloc ho (.cells #[.string ⟨t.toArray⟩, .int .i64 6] 131)
  have hw3 := World.ownsRow.alloc hw (.cells #[.string ⟨t.toArray⟩, .int .i64 6] 131)
  have p1 : (w.alloc (.cells #[.string ⟨t.toArray⟩, .int .i64 6] 131)).cell? ⟨w.heap.size, 0, none⟩ = some (.string ⟨t.toArray⟩) := by simp
  have p2 : (w.alloc (.cells #[.string ⟨t.toArray⟩, .int .i64 6] 131)).cell? ⟨w.heap.size, 1, none⟩ = some (.int .i64 6) := by simp
  obtain ⟨y0, y1, y2, y3, f0, f1, f2, f3⟩ := id hA
  have j2 : (V.length : Int) < (V.length : Int) + 1 := by omega
  have j3 : (0 : Int) ≤ (V.length : Int) := by omega
  have j4 : (0 : Int) ≤ (V.length : Int) + 1 := by omega
  have j5 : (V.length : Int) + 1 ≤ (cap : Int) := by omega
  have hXg : g ≠ X := by omega
  have haw : ww.ownBlock ≠ some g := ha g rfl
  obtain ⟨k, hk⟩ : ∃ k : Int, (if t = [33] then (3 : Int) else 4) = k := ⟨_, rfl⟩
  rw [hk]
  have hkk : (t == [33]) = true ∧ exX (mk1 k x) = .iface 54 (.agg #[q]) ∨ (t == [33]) = false ∧ exX (mk1 k x) = .iface 55 (.agg #[q]) := by
    rw [← hk, ← hq]
    by_cases e : t = [33]
    · left; rw [if_pos e]; exact ⟨by rw [e]; rfl, exX_not x⟩
    · right; rw [if_neg e]; exact ⟨beq_eq_false_iff_ne.2 e, exX_neg x⟩
  clear h ha c1 fz hq hk
  have hob : ∀ u : Value, (w.setCell ⟨g, V.length, none⟩ u).ownsRow (X + 1) 31 1 (.slice (some ⟨g, 0, none⟩) (V.length + 1) cap) (V.length + 1) (V.reverse.map exX ++ [u]) := fun u => own_set1 (by simp) ho
  have hwb : ∀ u : Value, (w.setCell ⟨g, V.length, none⟩ u).ownsRow (X + 1) 131 2 ww W.length (cels2 W.reverse) := fun u => rdr_far (y := ⟨V, W, o, b⟩) hw haw u (vv := .nilIface)
  have hbb : ∀ u : Value, B4 (w.setCell ⟨g, V.length, none⟩ u) X (.slice (some ⟨g, 0, none⟩) (V.length + 1) cap) ww (.int .i64 (o : Int)) (.bool b) := fun u => hb.far hXg u
  have hbl : ∀ u : Value, Below X w (w.setCell ⟨g, V.length, none⟩ u) := fun u => (Below.refl _ _).setCell (by show X ≤ g; omega) _
  have hfr : ∀ u : Value, Fr2 X (.slice (some ⟨g, 0, none⟩) (V.length + 1) cap) ww w (w.setCell ⟨g, V.length, none⟩ u) (.slice (some ⟨g, 0, none⟩) (V.length + 1) cap) ww := fun u => (Fr2.refl X _ ww w).setV (g := g) rfl V.length u
  have hal : ∀ wx : World, Below wx.heap.size wx (wx.alloc (.cells #[.string ⟨t.toArray⟩, .int .i64 6] 131)) := fun wx => (Below.refl _ _).alloc (Nat.le_refl _) _
  have hX := hb.lt
  clear hb hw ho ho4 hw3 hbel hA
  rcases hqf with rfl | ⟨qu, qy, rfl⟩ <;> rcases hkk with ⟨e1, hu⟩ | ⟨e1, hu⟩
  all_goals (
    have hB := hbb (exX (mk1 k x))
    have ho5 := hob (exX (mk1 k x))
    have hw4 := hwb (exX (mk1 k x))
    have hb2 := hbl (exX (mk1 k x))
    have hF := hfr (exX (mk1 k x))
    rw [hu] at hB ho5 hw4 hb2 hF
    obtain ⟨q0, q1, q2, q3, g0, g1, g2, g3⟩ := id (hB.keep (hal _))
    clear hob hwb hbb hbl hfr
    go_enter Tryz.func92, Tryz.ntmps92
    go_wp2
    go_end0
    refine ⟨⟨_, rfl⟩, ⟨_, ⟨(hB.set0 _).keep (hal _), ?_, World.ownsRow.alloc (ownsRow_setCell_below hw4 (Nat.lt_succ_self X) _) _, fun k hk => ?_⟩, (hF.setX 0 _).on (hal _)⟩, ((hb2.setCell (Nat.le_refl X) _).alloc (by simp; omega) _)⟩
    · show World.ownsRow _ _ _ _ _ (V.length + 1) ((mk1 k x :: V).reverse.map exX)
      rw [List.reverse_cons, List.map_append, List.map_singleton, hu]
      exact World.ownsRow.alloc (ownsRow_setCell_below ho5 (Nat.lt_succ_self X) _) _
    · simp only [Value.ownBlock, Option.some.injEq] at hk
      rw [← hk]; exact haw)
theorem joinOne_any {w : World} {X : Nat} {V : List Sx} {W : List Sg2} {o : Nat} {b : Bool} {vv ww : Value} (h : Rdr w X ⟨V, W, o, b⟩ vv ww) (s : Sg2) (h6 : s.2 = 6 → 1 ≤ V.length) (h2 : s.2 ≠ 6 → 2 ≤ V.length) (hl : V.length ≤ 4000) :
    Calls Tryz.prog 92 #[.pointer (some ⟨X, 0, none⟩), .agg #[.string ⟨s.1.toArray⟩, .int .i64 (s.2 : Int)]] w fun e w' => (∃ u, e = .returned u) ∧ (∃ vv', Rdr w' X ⟨jn1 V s, W, o, b⟩ vv' ww ∧ Fr2 X vv ww w w' vv' ww) ∧ Below X w w' := by
  by_cases hs : s.2 = 6
  · match V, h6 hs, h, hl with
    | x :: V, _, h, hl =>
      have e : jn1 (x :: V) s = mk1 (if s.1 = [33] then 3 else 4) x :: V := by unfold jn1; rw [if_pos hs]
      rw [e, hs]
      exact joinOne_un h s.1 (by rw [List.length_cons] at hl; omega)
  · match V, h2 hs, h, hl with
    | x :: z :: V, _, h, hl =>
      have e : jn1 (x :: z :: V) s = mk2 ⟨s.1.toArray⟩ z x :: V := by unfold jn1; rw [if_neg hs]
      rw [e]
      exact joinOne_bin h s hs (by rw [List.length_cons, List.length_cons] at hl; omega)
end Go.Proofs.YtiddccohldjjcaaGreatDoor

/- What the program's join does. -/
namespace Go.Proofs.YtiddccohldjjcaaGreatDoor
open Go.RowKit Go.Lib
set_option linter.unusedSimpArgs false
set_option linter.unusedVariables false
attribute [local go_sem ↓] Go.wp_at_zero Go.wp_at_succ

/-- How many of the signs take two operands; how many are brackets. -/
def bins : List Sg2 → Nat
  | [] => 0
  | s :: W => bins W + (if s.2 = 0 ∨ s.2 = 6 then 0 else 1)
def brk : List Sg2 → Nat
  | [] => 0
  | s :: W => brk W + (if s.2 = 0 then 1 else 0)
theorem jn1_len {V : List Sx} {s : Sg2} {W : List Sg2} (h0 : s.2 ≠ 0) (h : V.length = bins (s :: W) + 1) : (jn1 V s).length = bins W + 1 ∧ (s.2 = 6 → 1 ≤ V.length) ∧ (s.2 ≠ 6 → 2 ≤ V.length) := by
  unfold bins at h
  unfold jn1
  by_cases h6 : s.2 = 6
  · rw [if_pos (.inr h6)] at h
    rw [if_pos h6]
    refine ⟨?_, fun _ => by omega, fun h => absurd h6 h⟩
    match V, h with
    | x :: V, h => exact h
  · rw [if_neg (fun q => q.elim h0 h6)] at h
    rw [if_neg h6]
    refine ⟨?_, fun h => absurd h h6, fun _ => by omega⟩
    match V, h with
    | x :: z :: V, h =>
      rw [List.length_cons, List.length_cons] at h
      show (V.length + 1) = _
      omega
    | [x], h => simp at h
theorem jn_ok {k : Nat} (hk : 1 ≤ k) : ∀ (W : List Sg2) (V : List Sx), V.length = bins W + 1 → (jn k V W).1.length = bins (jn k V W).2 + 1 ∧ brk (jn k V W).2 = brk W ∧ (jn k V W).2.length ≤ W.length ∧ topL (jn k V W).2 < k
  | [], V, h => ⟨h, rfl, Nat.le_refl _, hk⟩
  | s :: W, V, h => by
    unfold jn
    by_cases hs : k ≤ s.2
    · rw [if_pos hs]
      obtain ⟨a, b, c, d⟩ := jn_ok hk W (jn1 V s) (jn1_len (by omega) h).1
      refine ⟨a, ?_, by rw [List.length_cons]; omega, d⟩
      rw [b]
      show brk W = brk W + _
      rw [if_neg (by omega)]; rfl
    · rw [if_neg hs]
      exact ⟨h, rfl, Nat.le_refl _, by show s.2 < k; omega⟩
theorem bins_le : ∀ W, bins W ≤ W.length
  | [] => Nat.le_refl _
  | s :: W => by
    have := bins_le W
    show bins W + _ ≤ W.length + 1
    split <;> omega
/-- How many signs wait, as memory tells. -/
def wlen (X : Nat) (w : World) : Nat := match w.cell? ⟨X, 1, none⟩ with | some (.slice _ n _) => n | _ => 0
theorem Rdr.wlen {w : World} {X : Nat} {y : Yd} {vv ww : Value} (h : Rdr w X y vv ww) : wlen X w = y.W.length := by
  obtain ⟨a, cap, rfl, _⟩ := own_form h.w
  unfold Go.Proofs.YtiddccohldjjcaaGreatDoor.wlen
  rw [h.b.c1]
/-- The last sign taken off. -/
theorem Rdr.popW {w : World} {X g cap : Nat} {V : List Sx} {s : Sg2} {W : List Sg2} {o : Nat} {b : Bool} {vv : Value} (h : Rdr w X ⟨V, s :: W, o, b⟩ vv (.slice (some ⟨g, 0, none⟩) (W.length + 1) cap)) :
    Rdr (w.setCell ⟨X, 1, none⟩ (.slice (some ⟨g, 0, none⟩) W.length cap)) X ⟨V, W, o, b⟩ vv (.slice (some ⟨g, 0, none⟩) W.length cap) := by
  obtain ⟨g', cap', e, _, _, _, _, _, _, ho⟩ := own_last2 h.w
  simp only [Value.slice.injEq, Option.some.injEq, Addr.mk.injEq, and_true, true_and] at e
  obtain ⟨rfl, rfl⟩ := e
  exact ⟨h.b.set1 _, ownsRow_setCell_below h.v (Nat.lt_succ_self X) _, ownsRow_setCell_below ho (Nat.lt_succ_self X) _, h.a⟩
theorem below_draws (B : Nat) (w : World) (m : Nat) : Below B w (w.drewN m) := ⟨rfl, rfl, rfl, Nat.le_refl _, fun _ _ => rfl⟩

set_option maxRecDepth 100000 in
set_option maxHeartbeats 4000000 in
theorem join_any {w : World} {X : Nat} {V : List Sx} {W : List Sg2} {o : Nat} {b : Bool} {vv ww : Value} (h : Rdr w X ⟨V, W, o, b⟩ vv ww) (k : Nat) (hk : 1 ≤ k) (hk6 : k ≤ 7) (hV : V.length = bins W + 1) (hl : W.length ≤ 3001) :
    Calls Tryz.prog 68 #[.pointer (some ⟨X, 0, none⟩), .int .i64 (k : Int)] w fun e w' => (∃ u, e = .returned u) ∧ (∃ vv' ww', Rdr w' X ⟨(jn k V W).1, (jn k V W).2, o, b⟩ vv' ww' ∧ Fr2 X vv ww w w' vv' ww') ∧ Below X w w' := by
  obtain ⟨R, hR⟩ : ∃ R, jn k V W = R := ⟨_, rfl⟩
  rw [hR]
  have hR0 : Hid (jn k V W = R) := hR
  clear hR
  go_enter Tryz.func68, Tryz.ntmps68
  go_wp2
  go_loopw [] (fun wr => ∃ (V' : List Sx) (W' : List Sg2) (vv' ww' : Value), Rdr wr X ⟨V', W', o, b⟩ vv' ww' ∧ Fr2 X vv ww w wr vv' ww' ∧ Hid (jn k V' W' = R) ∧ Hid (V'.length = bins W' + 1) ∧ W'.length ≤ 3001 ∧ Below X w wr) (fun wr => wlen X wr)
  case atStart => exact ⟨V, W, vv, ww, h, Fr2.refl X vv ww w, hR0, hV, hl, Below.refl _ _⟩
  case round =>
    obtain ⟨V', W', vv', ww', hr, hf, hj, hv, hl', hb⟩ := hrel
    have hL := last_any hr (by show W'.length ≤ 4000; omega)
    simp only at hL
    clear h hR0 hV hl
    by_cases hc : k ≤ topL W'
    · cases W' with
      | nil => exact absurd hc (by show ¬ k ≤ 0; omega)
      | cons s W' =>
      have hc' : k ≤ s.2 := hc
      have i1 : (k : Int) ≤ (topL (s :: W') : Int) := by omega
      have hm := hr.wlen
      obtain ⟨hn1, hn2, hn3⟩ := jn1_len (W := W') (by omega) hv.out
      have hjj : Hid (jn k (jn1 V' s) W' = R) := by
        have := hj.out
        rw [jn, if_pos hc'] at this
        exact this
      have hnn : Hid ((jn1 V' s).length = bins W' + 1) := hn1
      have hvl : V'.length ≤ 4000 := by
        have := bins_le (s :: W')
        have := hv.out
        omega
      obtain ⟨g, cap, rfl, a1, a2, a3, a4, c0, c1, ho⟩ := own_last2 hr.w
      have hJ := fun m => joinOne_any (hr.drewN m) s hn2 hn3 hvl
      have c0' : ∀ m, (wr.drewN m).cell? ⟨g, W'.length * 2, none⟩ = some (.string ⟨s.1.toArray⟩) := fun _ => c0
      have c1' : ∀ m, (wr.drewN m).cell? ⟨g, W'.length * 2 + 1, none⟩ = some (.int .i64 (s.2 : Int)) := fun _ => c1
      have y1 : ∀ m, (wr.drewN m).cell? ⟨X, 1, none⟩ = some (.slice (some ⟨g, 0, none⟩) (W'.length + 1) cap) := fun _ => hr.b.c1
      rw [List.length_cons] at hl'
      have i2 : IntKind.i64.wrap ((W'.length : Int) + 1 - 1) = (W'.length : Int) := by rw [IntKind.wrap_i64]; omega
      have i3 : (W'.length : Int) < (W'.length : Int) + 1 := by omega
      have i4 : (0 : Int) ≤ (W'.length : Int) := by omega
      have i5 : (W'.length : Int) ≤ (cap : Int) := by omega
      clear hj hv hn1 hn2 hn3
      go_wp2_with (first
        | (go_at_call 89; refine hL.mono ?_; rintro e w1 ⟨rfl, m, rfl⟩; have hJm := hJ m; have y1m := y1 m; have c0m := c0' m; have c1m := c1' m; clear hJ y1 c0' c1' c0 c1 hL; have hbm : Below X w (wr.drewN m) := hb.trans (below_draws _ _ m); have hfm := hf.on (below_draws _ _ m); generalize wr.drewN m = wm at *)
        | (go_at_call 92; refine hJm.mono ?_; rintro e w2 ⟨⟨u, rfl⟩, ⟨vv2, hr2, hf2⟩, b2⟩; have hb2 := hbm.trans b2; have hf3 := hfm.trans hf2; obtain ⟨q0, q1, q2, q3, g0, g1, g2, g3⟩ := id hr2.b))
      have hr3 := hr2.popW
      exact ⟨⟨_, _, _, _, hr3, (hf3.setX 1 _).rows rfl rfl, hjj, hnn, by omega, hb2.setCell (Nat.le_refl X) _⟩, by rw [hr3.wlen, hm]; exact Nat.lt_succ_self _⟩
    · have i1 : ¬ (k : Int) ≤ (topL W' : Int) := by omega
      have hjj := hj.out
      rw [jn_skip (by omega)] at hjj
      subst hjj
      go_wp2_with (first
        | (go_at_call 89; refine hL.mono ?_; rintro e w1 ⟨rfl, m, rfl⟩))
      go_end0
      exact ⟨⟨_, rfl⟩, ⟨_, _, hr.drewN m, hf.on (below_draws _ _ m)⟩, hb.trans (below_draws _ _ m)⟩
end Go.Proofs.YtiddccohldjjcaaGreatDoor
