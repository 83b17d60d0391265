import Derived.Test.YtpdhmjjmpofphaaDoorRows
import Derived.Test.YtpdhmjjmpofphaaDoorWtc01
import Derived.Deep.AppendLies
import Derived.WalkSmall
import Derived.Shelf.Strconv.Clone
import Derived.Lib.ItoaNum
import Derived.BigQuiet
import Derived.Deep.QuietTactic
import Derived.BigRegion

/- Blocks of four cells; rows that stay. -/
namespace Go.Proofs.YtpdhmjjmpofphaaDoor
open Go.RowKit
set_option linter.unusedSimpArgs false
set_option linter.unusedVariables false

/-- A block of four cells that may be written. -/
structure B4 (w : World) (X : Nat) (a b c e : Value) : Prop where
  c0 : w.cell? ⟨X, 0, none⟩ = some a
  c1 : w.cell? ⟨X, 1, none⟩ = some b
  c2 : w.cell? ⟨X, 2, none⟩ = some c
  c3 : w.cell? ⟨X, 3, none⟩ = some e
  f0 : w.frozen? ⟨X, 0, none⟩ = false
  f1 : w.frozen? ⟨X, 1, none⟩ = false
  f2 : w.frozen? ⟨X, 2, none⟩ = false
  f3 : w.frozen? ⟨X, 3, none⟩ = false
theorem B4.new (w : World) (a b c e : Value) (t : TypeId) (n : Nat) (hn : n = w.heap.size) : B4 (w.alloc (.cells #[a, b, c, e] t)) n a b c e := by
  subst hn
  exact ⟨by simp, by simp, by simp, by simp, by simp, by simp, by simp, by simp⟩
theorem B4.keepB {w w' : World} {X B : Nat} {a b c e : Value} (h : B4 w X a b c e) (hb : Below B w w') (hX : X < B) : B4 w' X a b c e := by
  have hc : ∀ i, w'.cell? ⟨X, i, none⟩ = w.cell? ⟨X, i, none⟩ := fun i => hb.cell (p := ⟨X, i, none⟩) hX
  have hf : ∀ i, w'.frozen? ⟨X, i, none⟩ = w.frozen? ⟨X, i, none⟩ := fun i => hb.frozen (p := ⟨X, i, none⟩) hX
  exact ⟨by rw [hc]; exact h.c0, by rw [hc]; exact h.c1, by rw [hc]; exact h.c2, by rw [hc]; exact h.c3, by rw [hf]; exact h.f0, by rw [hf]; exact h.f1, by rw [hf]; exact h.f2, by rw [hf]; exact h.f3⟩
theorem B4.lt {w : World} {X : Nat} {a b c e : Value} (h : B4 w X a b c e) : X < w.heap.size := World.block_lt_of_cell? w _ h.c0
theorem B4.keep {w w' : World} {X : Nat} {a b c e : Value} (h : B4 w X a b c e) (hb : Below w.heap.size w w') : B4 w' X a b c e := h.keepB hb h.lt
theorem cell_same4 {w : World} {p : Addr} {u v : Value} (h : w.cell? p = some u) : (w.setCell p v).cell? p = some v := World.cell?_setCell_same' w _ v (by rw [h]; rfl)
theorem cell_far4 {w : World} {X i Y j : Nat} {u v : Value} (hne : ¬ (X = Y ∧ i = j)) (h : w.cell? ⟨Y, j, none⟩ = some u) : (w.setCell ⟨X, i, none⟩ v).cell? ⟨Y, j, none⟩ = some u :=
  (World.cell?_setCell_other w ⟨X, i, none⟩ ⟨Y, j, none⟩ v (by simp; intro h1 h2; exact hne ⟨h1, h2⟩)).trans h
theorem B4.far {w : World} {X Y i : Nat} {a b c e : Value} (h : B4 w Y a b c e) (hne : X ≠ Y) (v : Value) : B4 (w.setCell ⟨X, i, none⟩ v) Y a b c e :=
  ⟨cell_far4 (by omega) h.c0, cell_far4 (by omega) h.c1, cell_far4 (by omega) h.c2, cell_far4 (by omega) h.c3, (World.frozen?_setCell _ _ _ _).trans h.f0, (World.frozen?_setCell _ _ _ _).trans h.f1, (World.frozen?_setCell _ _ _ _).trans h.f2, (World.frozen?_setCell _ _ _ _).trans h.f3⟩
theorem B4.set0 {w : World} {X : Nat} {a b c e : Value} (h : B4 w X a b c e) (v : Value) : B4 (w.setCell ⟨X, 0, none⟩ v) X v b c e :=
  ⟨cell_same4 h.c0, cell_far4 (by omega) h.c1, cell_far4 (by omega) h.c2, cell_far4 (by omega) h.c3, (World.frozen?_setCell _ _ _ _).trans h.f0, (World.frozen?_setCell _ _ _ _).trans h.f1, (World.frozen?_setCell _ _ _ _).trans h.f2, (World.frozen?_setCell _ _ _ _).trans h.f3⟩
theorem B4.set1 {w : World} {X : Nat} {a b c e : Value} (h : B4 w X a b c e) (v : Value) : B4 (w.setCell ⟨X, 1, none⟩ v) X a v c e :=
  ⟨cell_far4 (by omega) h.c0, cell_same4 h.c1, cell_far4 (by omega) h.c2, cell_far4 (by omega) h.c3, (World.frozen?_setCell _ _ _ _).trans h.f0, (World.frozen?_setCell _ _ _ _).trans h.f1, (World.frozen?_setCell _ _ _ _).trans h.f2, (World.frozen?_setCell _ _ _ _).trans h.f3⟩
theorem B4.set2 {w : World} {X : Nat} {a b c e : Value} (h : B4 w X a b c e) (v : Value) : B4 (w.setCell ⟨X, 2, none⟩ v) X a b v e :=
  ⟨cell_far4 (by omega) h.c0, cell_far4 (by omega) h.c1, cell_same4 h.c2, cell_far4 (by omega) h.c3, (World.frozen?_setCell _ _ _ _).trans h.f0, (World.frozen?_setCell _ _ _ _).trans h.f1, (World.frozen?_setCell _ _ _ _).trans h.f2, (World.frozen?_setCell _ _ _ _).trans h.f3⟩
theorem B4.set3 {w : World} {X : Nat} {a b c e : Value} (h : B4 w X a b c e) (v : Value) : B4 (w.setCell ⟨X, 3, none⟩ v) X a b c v :=
  ⟨cell_far4 (by omega) h.c0, cell_far4 (by omega) h.c1, cell_far4 (by omega) h.c2, cell_same4 h.c3, (World.frozen?_setCell _ _ _ _).trans h.f0, (World.frozen?_setCell _ _ _ _).trans h.f1, (World.frozen?_setCell _ _ _ _).trans h.f2, (World.frozen?_setCell _ _ _ _).trans h.f3⟩
/-- All four cells written. -/
abbrev put4 (w : World) (X : Nat) (a b c e : Value) : World := (((w.setCell ⟨X, 0, none⟩ a).setCell ⟨X, 1, none⟩ b).setCell ⟨X, 2, none⟩ c).setCell ⟨X, 3, none⟩ e
theorem B4.put {w : World} {X : Nat} {a b c e : Value} (h : B4 w X a b c e) (a' b' c' e' : Value) : B4 (put4 w X a' b' c' e') X a' b' c' e' := (((h.set0 a').set1 b').set2 c').set3 e'
theorem B4.farPut {w : World} {X Y : Nat} {a b c e : Value} (h : B4 w Y a b c e) (hne : X ≠ Y) (a' b' c' e' : Value) : B4 (put4 w X a' b' c' e') Y a b c e := (((h.far hne a').far hne b').far hne c').far hne e'
theorem heap_put {w : World} {X k : Nat} (hne : X ≠ k) (a b c e : Value) : (put4 w X a b c e).heap[k]? = w.heap[k]? := by
  unfold put4
  rw [Below.heap_setCell _ _ _ _ (fun e => hne e.symm), Below.heap_setCell _ _ _ _ (fun e => hne e.symm), Below.heap_setCell _ _ _ _ (fun e => hne e.symm), Below.heap_setCell _ _ _ _ (fun e => hne e.symm)]
theorem below_put {B : Nat} {u w : World} (h : Below B u w) {X : Nat} (hX : B ≤ X) (a b c e : Value) : Below B u (put4 w X a b c e) := (((h.setCell hX _).setCell hX _).setCell hX _).setCell hX _
theorem news4 (w : World) (a b c e : Value) (t : TypeId) : ∀ j u, [a, b, c, e][j]? = some u → (w.alloc (.cells #[a, b, c, e] t)).cell? ((⟨w.heap.size, 0, none⟩ : Addr).add j) = some u := by
  intro j u hj
  match j, hj with
  | 0, hj => simp at hj; subst hj; simp [Addr.add]
  | 1, hj => simp at hj; subst hj; simp [Addr.add]
  | 2, hj => simp at hj; subst hj; simp [Addr.add]
  | 3, hj => simp at hj; subst hj; simp [Addr.add]
  | j + 4, hj => simp at hj
abbrev Q4 := Value × Value × Value × Value
def celsQ (qs : List Q4) : List Value := qs.flatMap (fun q => [q.1, q.2.1, q.2.2.1, q.2.2.2])
theorem celsQ_snoc (qs : List Q4) (q : Q4) : celsQ (qs ++ [q]) = celsQ qs ++ [q.1, q.2.1, q.2.2.1, q.2.2.2] := by simp [celsQ]
theorem celsQ_at : ∀ (qs : List Q4) (i : Nat) (h : i < qs.length), (celsQ qs)[i * 4]? = some (qs[i]).1 ∧ (celsQ qs)[i * 4 + 1]? = some (qs[i]).2.1 ∧ (celsQ qs)[i * 4 + 2]? = some (qs[i]).2.2.1 ∧ (celsQ qs)[i * 4 + 3]? = some (qs[i]).2.2.2
  | [], i, h => by simp at h
  | x :: t, 0, h => ⟨rfl, rfl, rfl, rfl⟩
  | x :: t, k + 1, h => by
    have ih := celsQ_at t k (by simpa using h)
    have e : ∀ i, (celsQ (x :: t))[(k + 1) * 4 + i]? = (celsQ t)[k * 4 + i]? := fun i => by
      show ([x.1, x.2.1, x.2.2.1, x.2.2.2] ++ celsQ t)[(k + 1) * 4 + i]? = _
      rw [List.getElem?_append_right (by simp; omega)]
      congr 1
      simp; omega
    refine ⟨(e 0).trans ih.1, (e 1).trans ih.2.1, (e 2).trans ih.2.2.1, (e 3).trans ih.2.2.2⟩
theorem ownsRow_keep {w w' : World} {base e size : Nat} {v : Value} {n : Nat} {xs : List Value} (h : w.ownsRow base e size v n xs) (hk : ∀ g, v.ownBlock = some g → w'.heap[g]? = w.heap[g]?) : w'.ownsRow base e size v n xs := by
  refine ⟨h.1, ?_⟩
  rcases h.2 with hn | ⟨g, cap, cur, rfl, hbg, hg, rest⟩
  · exact .inl hn
  · exact .inr ⟨g, cap, cur, rfl, hbg, by rw [hk g rfl]; exact hg, rest⟩
theorem ownsRow_lt {w : World} {base e size : Nat} {v : Value} {n : Nat} {xs : List Value} (h : w.ownsRow base e size v n xs) : ∀ g, v.ownBlock = some g → base ≤ g ∧ g < w.heap.size := by
  intro g hg
  rcases h.2 with ⟨rfl, _⟩ | ⟨g', cap, cur, rfl, hbg, hgg, rest⟩
  · simp [Value.ownBlock] at hg
  · simp [Value.ownBlock] at hg
    subst hg
    exact ⟨hbg, (Array.getElem?_eq_some_iff.1 hgg).1⟩

/-- The slice v is the call's own, from block base on, and holds the trees l; their own memory lies apart. -/
def OwnN (w : World) (base : Nat) (v : Value) {d : Nat} (l : List (T d)) : Prop :=
  ∃ qs : List Q4, w.ownsRow base 24 4 v l.length (celsQ qs) ∧ qs.length = l.length ∧ ∀ (i : Nat) (h : i < l.length) (h' : i < qs.length), RdT (fun b => base ≤ b ∧ v.ownBlock ≠ some b) w d l[i] (.agg #[(qs[i]).1, (qs[i]).2.1, (qs[i]).2.2.1, (qs[i]).2.2.2])
theorem ownN_nil (w : World) (base : Nat) {d : Nat} : OwnN w base (.slice none 0 0) ([] : List (T d)) := ⟨[], World.ownsRow_nil w base 24 4, rfl, fun i h => absurd h (by simp)⟩
/-- It stays where the blocks from base on that there are stay. -/
theorem OwnN.keep {w w' : World} {base : Nat} {v : Value} {d : Nat} {l : List (T d)} (h : OwnN w base v l) (hk : ∀ b, base ≤ b → b < w.heap.size → w'.heap[b]? = w.heap[b]?) : OwnN w' base v l := by
  obtain ⟨qs, ho, hl, hr⟩ := h
  refine ⟨qs, ownsRow_keep ho (fun g hg => ?_), hl, fun i h h' => RdT.keep (fun b hb hlt => ⟨hb, hk b hb.1 hlt⟩) (hr i h h')⟩
  obtain ⟨a, b⟩ := ownsRow_lt ho g hg
  exact hk g a b
theorem OwnN.below {w w' : World} {base : Nat} {v : Value} {d : Nat} {l : List (T d)} (h : OwnN w base v l) (hb : Below w.heap.size w w') : OwnN w' base v l := h.keep (fun b _ hlt => hb.block b hlt)
theorem OwnN.set {w : World} {base : Nat} {v : Value} {d : Nat} {l : List (T d)} (h : OwnN w base v l) {X i : Nat} (hX : X < base) (u : Value) : OwnN (w.setCell ⟨X, i, none⟩ u) base v l :=
  h.keep (fun b hb _ => Below.heap_setCell _ _ _ _ (fun e => by have : b = X := e; omega))
theorem OwnN.snoc {w w' : World} {base g cap lo n : Nat} {v : Value} {d : Nat} {l : List (T d)} {p : T d} {c0 c1 c2 c3 : Value} {qs : List Q4}
    (hn : l.length = n) (ho : w.ownsRow base 24 4 v n (celsQ qs)) (hl : qs.length = l.length) (hr : ∀ (i : Nat) (h : i < l.length) (h' : i < qs.length), RdT (fun b => base ≤ b ∧ v.ownBlock ≠ some b) w d l[i] (.agg #[(qs[i]).1, (qs[i]).2.1, (qs[i]).2.2.1, (qs[i]).2.2.2]))
    (ho' : w'.ownsRow base 24 4 (.slice (some ⟨g, 0, none⟩) (n + 1) cap) (n + 1) (celsQ qs ++ [c0, c1, c2, c3])) (hg : w.grownBy w' v.ownBlock) (hat : v.ownBlock = some g ∨ g = w.heap.size)
    (hp : RdT (fun b => lo ≤ b) w d p (.agg #[c0, c1, c2, c3])) (hlo : base ≤ lo) (hv : ∀ x, v.ownBlock = some x → x < lo) : OwnN w' base (.slice (some ⟨g, 0, none⟩) (n + 1) cap) (l ++ [p]) := by
  subst hn
  have key : ∀ b, base ≤ b ∧ v.ownBlock ≠ some b → b < w.heap.size → (base ≤ b ∧ (Value.slice (some ⟨g, 0, none⟩) (l.length + 1) cap).ownBlock ≠ some b) ∧ w'.heap[b]? = w.heap[b]? := fun b hb hlt => by
    refine ⟨⟨hb.1, ?_⟩, hg.block b hlt (fun e => hb.2 e.symm)⟩
    simp only [Value.ownBlock, ne_eq, Option.some.injEq]
    rintro rfl
    rcases hat with h | h
    · exact hb.2 h
    · omega
  refine ⟨qs ++ [(c0, c1, c2, c3)], ?_, by simp [hl], fun i h h' => ?_⟩
  · rw [celsQ_snoc, List.length_append]
    exact ho'
  · rcases Nat.lt_or_ge i l.length with hi | hi
    · rw [List.getElem_append_left hi, List.getElem_append_left (by omega)]
      exact RdT.keep key (hr i hi (by omega))
    · have : i = l.length := by simp at h; omega
      subst this
      have e1 : (l ++ [p])[l.length] = p := by simp
      have e2 : (qs ++ [(c0, c1, c2, c3)])[l.length]'h' = (c0, c1, c2, c3) := by simp [← hl]
      rw [e1, e2]
      exact RdT.keep (fun b hb hlt => key b ⟨by omega, fun e => by have := hv b e; omega⟩ hlt) hp
theorem OwnN.form {w : World} {base : Nat} {v : Value} {d : Nat} {l : List (T d)} (h : OwnN w base v l) : ∃ a cap, v = .slice a l.length cap := by
  obtain ⟨qs, ho, _⟩ := h
  rcases ho.2 with ⟨h1, h2⟩ | ⟨g, cap, cur, h1, _⟩
  · exact ⟨none, 0, by rw [h1, h2]⟩
  · exact ⟨_, _, h1⟩
/-- It reads as the trees. -/
theorem OwnN.rd {w : World} {base : Nat} {v : Value} {d : Nat} {l : List (T d)} (h : OwnN w base v l) : RdP (fun b => base ≤ b) w (RdT (fun b => base ≤ b) w d) l v := by
  obtain ⟨qs, ho, hl, hr⟩ := h
  have hc := fun g => World.ownsRow.cells ho (g := g)
  rcases ho.2 with ⟨rfl, hn⟩ | ⟨g, cap, cur, rfl, hb, hg, hnc, hcm, hcs, htake⟩
  · have hx : l = [] := List.eq_nil_of_length_eq_zero hn
    subst hx
    exact ⟨none, 0, rfl, by simp, by simp [maxLen], by simp, fun x hx => by cases hx⟩
  · refine ⟨some ⟨g, 0, none⟩, cap, rfl, hnc, hcm, by simp, ?_⟩
    intro x hx i hi
    obtain rfl := Option.some.inj hx
    obtain ⟨h0, h1, h2, h3⟩ := celsQ_at qs i (by omega)
    exact ⟨hb, _, _, _, _, RdT.keep (fun b hb _ => ⟨hb.1, rfl⟩) (hr i hi (by omega)), hc g rfl _ _ h0, hc g rfl _ _ h1, hc g rfl _ _ h2, hc g rfl _ _ h3⟩
theorem OwnN.base {w : World} {base lo : Nat} {d : Nat} {l : List (T d)} {v : Value} (h : RdP (fun b => base ≤ b) w (RdT (fun b => base ≤ b) w d) l v) (hlo : lo ≤ base) : RdP (fun b => lo ≤ b) w (RdT (fun b => lo ≤ b) w d) l v :=
  h.keep (fun x _ u hu => RdT.keep (fun b hb _ => ⟨by omega, rfl⟩) hu) (fun b hb _ => ⟨by omega, rfl⟩)
theorem rdP_none (ok : Nat → Prop) (w : World) {d : Nat} : RdP ok w (RdT ok w d) [] (.slice none 0 0) := ⟨none, 0, rfl, by simp, by simp [maxLen], fun _ => rfl, fun x hx => by cases hx⟩
theorem rdT_none (ok : Nat → Prop) (w : World) {d : Nat} : RdT ok w (d + 1) none0 (.agg #[.int .i64 0, .int .i64 0, .string ⟨#[]⟩, .slice none 0 0]) := ⟨_, rfl, rdP_none ok w⟩
section
variable {P : Program} (w : World)
/-- An append to a slice of the call's own: it has room, or what comes of it is small enough to grow. -/
theorem run_append_at (base : Nat) (t tx ty e : TypeId) (i : TypeInfo) (z : Value) (size bytes : Nat) (ht : P.underlying t = some (.slice e)) (hi : P.info? e = some i) (hz : i.zero = some z)
    (hsize : i.size = size) (hby : i.bytes = bytes) (hzs : z.cells.size = size)
    (v : Value) (n : Nat) (xs : List Value) (hown : w.ownsRow base e size v n xs)
    (x : Value) (m : Nat) (news : List Value) (hs : Src P size tx x m news w) (r : Nat) (hroom : Room bytes v n r) (hm : m ≤ r)
    (h63 : n + r ≤ maxLen) (hbase : base ≤ w.heap.size) :
    ∃ v' w', (Builtin.append_ #[t, tx] ty #[v, x]).run P w = .ok v' w' ∧ w'.ownsRow base e size v' (n + m) (xs ++ news) ∧ w.grownBy w' v.ownBlock ∧ Room bytes v' (n + m) (r - m) ∧ (v'.ownBlock = v.ownBlock ∨ v'.ownBlock = some w.heap.size) := by
  subst hsize
  subst hby
  have hl := hs.newsLen
  have h63' : n + m ≤ 9223372036854775807 := by simp only [maxLen] at h63; omega
  have h63m : n + m ≤ maxLen := by simp only [maxLen] at h63 ⊢; omega
  have hlen : (xs ++ news).length = (n + m) * i.size := by rw [List.length_append, hown.1, hl, Nat.add_mul]
  have grown : ∀ (old : Nat), old < n + m → ∀ (row : Option Nat),
      (w.drew.alloc (.cells ((xs ++ news).toArray ++ Builtin.zeroCells z.cells (grownCap w (n + m) old e - (n + m))) e)).ownsRow base e i.size
        (.slice (some ⟨w.heap.size, 0, none⟩) (n + m) (grownCap w (n + m) old e)) (n + m) (xs ++ news) ∧
      w.grownBy (w.drew.alloc (.cells ((xs ++ news).toArray ++ Builtin.zeroCells z.cells (grownCap w (n + m) old e - (n + m))) e)) row := by
    intro old ho row
    have hge := grownCap_ge w (n + m) old e
    have hcm : grownCap w (n + m) old e ≤ maxLen := grownCap_le_maxLen w (n + m) old e h63m
    refine ⟨⟨hlen, .inr ⟨w.heap.size, _, _, rfl, hbase, heap_alloc_new w.drew _, hge, hcm, ?_, ?_⟩⟩, ⟨rfl, rfl, rfl, by simp, fun k hk _ => Below.heap_alloc w.drew _ k hk⟩⟩
    · simp only [Array.size_append, List.size_toArray, size_zeroCells, hzs, hlen, ← Nat.add_mul]
      congr 1
      omega
    · simp only [Array.toList_append]
      rw [← hlen]
      exact List.take_left
  have bound : ∀ {a cap}, v = .slice a n cap → cap < n + m → (n + r + (n + r) / 4 + 192) * i.bytes ≤ 281474976710656 := by
    intro a cap hv hc
    rcases hroom with ⟨a', cap', hv', hc'⟩ | h
    · rw [hv] at hv'
      simp only [Value.slice.injEq] at hv'
      omega
    · exact h
  rcases hown.2 with ⟨rfl, rfl⟩ | ⟨g, cap, cur, rfl, hbg, hg, hnc, hcm, hcs, htake⟩
  · have hx : xs = [] := List.eq_nil_of_length_eq_zero (by simpa using hown.1)
    subst hx
    by_cases hm0 : m = 0
    · subst hm0
      have hn : news = [] := List.eq_nil_of_length_eq_zero (by simpa using hl)
      subst hn
      exact ⟨.slice none 0 0, w, run_append_nothing w t tx ty e i ht hi x hs, World.ownsRow_nil w base e i.size, World.grownBy.refl w _, by simpa using hroom, .inl rfl⟩
    · have hb := bound rfl (by omega)
      have hr := run_append_grow_src (P := P) w t tx ty e i z ht hi hz none 0 0 [] (by simp [Builtin.firstCells]) x m news hs (by omega) (by omega) (growslice_fits_wide (by omega) (Nat.le_trans (Nat.mul_le_mul_right _ (by omega)) hb))
      have hgr := grown 0 (by omega) (Value.ownBlock (.slice none 0 0))
      simp only [Nat.zero_add, List.nil_append] at hgr hr ⊢
      exact ⟨_, _, hr, hgr.1, hgr.2, .inr (Nat.le_trans (Nat.mul_le_mul_right _ (by omega)) hb), .inr rfl⟩
  · by_cases hrm : n + m ≤ cap
    · have hfit : n * i.size + news.length ≤ cur.size := by rw [hl, hcs, ← Nat.add_mul]; exact Nat.mul_le_mul_right _ hrm
      have hr := run_append_room_src_own (P := P) w t tx ty e i ht hi g n cap cur hg x m news hs hrm hfit
      refine ⟨_, _, hr, ⟨hlen, .inr ⟨g, cap, _, rfl, hbg, setRow_heap w g cur _ e _ hg, hrm, hcm, ?_, ?_⟩⟩, ⟨rfl, rfl, rfl, by simp, fun k _ hk => setRow_other w g k _ (fun e => hk (by simp [Value.ownBlock, e]))⟩, ?_, .inl rfl⟩
      · simp only [List.size_toArray, List.length_append, List.length_take, List.length_drop, Array.length_toList]
        omega
      · rw [htake, ← hlen]
        exact List.take_left
      · rcases hroom with ⟨a, c, hv, hc⟩ | h
        · simp only [Value.slice.injEq] at hv
          exact .inl ⟨_, _, rfl, by omega⟩
        · exact .inr (Nat.le_trans (Nat.mul_le_mul_right _ (by omega)) h)
    · have hb := bound rfl (by omega)
      have holds : ∀ j u, xs[j]? = some u → w.cell? ((⟨g, 0, none⟩ : Addr).add j) = some u := hown.cells (g := g) rfl
      have hr := run_append_grow_src (P := P) w t tx ty e i z ht hi hz (some ⟨g, 0, none⟩) n cap xs (run_firstCells_some w.drew i.size n ⟨g, 0, none⟩ n cap xs hown.1 (by simpa using holds)) x m news hs (by omega) (by omega)
        (growslice_fits_wide (by omega) (Nat.le_trans (Nat.mul_le_mul_right _ (by omega)) hb))
      have hgr := grown cap (by omega) (Value.ownBlock (.slice (some ⟨g, 0, none⟩) n cap))
      exact ⟨_, _, hr, hgr.1, hgr.2, .inr (Nat.le_trans (Nat.mul_le_mul_right _ (by omega)) hb), .inr rfl⟩

theorem wpList_append_at {ops : Array Oper} {rest : List Oper} {o : Oper} {a : Act} {Q : Exit → Act → World → Prop} (hgd : o.guard = none) (s x : Operand) (t tx : TypeId)
    (ho : o.op = .call { callee := .builtin .append, args := #[s, x], argTypes := #[t, tx] })
    (base : Nat) (e : TypeId) (i : TypeInfo) (z : Value) (size bytes : Nat) (ht : P.underlying t = some (.slice e)) (hi : P.info? e = some i) (hz : i.zero = some z)
    (hsize : i.size = size) (hby : i.bytes = bytes) (hzs : z.cells.size = size)
    (v : Value) (n : Nat) (xs : List Value) (hs : a.eval s = v) (hown : w.ownsRow base e size v n xs)
    (xv : Value) (m : Nat) (news : List Value) (hx : a.eval x = xv) (hsrc : Src P size tx xv m news w) (r : Nat) (hroom : Room bytes v n r) (hm : m ≤ r)
    (h63 : n + r ≤ maxLen) (hbase : base ≤ w.heap.size)
    (h : ∀ v' w', w'.ownsRow base e size v' (n + m) (xs ++ news) → w.grownBy w' v.ownBlock → (v'.ownBlock = v.ownBlock ∨ v'.ownBlock = some w.heap.size) → wpList P ops Q rest (a.put o.dst v') w') : wpList P ops Q (o :: rest) a w := by
  refine wpList_plain hgd fun K hK => ?_
  obtain ⟨v', w', hr, h2, h3, _, h4⟩ := run_append_at (P := P) w base t tx o.type e i z size bytes ht hi hz hsize hby hzs v n xs hown xv m news hsrc r hroom hm h63 hbase
  unfold Oper.wp execOp
  simp only [ho, resolve, invoke, builtin, Sem.run_bind, Sem.run_pure, Result.andThen_ok, List.map_toArray, List.map_cons, List.map_nil, hs, hx, hr]
  exact hK _ _ (h v' w' h2 h3 h4)
end
theorem step_append_at {P : Program} (w : World) {ops : Array Oper} {o : Oper} {a : Act} {K : Act → World → Prop} {Q : Exit → Act → World → Prop} {E : Prop} (hgd : o.guard = none) (s x : Operand) (t tx : TypeId)
    (ho : o.op = .call { callee := .builtin .append, args := #[s, x], argTypes := #[t, tx] })
    (base : Nat) (e : TypeId) (i : TypeInfo) (z : Value) (size bytes : Nat) (ht : P.underlying t = some (.slice e)) (hi : P.info? e = some i) (hz : i.zero = some z)
    (hsize : i.size = size) (hby : i.bytes = bytes) (hzs : z.cells.size = size)
    (v : Value) (n : Nat) (xs : List Value) (hs : a.eval s = v) (hown : w.ownsRow base e size v n xs)
    (xv : Value) (m : Nat) (news : List Value) (hx : a.eval x = xv) (hsrc : Src P size tx xv m news w) (r : Nat) (hroom : Room bytes v n r) (hm : m ≤ r)
    (h63 : n + r ≤ maxLen) (hbase : base ≤ w.heap.size)
    (h : ∀ v' w', w'.ownsRow base e size v' (n + m) (xs ++ news) → w.grownBy w' v.ownBlock → (v'.ownBlock = v.ownBlock ∨ v'.ownBlock = some w.heap.size) → K (a.put o.dst v') w') :
    if Region.wanted o (yielded ops a.tmps) = true then Oper.wp P o a w K Q else E := by
  have hw : Region.wanted o (yielded ops a.tmps) = true := by simp [Region.wanted, hgd]
  rw [if_pos hw]
  obtain ⟨v', w', hr, h2, h3, _, h4⟩ := run_append_at (P := P) w base t tx o.type e i z size bytes ht hi hz hsize hby hzs v n xs hown xv m news hsrc r hroom hm h63 hbase
  unfold Oper.wp execOp
  simp only [ho, resolve, invoke, builtin, Sem.run_bind, Sem.run_pure, Result.andThen_ok, List.map_toArray, List.map_cons, List.map_nil, hs, hx, hr]
  exact h v' w' h2 h3 h4

end Go.Proofs.YtpdhmjjmpofphaaDoor

/- Code: what an expression's is, as math; rows of instructions in memory. -/
namespace Go.Proofs.YtpdhmjjmpofphaaDoor
open Go.RowKit Go.Lib
set_option linter.unusedSimpArgs false
set_option linter.unusedVariables false

abbrev Ins := ByteArray × Int
def wPush : ByteArray := ⟨#[112, 117, 115, 104]⟩
def wLoad : ByteArray := ⟨#[108, 111, 97, 100]⟩
def wNot : ByteArray := ⟨#[110, 111, 116]⟩
def wNeg : ByteArray := ⟨#[110, 101, 103]⟩
def wAnd : ByteArray := ⟨#[97, 110, 100]⟩
def wOr : ByteArray := ⟨#[111, 114]⟩
def wBool : ByteArray := ⟨#[98, 111, 111, 108]⟩
/-- The number of the first variable of a name, from k on. -/
def vix (s : ByteArray) : List Vr → Nat → Int
  | [], _ => -1
  | x :: r, k => if x.1 = s then (k : Int) else vix s r (k + 1)
/-- A jump over the right side. -/
def jmpI (j : ByteArray) (a b : List Ins) : List Ins := a ++ [(j, ((b.length + 1 : Nat) : Int))] ++ (b ++ [(wBool, 0)])
def binI (s : ByteArray) (a b : List Ins) : List Ins := if bl s = [38, 38] then jmpI wAnd a b else if bl s = [124, 124] then jmpI wOr a b else a ++ b ++ [(s, 0)]
def cdC (vs : List Vr) : (d : Nat) → T d → List Ins := fold (fun k n s l =>
  if k = 1 then [(wPush, n)] else if k = 2 then [(wLoad, vix s vs 0)] else if k = 3 then l.getD 0 [] ++ [(wNot, 0)] else if k = 4 then l.getD 0 [] ++ [(wNeg, 0)] else if k = 5 then binI s (l.getD 0 []) (l.getD 1 []) else [])
theorem cdC_lit (vs : List Vr) {d : Nat} (n : Int) (s : ByteArray) (ps : List (T d)) : cdC vs (d + 1) (mkT 1 n s ps) = [(wPush, n)] := rfl
theorem cdC_ref (vs : List Vr) {d : Nat} (n : Int) (s : ByteArray) (ps : List (T d)) : cdC vs (d + 1) (mkT 2 n s ps) = [(wLoad, vix s vs 0)] := rfl
theorem cdC_not (vs : List Vr) {d : Nat} (n : Int) (s : ByteArray) (p : T d) : cdC vs (d + 1) (mkT 3 n s [p]) = cdC vs d p ++ [(wNot, 0)] := rfl
theorem cdC_neg (vs : List Vr) {d : Nat} (n : Int) (s : ByteArray) (p : T d) : cdC vs (d + 1) (mkT 4 n s [p]) = cdC vs d p ++ [(wNeg, 0)] := rfl
theorem cdC_bin (vs : List Vr) {d : Nat} (n : Int) (s : ByteArray) (p q : T d) : cdC vs (d + 1) (mkT 5 n s [p, q]) = binI s (cdC vs d p) (cdC vs d q) := rfl
theorem cdC_none (vs : List Vr) {d : Nat} : cdC vs (d + 1) (none0 : T (d + 1)) = [] := rfl
theorem binI_len (s : ByteArray) (a b : List Ins) : (binI s a b).length ≤ a.length + b.length + 2 := by
  unfold binI jmpI
  split
  · simp; omega
  split
  · simp; omega
  · simp; omega
theorem cdC_len (vs : List Vr) : ∀ (d : Nat) (t : T d), Cl d t → (cdC vs d t).length ≤ 2 * cnt d t
  | 0, t, _ => Empty.elim t
  | d + 1, t, h => by
    rcases h.cases with ⟨n, rfl⟩ | ⟨s, rfl⟩ | ⟨k, p, hk, rfl, hp⟩ | ⟨s, p, q, rfl, hp, hq⟩ | rfl
    · rw [cdC_lit, cnt_mk]; simp
    · rw [cdC_ref, cnt_mk]; simp
    · have := cdC_len vs d p hp
      rcases hk with rfl | rfl
      · rw [cdC_not, cnt_mk]; simp; omega
      · rw [cdC_neg, cnt_mk]; simp; omega
    · have h1 := cdC_len vs d p hp
      have h2 := cdC_len vs d q hq
      have h3 := binI_len s (cdC vs d p) (cdC vs d q)
      rw [cdC_bin, cnt_mk]
      simp only [List.map_cons, List.map_nil, List.sum_cons, List.sum_nil]
      omega
    · rw [cdC_none, cnt_none]; simp
theorem vix_ge (s : ByteArray) : ∀ (l : List Vr) (k : Nat), -1 ≤ vix s l k
  | [], _ => by unfold vix; omega
  | x :: r, k => by
    unfold vix
    split
    · omega
    · exact vix_ge s r (k + 1)
theorem vix_lt (s : ByteArray) : ∀ (l : List Vr) (k : Nat), vix s l k < ((k + l.length + 1 : Nat) : Int)
  | [], _ => by unfold vix; simp; omega
  | x :: r, k => by
    unfold vix
    split
    · simp; omega
    · have := vix_lt s r (k + 1)
      simp only [List.length_cons]
      omega
/-- The cells of instructions. -/
def celI (l : List Ins) : List Value := l.flatMap (fun x => [.string x.1, .int .i64 x.2])
theorem celI_app (a b : List Ins) : celI (a ++ b) = celI a ++ celI b := List.flatMap_append
theorem celI_one (l : List Ins) : ∀ u ∈ celI l, u.oneCell' = true := fun u hu => by
  obtain ⟨x, _, hx⟩ := List.mem_flatMap.1 hu
  simp only [List.mem_cons, List.not_mem_nil, or_false] at hx
  rcases hx with rfl | rfl <;> rfl
theorem celI_at : ∀ (l : List Ins) (i : Nat) (h : i < l.length), (celI l)[i * 2]? = some (.string (l[i]).1) ∧ (celI l)[i * 2 + 1]? = some (.int .i64 (l[i]).2)
  | [], i, h => by simp at h
  | x :: r, 0, _ => ⟨rfl, rfl⟩
  | x :: r, i + 1, h => by
    have := celI_at r i (by simpa using h)
    rw [show (i + 1) * 2 = i * 2 + 2 by omega, show i * 2 + 2 + 1 = i * 2 + 1 + 2 by omega]
    exact this
/-- The row v of the type e is the call's own from block base on, and holds these instructions. -/
def OwnI (w : World) (base : Nat) (e : TypeId) (v : Value) (l : List Ins) : Prop := w.ownsRow base e 2 v l.length (celI l)
theorem ownI_nil (w : World) (base : Nat) (e : TypeId) : OwnI w base e (.slice none 0 0) [] := World.ownsRow_nil w base e 2
theorem OwnI.form {w : World} {base : Nat} {e : TypeId} {v : Value} {l : List Ins} (h : OwnI w base e v l) : ∃ a cap, v = .slice a l.length cap ∧ l.length ≤ cap ∧ cap ≤ maxLen := by
  rcases h.2 with ⟨h1, h2⟩ | ⟨g, cap, cur, h1, _, _, h3, h4, _⟩
  · exact ⟨none, 0, by rw [h1, h2], by omega, by simp [maxLen]⟩
  · exact ⟨_, _, h1, h3, h4⟩
theorem OwnI.lt {w : World} {base : Nat} {e : TypeId} {v : Value} {l : List Ins} (h : OwnI w base e v l) : ∀ g, v.ownBlock = some g → base ≤ g ∧ g < w.heap.size := ownsRow_lt h
theorem OwnI.keep {w w' : World} {base : Nat} {e : TypeId} {v : Value} {l : List Ins} (h : OwnI w base e v l) (hk : ∀ g, v.ownBlock = some g → w'.heap[g]? = w.heap[g]?) : OwnI w' base e v l := ownsRow_keep h hk
theorem OwnI.on {w w' : World} {base : Nat} {e : TypeId} {v : Value} {l : List Ins} (h : OwnI w base e v l) (hb : Below w.heap.size w w') : OwnI w' base e v l := h.keep (fun g hg => hb.block g (h.lt g hg).2)
theorem OwnI.low {w : World} {base lo : Nat} {e : TypeId} {v : Value} {l : List Ins} (h : OwnI w base e v l) (hlo : lo ≤ base) : OwnI w lo e v l := by
  refine ⟨h.1, ?_⟩
  rcases h.2 with h1 | ⟨g, cap, cur, h1, h2, h3⟩
  · exact .inl h1
  · exact .inr ⟨g, cap, cur, h1, by omega, h3⟩
theorem OwnI.src {w : World} {base : Nat} {e tx : TypeId} {v : Value} {l : List Ins} (h : OwnI w base e v l) (ht : Tryd.prog.underlying tx = some (.slice e)) : Src Tryd.prog 2 tx v l.length (celI l) w := by
  have hc := fun g => World.ownsRow.cells h (g := g)
  rcases h.2 with ⟨rfl, hn⟩ | ⟨g, cap, cur, rfl, hb, hg, hnc, hcm, hcs, htake⟩
  · have hx : l = [] := List.eq_nil_of_length_eq_zero hn
    subst hx
    exact Src.ofNil w ht 0
  · exact Src.ofSlice w ht _ l.length cap (celI l) h.1 (hc g rfl) (celI_one l)
theorem OwnI.at {w : World} {base : Nat} {e : TypeId} {a : Option Addr} {n c : Nat} {l : List Ins} (h : OwnI w base e (.slice a n c) l) (i : Nat) (hi : i < l.length) : ∃ g, a = some ⟨g, 0, none⟩ ∧ g < w.heap.size ∧ w.cell? ⟨g, i * 2, none⟩ = some (.string (l[i]).1) ∧ w.cell? ⟨g, i * 2 + 1, none⟩ = some (.int .i64 (l[i]).2) := by
  have hc := fun g => World.ownsRow.cells h (g := g)
  rcases h.2 with ⟨_, hn⟩ | ⟨g, cap, cur, he, hb, hg, hnc, hcm, hcs, htake⟩
  · omega
  · simp only [Value.slice.injEq] at he
    obtain ⟨rfl, rfl, rfl⟩ := he
    obtain ⟨k1, k2⟩ := celI_at l i hi
    have h1 := hc g rfl _ _ k1
    have h2 := hc g rfl _ _ k2
    rw [add_plain, Nat.zero_add] at h1 h2
    exact ⟨g, rfl, (Array.getElem?_eq_some_iff.1 hg).1, h1, h2⟩
/-- One that was built. -/
theorem ownI_new (w : World) (e : TypeId) (s : ByteArray) (n : Int) (base : Nat) (hb : base ≤ w.heap.size) : OwnI (w.alloc (.cells #[.string s, .int .i64 n] e)) base e (.slice (some ⟨w.heap.size, 0, none⟩) 1 1) [(s, n)] :=
  ⟨rfl, .inr ⟨w.heap.size, 1, #[.string s, .int .i64 n], rfl, hb, heap_alloc_new w _, by simp, by simp [maxLen], by simp, by simp [celI]⟩⟩
theorem srcI_new {tx e : TypeId} (ht : Tryd.prog.underlying tx = some (.slice e)) (w : World) (s : ByteArray) (n : Int) : Src Tryd.prog 2 tx (.slice (some ⟨w.heap.size, 0, none⟩) 1 1) 1 (celI [(s, n)]) (w.alloc (.cells #[.string s, .int .i64 n] e)) := (ownI_new w e s n 0 (Nat.zero_le _)).src ht

/-- What a range tells of a rune. -/
def rn (r : Int) : Int := if r = -1 then 65533 else r
theorem letter_rn (r : Int) : letter (rn r) = letter r := by
  unfold rn
  split
  · rename_i h; subst h; decide
  · rfl
theorem insd_rn (r : Int) : insd (rn r) = insd r := by
  unfold rn
  split
  · rename_i h; subst h; decide
  · rfl
theorem dec_nx {s : ByteArray} {pos : Nat} (h : pos < s.size) : ((Utf8.decode s pos).1 : Int) = rn (nx ((bl s).drop pos)).1 ∧ (Utf8.decode s pos).2 = (nx ((bl s).drop pos)).2 := by
  have hne := drop_ne (l := bl s) (k := pos) (by rw [bl_length]; exact h)
  have hd : decodeL ((bl s).drop pos) = Utf8.decode s pos := decodeL_drop s pos
  refine ⟨?_, by rw [nx_size hne, hd]⟩
  unfold nx rn
  rw [if_neg hne, hd]
  by_cases hc : (Utf8.decode s pos).1 = 65533 ∧ (Utf8.decode s pos).2 ≤ 1
  · rw [if_pos hc, if_pos rfl, hc.1]; rfl
  · rw [if_neg hc, if_neg (by simp only; omega)]

/-- m runes, of k bytes, lie behind us. -/
structure Gone (l : List UInt8) (m k : Nat) : Prop where
  le : k ≤ l.length
  left : runes (l.drop k) = (runes l).drop m
  size : (byt ((runes l).take m)).length = k
  few : m ≤ k
theorem Gone.zero (l : List UInt8) : Gone l 0 0 := ⟨by omega, rfl, rfl, by omega⟩
theorem Gone.step {l : List UInt8} {m k : Nat} (h : Gone l m k) (hk : k < l.length) : Gone l (m + 1) (k + (nx (l.drop k)).2) := by
  have hne := drop_ne hk
  have hc := runes_cons hne
  have hle := nx_le hne
  have hps := nx_pos hne
  rw [List.length_drop] at hle
  have hd : (runes l).drop m = ((nx (l.drop k)).1, (l.drop k).take (nx (l.drop k)).2) :: runes ((l.drop k).drop (nx (l.drop k)).2) := by rw [← h.left, hc]
  have hd1 : (runes l).drop (m + 1) = runes (l.drop (k + (nx (l.drop k)).2)) := by
    have := congrArg List.tail hd
    rw [List.tail_drop, List.tail_cons, List.drop_drop] at this
    exact this
  refine ⟨by omega, hd1.symm, ?_, by have := h.few; omega⟩
  have e1 := byt_split (runes l) (m + 1)
  rw [hd1, byt_runes _ _ (Nat.le_refl _), byt_runes _ _ (Nat.le_refl _), List.length_drop] at e1
  omega
theorem Gone.take {l : List UInt8} {m k : Nat} (h : Gone l m k) (hk : k < l.length) : (runes l).take (m + 1) = (runes l).take m ++ [((nx (l.drop k)).1, (l.drop k).take (nx (l.drop k)).2)] := by
  have hc := runes_cons (drop_ne hk)
  rw [h.left] at hc
  have hlt : m < (runes l).length := by
    rcases Nat.lt_or_ge m (runes l).length with h1 | h1
    · exact h1
    · rw [List.drop_eq_nil_of_le h1] at hc; cases hc
  rw [List.take_succ_eq_append_getElem hlt]
  rw [List.drop_eq_getElem_cons hlt] at hc
  rw [(List.cons.inj hc).1]

theorem pLetter_any (r : Int) (w : World) : Calls Tryd.prog 61 #[.int .i32 r] w fun e w' => e = .returned (.bool (letter r)) ∧ w = w' := by
  rw [letter_eq]
  go_enter Tryd.func61, Tryd.ntmps61
  go_wp2
  all_goals go_ret
  all_goals (refine ⟨ret_bool ?_, rfl⟩; first | rfl | (rw [Bool.eq_iff_iff]; simp; omega) | (rw [Bool.eq_iff_iff]; simp [*]; omega))
theorem pDigit_any (r : Int) (w : World) : Calls Tryd.prog 70 #[.int .i32 r] w fun e w' => e = .returned (.bool (dgt r)) ∧ w = w' := by
  rw [dgt_eq]
  go_enter Tryd.func70, Tryd.ntmps70
  go_wp2
  all_goals go_ret
  all_goals (refine ⟨ret_bool ?_, rfl⟩; first | rfl | (rw [Bool.eq_iff_iff]; simp; omega) | (rw [Bool.eq_iff_iff]; simp [*]; omega))
theorem pInside_any (r : Int) (w : World) : Calls Tryd.prog 60 #[.int .i32 r] w fun e w' => e = .returned (.bool (insd r)) ∧ w = w' := by
  have h1 := pLetter_any r w
  have h2 := pDigit_any r w
  have h3 : insd r = (letter r || dgt r || r == 95) := rfl
  rw [h3]
  cases ha : letter r <;> rw [ha] at h1
  · cases hb : dgt r <;> rw [hb] at h2
    · go_enter Tryd.func60, Tryd.ntmps60
      go_wp2_with (first
        | (go_at_call 61; refine h1.mono ?_; rintro e w' ⟨rfl, rfl⟩)
        | (go_at_call 70; refine h2.mono ?_; rintro e w' ⟨rfl, rfl⟩))
      go_ret
      exact ⟨ret_bool (by simp), rfl⟩
    · go_enter Tryd.func60, Tryd.ntmps60
      go_wp2_with (first
        | (go_at_call 61; refine h1.mono ?_; rintro e w' ⟨rfl, rfl⟩)
        | (go_at_call 70; refine h2.mono ?_; rintro e w' ⟨rfl, rfl⟩))
      go_ret
      exact ⟨ret_bool (by simp), rfl⟩
  · go_enter Tryd.func60, Tryd.ntmps60
    go_wp2_with (first
      | (go_at_call 61; refine h1.mono ?_; rintro e w' ⟨rfl, rfl⟩)
      | (go_at_call 70; refine h2.mono ?_; rintro e w' ⟨rfl, rfl⟩))
    go_ret
    exact ⟨ret_bool (by simp), rfl⟩


theorem nameS_short {l : List UInt8} (h : spb l ≠ l.length) : nameS l = false := by
  unfold nameS
  have : ((spb l : Int) == (l.length : Int)) = false := beq_eq_false_iff_ne.2 (by omega)
  rw [this]; simp
theorem nameS_head {l : List UInt8} (h : letter (nx l).1 = false) : nameS l = false := by
  unfold nameS
  rw [h]; simp
theorem nameS_all {l : List UInt8} {m : Nat} (h1 : letter (nx l).1 = true) (h2 : spb l = l.length) (h3 : spn (runes l) = m) : nameS l = decide ((m : Int) ≤ 24) := by
  unfold nameS
  rw [h1, h2, h3]
  rw [Bool.eq_iff_iff]
  simp
  omega

set_option maxHeartbeats 1000000 in
theorem pName_any (s : ByteArray) (w : World) (hs : s.size ≤ 140737488351232) :
    Calls Tryd.prog 43 #[.string s] w fun e w' => e = .returned (.bool (nameS (bl s))) ∧ Below w.heap.size w w' := by
  go_enter Tryd.func43, Tryd.ntmps43
  go_wp2
  go_loopw [3] (fun c wr => ∃ (m k : Nat), c = .int .i64 (m : Int) ∧ wr.heap[w.heap.size]? = some (.stringIter s k) ∧ Hid (Adv (bl s) m k) ∧ (m = 0 → k = 0) ∧ Hid (0 < m → letter (nx (bl s)).1 = true) ∧ Below w.heap.size w wr) (fun _ wr => s.size - wr.iterPos w.heap.size)
  case atStart => exact ⟨0, 0, rfl, World.iter_heap w s 0, Adv.zero _, fun _ => rfl, fun h => by omega, (Below.refl _ w).alloc (Nat.le_refl _) _⟩
  case round =>
    obtain ⟨m, k, rfl, hit, ha, hm0, hlt, hb⟩ := hrel
    have hle := ha.out.le
    have hfw := ha.out.few
    rw [bl_length] at hle
    by_cases hk : k < s.size
    · have hnx : ∀ ty, (Instr.next (.pointer (some ⟨w.heap.size, 0, none⟩)) true ty).run Tryd.prog wr = _ := fun ty => Lib.run_next_any_at wr w.heap.size s k ty hit hk
      obtain ⟨d1, d2⟩ := dec_nx hk
      have hne := drop_ne (l := bl s) (by rw [bl_length]; exact hk)
      have hps := nx_pos hne
      have hnl := nx_le hne
      rw [List.length_drop, bl_length] at hnl
      obtain ⟨r, hr⟩ : ∃ r, (nx ((bl s).drop k)).1 = r := ⟨_, rfl⟩
      obtain ⟨q, hq⟩ : ∃ q, (nx ((bl s).drop k)).2 = q := ⟨_, rfl⟩
      rw [hr] at d1
      rw [hq] at d2 hps hnl
      rw [d1, d2] at hnx
      have hit2 := Lib.iterAt_heap wr w.heap.size s k (k + q) hit
      have hb2 := Lib.below_iterAt hb (k := w.heap.size) (Nat.le_refl _) s (k + q)
      have h26 := fun w1 => pInside_any (rn r) w1
      have h27 := fun w1 => pLetter_any (rn r) w1
      rw [insd_rn] at h26
      rw [letter_rn] at h27
      cases hi : insd r with
      | true =>
        rw [hi] at h26
        have hA : Hid (Adv (bl s) (m + 1) (k + q)) := by have := ha.out.step (by rw [bl_length]; exact hk) (by rw [hr]; exact hi); rw [hq] at this; exact this
        by_cases hmz : m = 0
        · have e0 : ((m : Int) == 0) = true := by simp; omega
          have hk0 := hm0 hmz
          have hrr : (nx (bl s)).1 = r := by rw [← hr, hk0]; rfl
          cases hl : letter r with
          | true =>
            rw [hl] at h27
            have hL : Hid (0 < m + 1 → letter (nx (bl s)).1 = true) := fun _ => by rw [hrr]; exact hl
            clear hr hq hne hi d1 d2 hrr hl hm0 hmz hk0
            go_wp2_with (first
              | (go_at_call 60; refine (h26 _).mono ?_; rintro e w' ⟨rfl, rfl⟩)
              | (go_at_call 61; refine (h27 _).mono ?_; rintro e w' ⟨rfl, rfl⟩))
            go_roundw
            case rel => exact ⟨m + 1, k + q, by go_num, hit2, hA, fun h => by omega, hL, hb2⟩
            case measure => rw [iterPos_of hit2, iterPos_of hit]; omega
          | false =>
            rw [hl] at h27
            have hF : Hid (nameS (bl s) = false) := nameS_head (by rw [hrr]; exact hl)
            clear hr hq hne hi d1 d2 hrr hl hm0 hmz hk0
            go_wp2_with (first
              | (go_at_call 60; refine (h26 _).mono ?_; rintro e w' ⟨rfl, rfl⟩)
              | (go_at_call 61; refine (h27 _).mono ?_; rintro e w' ⟨rfl, rfl⟩))
            go_ret
            rw [hF.out]
            exact ⟨rfl, hb2⟩
        · have e0 : ((m : Int) == 0) = false := beq_eq_false_iff_ne.2 (by omega)
          have hL : Hid (0 < m + 1 → letter (nx (bl s)).1 = true) := fun _ => hlt.out (by omega)
          clear hr hq hne hi d1 d2 hm0 hmz
          go_wp2_with (first
            | (go_at_call 60; refine (h26 _).mono ?_; rintro e w' ⟨rfl, rfl⟩))
          go_roundw
          case rel => exact ⟨m + 1, k + q, by go_num, hit2, hA, fun h => by omega, hL, hb2⟩
          case measure => rw [iterPos_of hit2, iterPos_of hit]; omega
      | false =>
        rw [hi] at h26
        have hE : Hid (spn (runes (bl s)) = m) := ha.out.stop (.inr (by rw [hr]; exact hi))
        have hZ : Hid (spb (bl s) = k) := by show spb (bl s) = k; unfold spb; rw [hE.out]; exact ha.out.size
        have hF : Hid (nameS (bl s) = false) := nameS_short (by rw [hZ.out, bl_length]; omega)
        clear hr hq hne hi d1 d2 hm0
        go_wp2_with (first
          | (go_at_call 60; refine (h26 _).mono ?_; rintro e w' ⟨rfl, rfl⟩))
        go_ret
        rw [hF.out]
        exact ⟨rfl, hb2⟩
    · have hnx : ∀ ty, (Instr.next (.pointer (some ⟨w.heap.size, 0, none⟩)) true ty).run Tryd.prog wr = _ := fun ty => Lib.run_next_end_at wr w.heap.size s k ty hit hk
      have hE : Hid (spn (runes (bl s)) = m) := ha.out.stop (.inl (by rw [bl_length]; omega))
      have hZ : Hid (spb (bl s) = k) := by show spb (bl s) = k; unfold spb; rw [hE.out]; exact ha.out.size
      have hks : k = s.size := by omega
      by_cases hmz : m = 0
      · have hF : Hid (nameS (bl s) = false) := by
          have : bl s = [] := List.eq_nil_of_length_eq_zero (by rw [bl_length]; have := hm0 hmz; omega)
          show nameS (bl s) = false
          rw [this]; rfl
        subst hmz
        clear hm0
        go_wp2
        go_ret
        rw [hF.out]
        exact ⟨rfl, hb⟩
      · have hF : Hid (nameS (bl s) = decide ((m : Int) ≤ 24)) := nameS_all (hlt.out (by omega)) (by rw [hZ.out, hks]; rfl) hE.out
        have e1 : (1 : Int) ≤ (m : Int) := by omega
        clear hm0
        go_wp2
        all_goals go_ret
        all_goals rw [hF.out]
        all_goals exact ⟨rfl, hb⟩



abbrev ps (a b : Int) : Value := .agg #[.int .i64 a, .int .i64 b]
/-- A string's iterator. -/
def It0 (w : World) (k : Nat) (s : ByteArray) (p : Nat) : Prop := w.heap[k]? = some (.stringIter s p)
theorem It0.keepB {w w' : World} {k B : Nat} {s : ByteArray} {p : Nat} (h : It0 w k s p) (hb : Below B w w') (hB : k < B) : It0 w' k s p := (hb.block k hB).trans h
theorem It0.lt {w : World} {k : Nat} {s : ByteArray} {p : Nat} (h : It0 w k s p) : k < w.heap.size := (Array.getElem?_eq_some_iff.1 h).1
theorem It0.keep {w w' : World} {k : Nat} {s : ByteArray} {p : Nat} (h : It0 w k s p) (hb : Below w.heap.size w w') : It0 w' k s p := h.keepB hb h.lt
theorem It0.set {w : World} {k X i : Nat} {s : ByteArray} {p : Nat} (h : It0 w k s p) (hne : X ≠ k) (v : Value) : It0 (w.setCell ⟨X, i, none⟩ v) k s p := by
  unfold It0
  rw [Below.heap_setCell _ _ _ _ (fun e => hne e.symm)]
  exact h

end Go.Proofs.YtpdhmjjmpofphaaDoor

/- What strings.Clone does: the same bytes. -/
namespace Go.Proofs.YtpdhmjjmpofphaaDoor
open Go.Shelf Go.RowKit Go.Lib
set_option linter.unusedSimpArgs false
set_option linter.unusedVariables false

def renC : Ren := { f := fun x => match x with | 316 => 45 | n => n, t := fun x => match x with | 9 => 9 | 3 => 3 | 4 => 4 | 37 => 109 | 0 => 0 | 127 => 110 | 5 => 5 | n => n, g := fun x => x }
theorem laysC : LaysM.n316 Tryd.prog renC :=
  { mixed := by kernel_rfl, f316 := Tryd.func45.trans (congrArg some (by kernel_rfl)),
    t0 := Tryd.underlying0, a0 := Tryd.isAgg0, z0 := Tryd.sizeOf0, v0 := Tryd.zeroValue0, t3 := Tryd.underlying3, a3 := Tryd.isAgg3, z3 := Tryd.sizeOf3, v3 := Tryd.zeroValue3, t4 := Tryd.underlying4, a4 := Tryd.isAgg4, z4 := Tryd.sizeOf4, v4 := Tryd.zeroValue4,
    t9 := Tryd.underlying9, a9 := Tryd.isAgg9, z9 := Tryd.sizeOf9, v9 := Tryd.zeroValue9, t37 := Tryd.underlying109, a37 := Tryd.isAgg109, z37 := Tryd.sizeOf109, v37 := Tryd.zeroValue109,
    t127 := Tryd.underlying110, a127 := Tryd.isAgg110, z127 := Tryd.sizeOf110, v127 := Tryd.zeroValue110, t5 := Tryd.underlying5, a5 := Tryd.isAgg5, z5 := Tryd.sizeOf5, v5 := Tryd.zeroValue5,
    i0 := by kernel_rfl, i3 := by kernel_rfl, i4 := by kernel_rfl, i5 := by kernel_rfl, i9 := by kernel_rfl, i37 := by kernel_rfl, i127 := by kernel_rfl }
theorem pClone_any (s : ByteArray) (w : World) (hs : s.size ≤ 140737488351232) :
    Calls Tryd.prog 36 #[.string s] w fun e w' => e = .returned (.string s) ∧ Below w.heap.size w w' := by
  have h1 : Calls Tryd.prog 45 #[.string s] w fun e w' => e = .returned (.string s) ∧ Below w.heap.size w w' := Any.stringslite_Clone laysC s w (by omega)
  go_enter Tryd.func36, Tryd.ntmps36
  go_wp2_with (first
    | (go_at_call 45; refine h1.mono ?_; rintro e w1 ⟨rfl, b1⟩))
  go_ret
  exact ⟨rfl, b1⟩

end Go.Proofs.YtpdhmjjmpofphaaDoor

/- Trees made deeper. Math alone. -/
namespace Go.Proofs.YtpdhmjjmpofphaaDoor
set_option linter.unusedSimpArgs false
set_option linter.unusedVariables false

end Go.Proofs.YtpdhmjjmpofphaaDoor

/- When two trees are the same. Math alone. -/
namespace Go.Proofs.YtpdhmjjmpofphaaDoor
open Go.RowKit Go.Lib
set_option linter.unusedSimpArgs false
set_option linter.unusedVariables false


/-- An expression, with its depth. -/
abbrev Sx := (d : Nat) × T d
/-- A function of expressions, by what it makes of a node and of its parts. -/
def foldS {α : Type} (f : Int → Int → ByteArray → List α → α) (x : Sx) : α := fold f x.1 x.2
def ClX (x : Sx) : Prop := Cl x.1 x.2
/-- The nodes, each ahead of its parts, with their number. -/
def enc : (d : Nat) → T d → List (Int × Int × ByteArray × Nat) := fold (fun k n s l => (k, n, s, l.length) :: l.flatten)

/-- A word: its kind, and its bytes. -/
abbrev Tk := Nat × List UInt8
/-- How strongly an operator binds; 0: it is none. -/
def lv (s : List UInt8) : Nat := if s = [124, 124] then 1 else if s = [38, 38] then 2 else if s = [60] ∨ s = [60, 61] ∨ s = [61, 61] ∨ s = [33, 61] then 3 else if s = [43] ∨ s = [45] then 4 else if s = [42] then 5 else 0
section
variable (nb : List UInt8 → Int) (rsv : List UInt8 → Bool) (l : List Tk)
end

/-- All folds take it for the same. -/
def Alk (x : Sx) {d : Nat} (t : T d) : Prop := (∀ (α : Type) (g : Int → Int → ByteArray → List α → α), foldS g x = fold g d t) ∧ (Cl d t → ClX x)
theorem Alk.of {d : Nat} (t : T d) : Alk ⟨d, t⟩ t := ⟨fun _ _ => rfl, id⟩
section
variable {nb : List UInt8 → Int} {rsv : List UInt8 → Bool} {l : List Tk}
variable {dc : Int → List UInt8}
end

section
variable (leaf : Tk → Option Sx)
end
section
variable {leaf : Tk → Option Sx} {l : List Tk}
end
section
variable {nb : List UInt8 → Int} {rsv : List UInt8 → Bool} {l : List Tk}
end

/-- What stands behind: nothing, a blank or a bracket. -/
def Post (post : List UInt8) : Prop := post = [] ∨ ∃ c r, post = c :: r ∧ (c = 32 ∨ c = 41 ∨ c = 10)
theorem Post.fst {a post : List UInt8} (ha : a ≠ []) (h : Post post) : runes (a ++ post) = runes a ++ runes post ∧ fst1 (runes a ++ runes post) = fst1 (runes a) := by
  rcases h with rfl | ⟨c, r, rfl, hc⟩
  · rw [List.append_nil, runes_nil, List.append_nil]; exact ⟨rfl, rfl⟩
  · have hc8 : c.toNat < 128 := by rcases hc with rfl | rfl | rfl <;> decide
    have hr := runes_stop a.length a (Nat.le_refl _) hc8 r
    have hne : runes a ≠ [] := by rw [runes_cons ha]; simp
    refine ⟨hr, ?_⟩
    rw [runes_ascii hc8]
    refine fst1_stop ?_ _ _ hne
    rcases hc with rfl | rfl | rfl
    · exact ⟨by decide, by decide, by decide, by decide⟩
    · exact ⟨by decide, by decide, by decide, by decide⟩
    · exact ⟨by decide, by decide, by decide, by decide⟩



/-- The runes are one word of this kind, and no more. -/
structure OneW (K : Nat) (seg : List Ru) : Prop where
  k : K ≠ 0
  f : fst1 seg = (K, seg.length)
  g : ∀ v ∈ seg, Good v
  h : ∃ v t, seg = v :: t ∧ v.1 ≠ 10 ∧ v.1 ≠ 32 ∧ v.1 ≠ 9 ∧ v.1 ≠ 35
  l : (byt seg).length ≤ 12000
theorem OneW.runes {K : Nat} {seg : List Ru} (h : OneW K seg) : runes (byt seg) = seg := by
  have := runes_goods seg [] h.g
  rw [List.append_nil, runes_nil, List.append_nil] at this
  exact this
/-- A word's text has that word alone. -/
theorem OneW.words {K : Nat} {seg : List Ru} (h : OneW K seg) : wordsS (byt seg) = ([(K, seg, 1, 1)], (0, 0), 0) := by
  have hr := h.runes
  have hl := h.l
  have hf := h.f
  have hk := h.k
  unfold wordsS
  rw [if_neg (by omega), hr]
  obtain ⟨v, t, e, h1, h2, h3, h4⟩ := h.h
  rw [e] at hf ⊢
  rw [wrds_cons, if_neg h1, if_neg (fun q => q.elim h2 h3), if_neg h4, hf, if_neg hk, if_neg (by decide), List.take_length, List.drop_length, wrds_nil]
  rfl
theorem OneW.kind {K : Nat} {seg : List Ru} (h : OneW K seg) : (K = 1 ∧ nameS (byt seg) = true) ∨ (K = 2 ∧ numB (byt seg) = true) ∨ (K = 3 ∧ ∃ v t, seg = v :: t ∧ letter v.1 = false ∧ dgt v.1 = false) := by
  have hr := h.runes
  have hf := h.f
  have hk := h.k
  obtain ⟨v, t, e, _⟩ := h.h
  have hbne : byt seg ≠ [] := fun e0 => by rw [e0, runes_nil] at hr; rw [← hr] at e; cases e
  have hnx : (nx (byt seg)).1 = v.1 := by
    have := runes_cons hbne
    rw [hr, e] at this
    injection this with h1 _
    rw [e]
    exact (congrArg Prod.fst h1).symm
  rw [e, fst1_cons, ← e] at hf
  by_cases a : letter v.1 = true
  · rw [if_pos a] at hf
    by_cases b : spn seg ≤ 24
    · rw [if_pos b] at hf
      injection hf with h1 h2
      left
      refine ⟨h1.symm, ?_⟩
      unfold nameS
      have hs : spb (byt seg) = (byt seg).length := by unfold spb; rw [hr, h2, List.take_length]
      rw [hnx, a, hs, hr, decide_eq_true b]; simp
    · rw [if_neg b] at hf
      injection hf with h1 _
      exact absurd h1.symm hk
  · rw [if_neg a] at hf
    by_cases d : dgt v.1 = true
    · rw [if_pos d] at hf
      by_cases b : numb (seg.take (spn seg)) = true
      · rw [if_pos b] at hf
        injection hf with h1 h2
        right; left
        refine ⟨h1.symm, ?_⟩
        rw [h2, List.take_length] at b
        rw [numB_numb (l := byt seg) seg (fun v hv => by rw [hr]; exact hv)]
        exact b
      · rw [if_neg b] at hf
        injection hf with h1 _
        exact absurd h1.symm hk
    · rw [if_neg d] at hf
      by_cases b : sgn seg = 0
      · rw [if_pos b] at hf
        injection hf with h1 _
        exact absurd h1.symm hk
      · rw [if_neg b] at hf
        injection hf with h1 _
        right; right
        exact ⟨h1.symm, v, t, e, by simpa using a, by simpa using d⟩
section
variable {nb : List UInt8 → Int} {rsv : List UInt8 → Bool} {l : List Tk} {Q : Nat → Nat → Sx → Prop}
end

/-- Nothing but block X has turned, and new blocks. -/
abbrev Fx (X : Nat) (w w' : World) : Prop := w.grownBy w' (some X)
theorem Fx.refl (X : Nat) (w : World) : Fx X w w := ⟨rfl, rfl, rfl, Nat.le_refl _, fun _ _ _ => rfl⟩
theorem Fx.trans {X : Nat} {a b c : World} (h : Fx X a b) (k : Fx X b c) : Fx X a c :=
  ⟨k.os.trans h.os, k.tape.trans h.tape, k.output.trans h.output, Nat.le_trans h.size k.size, fun j hj hne => (k.block j (Nat.lt_of_lt_of_le hj h.size) hne).trans (h.block j hj hne)⟩
theorem Fx.of {X B : Nat} {a b : World} (h : Below B a b) (hB : a.heap.size ≤ B) : Fx X a b := ⟨h.os, h.tape, h.output, h.size, fun k hk _ => h.block k (by omega)⟩
theorem Fx.setX {X i : Nat} {a b : World} (h : Fx X a b) (u : Value) : Fx X a (b.setCell ⟨X, i, none⟩ u) :=
  ⟨h.os, h.tape, h.output, by simpa using h.size, fun k hk hne => (Below.heap_setCell _ _ _ _ (fun e => hne (congrArg some e))).trans (h.block k hk hne)⟩
theorem Fx.drewN {X : Nat} {a b : World} (h : Fx X a b) (m : Nat) : Fx X a (b.drewN m) := ⟨h.os, h.tape, h.output, h.size, h.block⟩
theorem Fx.drew {X : Nat} {a b : World} (h : Fx X a b) : Fx X a b.drew := ⟨h.os, h.tape, h.output, h.size, h.block⟩
theorem Fx.alloc {X : Nat} {a b : World} (h : Fx X a b) (o : Obj) : Fx X a (b.alloc o) := h.trans (Fx.of ((Below.refl b.heap.size b).alloc (Nat.le_refl _) o) (Nat.le_refl _))
theorem Fx.below {X : Nat} {a b : World} (h : Fx X a b) {B : Nat} (hB : B ≤ X) (hs : B ≤ a.heap.size) : Below B a b := ⟨h.os, h.tape, h.output, h.size, fun k hk => h.block k (by omega) (fun e => by have : k = X := Option.some.inj e; omega)⟩
/-- The words, in memory apart from X. -/
def RdL (w : World) (X : Nat) (a : Option Addr) (ws : List Wd) : Prop := ∀ (i : Nat) (hi : i < ws.length), ∃ g off, a = some ⟨g, off, none⟩ ∧ g < X ∧ w.cell? ⟨g, off + i * 4, none⟩ = some (.int .i64 ((ws[i]).1 : Int)) ∧ w.cell? ⟨g, off + i * 4 + 1, none⟩ = some (.string (txt (ws[i]).2.1)) ∧ w.cell? ⟨g, off + i * 4 + 2, none⟩ = some (.int .i64 (ws[i]).2.2.1) ∧ w.cell? ⟨g, off + i * 4 + 3, none⟩ = some (.int .i64 (ws[i]).2.2.2)
theorem RdL.fx {w w' : World} {X : Nat} {a : Option Addr} {ws : List Wd} (h : RdL w X a ws) (hX : X < w.heap.size) (hf : Fx X w w') : RdL w' X a ws := fun i hi => by
  obtain ⟨g, off, h1, h3, c0, c1, c2, c3⟩ := h i hi
  have hb : w'.heap[g]? = w.heap[g]? := hf.block g (by omega) (fun e => by have : g = X := Option.some.inj e; omega)
  have hc : ∀ j, w'.cell? ⟨g, j, none⟩ = w.cell? ⟨g, j, none⟩ := fun j => World.cell?_of_block (w := w) (a := ⟨g, j, none⟩) hb
  exact ⟨g, off, h1, h3, (hc _).trans c0, (hc _).trans c1, (hc _).trans c2, (hc _).trans c3⟩
/-- The reader in block X. -/
structure Rr (w : World) (X : Nat) (a : Option Addr) (cap : Nat) (ws : List Wd) (n : Nat) (b : Int) : Prop where
  c0 : w.cell? ⟨X, 0, none⟩ = some (.slice a ws.length cap)
  c1 : w.cell? ⟨X, 1, none⟩ = some (.int .i64 (n : Int))
  c2 : w.cell? ⟨X, 2, none⟩ = some (.int .i64 b)
  f1 : w.frozen? ⟨X, 1, none⟩ = false
  f2 : w.frozen? ⟨X, 2, none⟩ = false
  l : RdL w X a ws
theorem Rr.lt {w : World} {X : Nat} {a : Option Addr} {cap : Nat} {ws : List Wd} {n : Nat} {b : Int} (h : Rr w X a cap ws n b) : X < w.heap.size := World.block_lt_of_cell? w _ h.c0
theorem Rr.on {w w' : World} {X : Nat} {a : Option Addr} {cap : Nat} {ws : List Wd} {n : Nat} {b : Int} (h : Rr w X a cap ws n b) (hb : Below w.heap.size w w') : Rr w' X a cap ws n b := by
  have hX := h.lt
  have hc : ∀ i, w'.cell? ⟨X, i, none⟩ = w.cell? ⟨X, i, none⟩ := fun i => hb.cell (p := ⟨X, i, none⟩) hX
  have hf : ∀ i, w'.frozen? ⟨X, i, none⟩ = w.frozen? ⟨X, i, none⟩ := fun i => hb.frozen (p := ⟨X, i, none⟩) hX
  exact ⟨(hc 0).trans h.c0, (hc 1).trans h.c1, (hc 2).trans h.c2, (hf 1).trans h.f1, (hf 2).trans h.f2, h.l.fx hX (Fx.of hb (Nat.le_refl _))⟩
theorem Rr.set1 {w : World} {X : Nat} {a : Option Addr} {cap : Nat} {ws : List Wd} {n : Nat} {b : Int} (h : Rr w X a cap ws n b) (n' : Nat) : Rr (w.setCell ⟨X, 1, none⟩ (.int .i64 (n' : Int))) X a cap ws n' b :=
  ⟨cell_far4 (by omega) h.c0, cell_same4 h.c1, cell_far4 (by omega) h.c2, (World.frozen?_setCell _ _ _ _).trans h.f1, (World.frozen?_setCell _ _ _ _).trans h.f2, h.l.fx h.lt ((Fx.refl X w).setX _)⟩
theorem Rr.set2 {w : World} {X : Nat} {a : Option Addr} {cap : Nat} {ws : List Wd} {n : Nat} {b : Int} (h : Rr w X a cap ws n b) (b' : Int) : Rr (w.setCell ⟨X, 2, none⟩ (.int .i64 b')) X a cap ws n b' :=
  ⟨cell_far4 (by omega) h.c0, cell_far4 (by omega) h.c1, cell_same4 h.c2, (World.frozen?_setCell _ _ _ _).trans h.f1, (World.frozen?_setCell _ _ _ _).trans h.f2, h.l.fx h.lt ((Fx.refl X w).setX _)⟩
theorem draws (w : World) (m : Nat) : Below w.heap.size w (w.drewN m) := ⟨rfl, rfl, rfl, Nat.le_refl _, fun _ _ => rfl⟩
theorem Rr.far {w : World} {X N i : Nat} {a : Option Addr} {cap : Nat} {ws : List Wd} {n : Nat} {b : Int} (h : Rr w X a cap ws n b) (hN : X < N) (u : Value) : Rr (w.setCell ⟨N, i, none⟩ u) X a cap ws n b := by
  refine ⟨cell_far4 (by omega) h.c0, cell_far4 (by omega) h.c1, cell_far4 (by omega) h.c2, (World.frozen?_setCell _ _ _ _).trans h.f1, (World.frozen?_setCell _ _ _ _).trans h.f2, fun j hj => ?_⟩
  obtain ⟨g, off, h1, h3, d0, d1, d2, d3⟩ := h.l j hj
  exact ⟨g, off, h1, h3, cell_far4 (by omega) d0, cell_far4 (by omega) d1, cell_far4 (by omega) d2, cell_far4 (by omega) d3⟩

/-- A block of cells that may be written. -/
def Bn (w : World) (Y : Nat) (cs : List Value) : Prop := ∀ j u, cs[j]? = some u → w.cell? ⟨Y, j, none⟩ = some u ∧ w.frozen? ⟨Y, j, none⟩ = false
theorem Bn.lt {w : World} {Y : Nat} {c : Value} {cs : List Value} (h : Bn w Y (c :: cs)) : Y < w.heap.size := World.block_lt_of_cell? w _ (h 0 c rfl).1
theorem frozen_of_block {w w' : World} {Y j : Nat} (h : w'.heap[Y]? = w.heap[Y]?) : w'.frozen? ⟨Y, j, none⟩ = w.frozen? ⟨Y, j, none⟩ := by
  unfold World.frozen?
  rw [h]
theorem Bn.blk {w w' : World} {Y : Nat} {cs : List Value} (h : Bn w Y cs) (hb : w'.heap[Y]? = w.heap[Y]?) : Bn w' Y cs := fun j u hu =>
  ⟨keep_cell (p := ⟨Y, j, none⟩) hb (h j u hu).1, (frozen_of_block hb).trans (h j u hu).2⟩
theorem Bn.on {w w' : World} {Y : Nat} {c : Value} {cs : List Value} (h : Bn w Y (c :: cs)) (hb : Below w.heap.size w w') : Bn w' Y (c :: cs) := h.blk (hb.block Y h.lt)
theorem Bn.fx {w w' : World} {X Y : Nat} {c : Value} {cs : List Value} (h : Bn w Y (c :: cs)) (hf : Fx X w w') (hne : Y ≠ X) : Bn w' Y (c :: cs) := h.blk (hf.block Y h.lt (fun e => hne (Option.some.inj e)))
theorem Bn.far {w : World} {Y X i : Nat} {cs : List Value} (h : Bn w Y cs) (hne : X ≠ Y) (v : Value) : Bn (w.setCell ⟨X, i, none⟩ v) Y cs := h.blk (Below.heap_setCell _ _ _ _ (fun e => hne e.symm))
theorem Bn.set {w : World} {Y i : Nat} {cs : List Value} (h : Bn w Y cs) (hi : i < cs.length) (v : Value) : Bn (w.setCell ⟨Y, i, none⟩ v) Y (cs.set i v) := fun j u hu => by
  refine ⟨?_, (World.frozen?_setCell _ _ _ _).trans ?_⟩
  · by_cases hj : i = j
    · subst hj
      rw [List.getElem?_set_self hi] at hu
      obtain rfl := Option.some.inj hu
      exact cell_same4 (h i _ (List.getElem?_eq_getElem hi)).1
    · rw [List.getElem?_set_ne hj] at hu
      exact cell_far4 (by omega) (h j u hu).1
  · have hl : j < cs.length := by
      have := (List.getElem?_eq_some_iff.1 hu).1
      rwa [List.length_set] at this
    exact (h j _ (List.getElem?_eq_getElem hl)).2
theorem Bn.drew {w : World} {Y : Nat} {cs : List Value} (h : Bn w Y cs) : Bn w.drew Y cs := h
theorem Bn.new (w : World) (cs : List Value) (t : TypeId) (n : Nat) (hn : n = w.heap.size) : Bn (w.alloc (.cells cs.toArray t)) n cs := by
  subst hn
  intro j u hu
  refine ⟨?_, by simp⟩
  rw [World.cell?_alloc_new]
  simpa using hu

/-- The slice v reads as the list l, k cells an element. -/
def RdK {α : Type} (ok : Nat → Prop) (w : World) (k : Nat) (R : α → List Value → Prop) (l : List α) (v : Value) : Prop :=
  ∃ a cap, v = .slice a l.length cap ∧ l.length ≤ cap ∧ cap ≤ maxLen ∧
    ∀ (i : Nat) (hi : i < l.length), ∃ b off cs, a = some ⟨b, off, none⟩ ∧ ok b ∧ b < w.heap.size ∧ cs.length = k ∧ R l[i] cs ∧ ∀ j u, cs[j]? = some u → w.cell? ⟨b, off + i * k + j, none⟩ = some u
theorem rdK_none {α : Type} (ok : Nat → Prop) (w : World) (k : Nat) (R : α → List Value → Prop) : RdK ok w k R [] (.slice none 0 0) := ⟨none, 0, rfl, by simp, by simp [maxLen], fun i hi => absurd hi (by simp)⟩
theorem RdK.keep {α : Type} {ok ok' : Nat → Prop} {w w' : World} {k : Nat} {R R' : α → List Value → Prop} {l : List α} {v : Value} (h : RdK ok w k R l v) (hR : ∀ x ∈ l, ∀ u, R x u → R' x u) (hk : ∀ b, ok b → b < w.heap.size → ok' b ∧ w'.heap[b]? = w.heap[b]?) : RdK ok' w' k R' l v := by
  obtain ⟨a, cap, rfl, hc, hm, hcell⟩ := h
  refine ⟨a, cap, rfl, hc, hm, fun i hi => ?_⟩
  obtain ⟨b, off, cs, ha, ho, hb, hl, hr, hcs⟩ := hcell i hi
  obtain ⟨ho', hs⟩ := hk _ ho hb
  refine ⟨b, off, cs, ha, ho', ?_, hl, hR _ (List.getElem_mem hi) _ hr, fun j u hu => keep_cell (p := ⟨b, off + i * k + j, none⟩) hs (hcs j u hu)⟩
  rcases Nat.lt_or_ge b w'.heap.size with h | h
  · exact h
  · rw [Array.getElem?_eq_none h, Array.getElem?_eq_getElem hb] at hs
    cases hs
theorem RdK.form {α : Type} {ok : Nat → Prop} {w : World} {k : Nat} {R : α → List Value → Prop} {l : List α} {v : Value} (h : RdK ok w k R l v) : ∃ a cap, v = .slice a l.length cap ∧ l.length ≤ cap ∧ cap ≤ maxLen := by
  obtain ⟨a, cap, h1, h2, h3, _⟩ := h
  exact ⟨a, cap, h1, h2, h3⟩
/-- A reading that stays where its blocks stay. -/
def Kp {α : Type} (R : (Nat → Prop) → World → α → List Value → Prop) : Prop := ∀ ⦃ok ok' : Nat → Prop⦄ ⦃w w' : World⦄ ⦃x : α⦄ ⦃cs : List Value⦄, R ok w x cs → (∀ b, ok b → b < w.heap.size → ok' b ∧ w'.heap[b]? = w.heap[b]?) → R ok' w' x cs
/-- The slice v is the call's own, from block base on, of k cells an element, and holds l; what lies behind its cells lies apart. -/
def OwnK {α : Type} (w : World) (base e k : Nat) (R : (Nat → Prop) → World → α → List Value → Prop) (v : Value) (l : List α) : Prop :=
  ∃ qs : List (List Value), w.ownsRow base e k v l.length qs.flatten ∧ qs.length = l.length ∧ ∀ (i : Nat) (h : i < l.length) (h' : i < qs.length), (qs[i]).length = k ∧ R (fun b => base ≤ b ∧ v.ownBlock ≠ some b) w l[i] qs[i]
theorem OwnK.keep {α : Type} {w w' : World} {base e k : Nat} {R : (Nat → Prop) → World → α → List Value → Prop} {v : Value} {l : List α} (hR : Kp R) (h : OwnK w base e k R v l) (hk : ∀ b, base ≤ b → b < w.heap.size → w'.heap[b]? = w.heap[b]?) : OwnK w' base e k R v l := by
  obtain ⟨qs, ho, hl, hr⟩ := h
  refine ⟨qs, ownsRow_keep ho (fun g hg => ?_), hl, fun i h h' => ⟨(hr i h h').1, hR (hr i h h').2 (fun b hb hlt => ⟨hb, hk b hb.1 hlt⟩)⟩⟩
  obtain ⟨a, b⟩ := ownsRow_lt ho g hg
  exact hk g a b
theorem OwnK.on {α : Type} {w w' : World} {base e k : Nat} {R : (Nat → Prop) → World → α → List Value → Prop} {v : Value} {l : List α} (hR : Kp R) (h : OwnK w base e k R v l) (hb : Below w.heap.size w w') : OwnK w' base e k R v l := h.keep hR (fun b _ hlt => hb.block b hlt)
theorem OwnK.fx {α : Type} {w w' : World} {base e k X : Nat} {R : (Nat → Prop) → World → α → List Value → Prop} {v : Value} {l : List α} (hR : Kp R) (h : OwnK w base e k R v l) (hf : Fx X w w') (hX : X < base) : OwnK w' base e k R v l :=
  h.keep hR (fun b hb hlt => hf.block b hlt (fun e => by have : b = X := Option.some.inj e; omega))
theorem OwnK.set {α : Type} {w : World} {base e k : Nat} {R : (Nat → Prop) → World → α → List Value → Prop} {v : Value} {l : List α} (hR : Kp R) (h : OwnK w base e k R v l) {X i : Nat} (hX : X < base) (u : Value) : OwnK (w.setCell ⟨X, i, none⟩ u) base e k R v l :=
  h.keep hR (fun b hb _ => Below.heap_setCell _ _ _ _ (fun e => by have : b = X := e; omega))
theorem OwnK.form {α : Type} {w : World} {base e k : Nat} {R : (Nat → Prop) → World → α → List Value → Prop} {v : Value} {l : List α} (h : OwnK w base e k R v l) : ∃ a cap, v = .slice a l.length cap ∧ l.length ≤ cap ∧ cap ≤ maxLen := by
  obtain ⟨qs, ho, _⟩ := h
  rcases ho.2 with ⟨h1, h2⟩ | ⟨g, cap, cur, h1, _, _, h3, h4, _⟩
  · exact ⟨none, 0, by rw [h1, h2], by omega, by simp [maxLen]⟩
  · exact ⟨_, _, h1, h3, h4⟩
/-- One more. The new one's memory lies from lo on, and the old row's block below. -/
theorem OwnK.snoc {α : Type} {w w' : World} {base e k lo n : Nat} {R : (Nat → Prop) → World → α → List Value → Prop} {v v' : Value} {l : List α} {p : α} {cs : List Value} {qs : List (List Value)} (hR : Kp R) (hk : cs.length = k)
    (hn : l.length = n) (ho : w.ownsRow base e k v n qs.flatten) (hl : qs.length = l.length) (hr : ∀ (i : Nat) (h : i < l.length) (h' : i < qs.length), (qs[i]).length = k ∧ R (fun b => base ≤ b ∧ v.ownBlock ≠ some b) w l[i] qs[i])
    (ho' : w'.ownsRow base e k v' (n + 1) (qs.flatten ++ cs)) (hg : w.grownBy w' v.ownBlock) (hat : v'.ownBlock = v.ownBlock ∨ v'.ownBlock = some w.heap.size)
    (hp : R (fun b => lo ≤ b) w p cs) (hlo : base ≤ lo) (hv : ∀ x, v.ownBlock = some x → x < lo) : OwnK w' base e k R v' (l ++ [p]) := by
  subst hn
  have key : ∀ b, base ≤ b ∧ v.ownBlock ≠ some b → b < w.heap.size → (base ≤ b ∧ v'.ownBlock ≠ some b) ∧ w'.heap[b]? = w.heap[b]? := fun b hb hlt => by
    refine ⟨⟨hb.1, fun e => ?_⟩, hg.block b hlt (fun e => hb.2 e.symm)⟩
    rcases hat with h | h
    · exact hb.2 (h ▸ e)
    · rw [h] at e; have : w.heap.size = b := Option.some.inj e; omega
  refine ⟨qs ++ [cs], ?_, by simp [hl], fun i h h' => ?_⟩
  · rw [List.flatten_append, List.length_append]
    simpa using ho'
  · rcases Nat.lt_or_ge i l.length with hi | hi
    · rw [List.getElem_append_left hi, List.getElem_append_left (by omega)]
      exact ⟨(hr i hi (by omega)).1, hR (hr i hi (by omega)).2 key⟩
    · have : i = l.length := by simp at h; omega
      subst this
      have e1 : (l ++ [p])[l.length] = p := by simp
      have e2 : (qs ++ [cs])[l.length]'h' = cs := by simp [← hl]
      rw [e1, e2]
      exact ⟨hk, hR hp (fun b hb hlt => key b ⟨by omega, fun e => by have := hv b e; omega⟩ hlt)⟩
theorem flat_at {k : Nat} : ∀ (qs : List (List Value)) (i j : Nat) (h : i < qs.length) (u : Value), (∀ (i : Nat) (h : i < qs.length), (qs[i]).length = k) → (qs[i])[j]? = some u → qs.flatten[i * k + j]? = some u
  | [], i, j, h, u, _, _ => by simp at h
  | x :: t, 0, j, h, u, hk, hu => by
    have hu' : x[j]? = some u := hu
    have hj := (List.getElem?_eq_some_iff.1 hu').1
    rw [List.flatten_cons, Nat.zero_mul, Nat.zero_add, List.getElem?_append_left hj]
    exact hu'
  | x :: t, i + 1, j, h, u, hk, hu => by
    have hx : x.length = k := hk 0 (by simp)
    have e : (i + 1) * k + j = x.length + (i * k + j) := by rw [hx, Nat.succ_mul]; omega
    rw [List.flatten_cons, e, List.getElem?_append_right (by omega), Nat.add_sub_cancel_left]
    exact flat_at t i j (by simpa using h) u (fun i h => hk (i + 1) (by simpa using h)) hu
/-- It reads as the list. -/
theorem OwnK.rd {α : Type} {w : World} {base e k : Nat} {R : (Nat → Prop) → World → α → List Value → Prop} {v : Value} {l : List α} (hR : Kp R) (h : OwnK w base e k R v l) : RdK (fun b => base ≤ b) w k (R (fun b => base ≤ b) w) l v := by
  obtain ⟨qs, ho, hl, hr⟩ := h
  have hc := fun g => World.ownsRow.cells ho (g := g)
  rcases ho.2 with ⟨rfl, hn⟩ | ⟨g, cap, cur, rfl, hb, hg, hnc, hcm, hcs, htake⟩
  · have hx : l = [] := List.eq_nil_of_length_eq_zero hn
    subst hx
    exact rdK_none _ w k _
  · refine ⟨some ⟨g, 0, none⟩, cap, rfl, hnc, hcm, fun i hi => ⟨g, 0, qs[i], rfl, hb, (Array.getElem?_eq_some_iff.1 hg).1, (hr i hi (by omega)).1, hR (hr i hi (by omega)).2 (fun b hb _ => ⟨hb.1, rfl⟩), fun j u hu => ?_⟩⟩
    have := hc g rfl (i * k + j) u (flat_at qs i j (by omega) u (fun i h => (hr i (by omega) h).1) hu)
    rw [add_plain] at this
    rw [Nat.zero_add]
    rwa [Nat.zero_add] at this
/-- Read from a lower block on. -/
theorem RdK.low {α : Type} {w : World} {base lo k : Nat} {R : (Nat → Prop) → World → α → List Value → Prop} {v : Value} {l : List α} (hR : Kp R) (h : RdK (fun b => base ≤ b) w k (R (fun b => base ≤ b) w) l v) (hlo : lo ≤ base) : RdK (fun b => lo ≤ b) w k (R (fun b => lo ≤ b) w) l v :=
  h.keep (fun x _ u hu => hR hu (fun b hb _ => ⟨by omega, rfl⟩)) (fun b hb _ => ⟨by omega, rfl⟩)
theorem RdK.stay {α : Type} {ok ok' : Nat → Prop} {w w' : World} {k : Nat} {R : (Nat → Prop) → World → α → List Value → Prop} {v : Value} {l : List α} (hR : Kp R) (h : RdK ok w k (R ok w) l v) (hk : ∀ b, ok b → b < w.heap.size → ok' b ∧ w'.heap[b]? = w.heap[b]?) : RdK ok' w' k (R ok' w') l v :=
  h.keep (fun x _ u hu => hR hu hk) hk
end Go.Proofs.YtpdhmjjmpofphaaDoor
