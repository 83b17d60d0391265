import Derived.Test.YtdificdnicdnnaaXjc01
import Derived.BigQuiet
import Derived.Deep.QuietTactic
import Derived.BigRegion
import Derived.Maps.OwnSet
import Derived.Maps.Views
import Derived.Sort.Walk0
import Derived.Carry
import Derived.WalkSmall
import Derived.StringKeys
import Derived.Deep.DeepCutAuto
import Derived.Deep.RegionHeldLaw

/- A reader of words in memory. -/
namespace Go.Proofs.Ytdificdnicdnnaa
open Go.RowKit Go.Lib
set_option linter.unusedSimpArgs false
set_option linter.unusedVariables false

/-- Nothing but block X has turned, and new blocks. -/
abbrev Fx (X : Nat) (w w' : World) : Prop := w.grownBy w' (some X)
theorem Fx.refl (X : Nat) (w : World) : Fx X w w := ⟨rfl, rfl, rfl, Nat.le_refl _, fun _ _ _ => rfl⟩
theorem Fx.trans {X : Nat} {a b c : World} (h : Fx X a b) (k : Fx X b c) : Fx X a c :=
  ⟨k.os.trans h.os, k.tape.trans h.tape, k.output.trans h.output, Nat.le_trans h.size k.size, fun j hj hne => (k.block j (Nat.lt_of_lt_of_le hj h.size) hne).trans (h.block j hj hne)⟩
theorem Fx.of {X B : Nat} {a b : World} (h : Below B a b) (hB : a.heap.size ≤ B) : Fx X a b := ⟨h.os, h.tape, h.output, h.size, fun k hk _ => h.block k (by omega)⟩
theorem Fx.setX {X i : Nat} {a b : World} (h : Fx X a b) (u : Value) : Fx X a (b.setCell ⟨X, i, none⟩ u) :=
  ⟨h.os, h.tape, h.output, by simpa using h.size, fun k hk hne => (Below.heap_setCell _ _ _ _ (fun e => hne (congrArg some e))).trans (h.block k hk hne)⟩
theorem Fx.drewN {X : Nat} {a b : World} (h : Fx X a b) (m : Nat) : Fx X a (b.drewN m) := ⟨h.os, h.tape, h.output, h.size, h.block⟩
theorem Fx.drew {X : Nat} {a b : World} (h : Fx X a b) : Fx X a b.drew := ⟨h.os, h.tape, h.output, h.size, h.block⟩
theorem Fx.alloc {X : Nat} {a b : World} (h : Fx X a b) (o : Obj) : Fx X a (b.alloc o) := h.trans (Fx.of ((Below.refl b.heap.size b).alloc (Nat.le_refl _) o) (Nat.le_refl _))
theorem Fx.below {X : Nat} {a b : World} (h : Fx X a b) {B : Nat} (hB : B ≤ X) (hs : B ≤ a.heap.size) : Below B a b := ⟨h.os, h.tape, h.output, h.size, fun k hk => h.block k (by omega) (fun e => by have : k = X := Option.some.inj e; omega)⟩
/-- A new block's cells, written. -/
theorem Fx.setN {X N i : Nat} {a b : World} (h : Fx X a b) (hN : a.heap.size ≤ N) (u : Value) : Fx X a (b.setCell ⟨N, i, none⟩ u) :=
  ⟨h.os, h.tape, h.output, by simpa using h.size, fun k hk hne => (Below.heap_setCell _ _ _ _ (fun e => by have : k = N := e; omega)).trans (h.block k hk hne)⟩
/-- The words, in memory apart from X. -/
def RdL (w : World) (X : Nat) (a : Option Addr) (ws : List Wd) : Prop := ∀ (i : Nat) (hi : i < ws.length), ∃ g off, a = some ⟨g, off, none⟩ ∧ g < X ∧ w.cell? ⟨g, off + i * 4, none⟩ = some (.int .i64 ((ws[i]).1 : Int)) ∧ w.cell? ⟨g, off + i * 4 + 1, none⟩ = some (.string (txt (ws[i]).2.1)) ∧ w.cell? ⟨g, off + i * 4 + 2, none⟩ = some (.int .i64 (ws[i]).2.2.1) ∧ w.cell? ⟨g, off + i * 4 + 3, none⟩ = some (.int .i64 (ws[i]).2.2.2)
theorem RdL.fx {w w' : World} {X : Nat} {a : Option Addr} {ws : List Wd} (h : RdL w X a ws) (hX : X < w.heap.size) (hf : Fx X w w') : RdL w' X a ws := fun i hi => by
  obtain ⟨g, off, h1, h3, c0, c1, c2, c3⟩ := h i hi
  have hb : w'.heap[g]? = w.heap[g]? := hf.block g (by omega) (fun e => by have : g = X := Option.some.inj e; omega)
  have hc : ∀ j, w'.cell? ⟨g, j, none⟩ = w.cell? ⟨g, j, none⟩ := fun j => World.cell?_of_block (w := w) (a := ⟨g, j, none⟩) hb
  exact ⟨g, off, h1, h3, (hc _).trans c0, (hc _).trans c1, (hc _).trans c2, (hc _).trans c3⟩
/-- The reader in block X. -/
structure Rr (w : World) (X : Nat) (a : Option Addr) (cap : Nat) (ws : List Wd) (n : Nat) (b : Int) : Prop where
  c0 : w.cell? ⟨X, 0, none⟩ = some (.slice a ws.length cap)
  c1 : w.cell? ⟨X, 1, none⟩ = some (.int .i64 (n : Int))
  c2 : w.cell? ⟨X, 2, none⟩ = some (.int .i64 b)
  f1 : w.frozen? ⟨X, 1, none⟩ = false
  f2 : w.frozen? ⟨X, 2, none⟩ = false
  l : RdL w X a ws
theorem Rr.lt {w : World} {X : Nat} {a : Option Addr} {cap : Nat} {ws : List Wd} {n : Nat} {b : Int} (h : Rr w X a cap ws n b) : X < w.heap.size := World.block_lt_of_cell? w _ h.c0
theorem Rr.on {w w' : World} {X : Nat} {a : Option Addr} {cap : Nat} {ws : List Wd} {n : Nat} {b : Int} (h : Rr w X a cap ws n b) (hb : Below w.heap.size w w') : Rr w' X a cap ws n b := by
  have hX := h.lt
  have hc : ∀ i, w'.cell? ⟨X, i, none⟩ = w.cell? ⟨X, i, none⟩ := fun i => hb.cell (p := ⟨X, i, none⟩) hX
  have hf : ∀ i, w'.frozen? ⟨X, i, none⟩ = w.frozen? ⟨X, i, none⟩ := fun i => hb.frozen (p := ⟨X, i, none⟩) hX
  exact ⟨(hc 0).trans h.c0, (hc 1).trans h.c1, (hc 2).trans h.c2, (hf 1).trans h.f1, (hf 2).trans h.f2, h.l.fx hX (Fx.of hb (Nat.le_refl _))⟩
theorem Rr.set1 {w : World} {X : Nat} {a : Option Addr} {cap : Nat} {ws : List Wd} {n : Nat} {b : Int} (h : Rr w X a cap ws n b) (n' : Nat) : Rr (w.setCell ⟨X, 1, none⟩ (.int .i64 (n' : Int))) X a cap ws n' b :=
  ⟨cell_far4 (by omega) h.c0, cell_same4 h.c1, cell_far4 (by omega) h.c2, (World.frozen?_setCell _ _ _ _).trans h.f1, (World.frozen?_setCell _ _ _ _).trans h.f2, h.l.fx h.lt ((Fx.refl X w).setX _)⟩
theorem Rr.set2 {w : World} {X : Nat} {a : Option Addr} {cap : Nat} {ws : List Wd} {n : Nat} {b : Int} (h : Rr w X a cap ws n b) (b' : Int) : Rr (w.setCell ⟨X, 2, none⟩ (.int .i64 b')) X a cap ws n b' :=
  ⟨cell_far4 (by omega) h.c0, cell_far4 (by omega) h.c1, cell_same4 h.c2, (World.frozen?_setCell _ _ _ _).trans h.f1, (World.frozen?_setCell _ _ _ _).trans h.f2, h.l.fx h.lt ((Fx.refl X w).setX _)⟩
theorem draws (w : World) (m : Nat) : Below w.heap.size w (w.drewN m) := ⟨rfl, rfl, rfl, Nat.le_refl _, fun _ _ => rfl⟩
theorem Rr.far {w : World} {X N i : Nat} {a : Option Addr} {cap : Nat} {ws : List Wd} {n : Nat} {b : Int} (h : Rr w X a cap ws n b) (hN : X < N) (u : Value) : Rr (w.setCell ⟨N, i, none⟩ u) X a cap ws n b := by
  refine ⟨cell_far4 (by omega) h.c0, cell_far4 (by omega) h.c1, cell_far4 (by omega) h.c2, (World.frozen?_setCell _ _ _ _).trans h.f1, (World.frozen?_setCell _ _ _ _).trans h.f2, fun j hj => ?_⟩
  obtain ⟨g, off, h1, h3, d0, d1, d2, d3⟩ := h.l j hj
  exact ⟨g, off, h1, h3, cell_far4 (by omega) d0, cell_far4 (by omega) d1, cell_far4 (by omega) d2, cell_far4 (by omega) d3⟩

/-- A block of cells that may be written. -/
def Bn (w : World) (Y : Nat) (cs : List Value) : Prop := ∀ j u, cs[j]? = some u → w.cell? ⟨Y, j, none⟩ = some u ∧ w.frozen? ⟨Y, j, none⟩ = false
theorem Bn.lt {w : World} {Y : Nat} {c : Value} {cs : List Value} (h : Bn w Y (c :: cs)) : Y < w.heap.size := World.block_lt_of_cell? w _ (h 0 c rfl).1
theorem frozen_of_block {w w' : World} {Y j : Nat} (h : w'.heap[Y]? = w.heap[Y]?) : w'.frozen? ⟨Y, j, none⟩ = w.frozen? ⟨Y, j, none⟩ := by
  unfold World.frozen?
  rw [h]
theorem Bn.blk {w w' : World} {Y : Nat} {cs : List Value} (h : Bn w Y cs) (hb : w'.heap[Y]? = w.heap[Y]?) : Bn w' Y cs := fun j u hu =>
  ⟨keep_cell (p := ⟨Y, j, none⟩) hb (h j u hu).1, (frozen_of_block hb).trans (h j u hu).2⟩
theorem Bn.on {w w' : World} {Y : Nat} {c : Value} {cs : List Value} (h : Bn w Y (c :: cs)) (hb : Below w.heap.size w w') : Bn w' Y (c :: cs) := h.blk (hb.block Y h.lt)
theorem Bn.fx {w w' : World} {X Y : Nat} {c : Value} {cs : List Value} (h : Bn w Y (c :: cs)) (hf : Fx X w w') (hne : Y ≠ X) : Bn w' Y (c :: cs) := h.blk (hf.block Y h.lt (fun e => hne (Option.some.inj e)))
theorem Bn.far {w : World} {Y X i : Nat} {cs : List Value} (h : Bn w Y cs) (hne : X ≠ Y) (v : Value) : Bn (w.setCell ⟨X, i, none⟩ v) Y cs := h.blk (Below.heap_setCell _ _ _ _ (fun e => hne e.symm))
theorem Bn.set {w : World} {Y i : Nat} {cs : List Value} (h : Bn w Y cs) (hi : i < cs.length) (v : Value) : Bn (w.setCell ⟨Y, i, none⟩ v) Y (cs.set i v) := fun j u hu => by
  refine ⟨?_, (World.frozen?_setCell _ _ _ _).trans ?_⟩
  · by_cases hj : i = j
    · subst hj
      rw [List.getElem?_set_self hi] at hu
      obtain rfl := Option.some.inj hu
      exact cell_same4 (h i _ (List.getElem?_eq_getElem hi)).1
    · rw [List.getElem?_set_ne hj] at hu
      exact cell_far4 (by omega) (h j u hu).1
  · have hl : j < cs.length := by
      have := (List.getElem?_eq_some_iff.1 hu).1
      rwa [List.length_set] at this
    exact (h j _ (List.getElem?_eq_getElem hl)).2
theorem Bn.drew {w : World} {Y : Nat} {cs : List Value} (h : Bn w Y cs) : Bn w.drew Y cs := h
theorem Bn.new (w : World) (cs : List Value) (t : TypeId) (n : Nat) (hn : n = w.heap.size) : Bn (w.alloc (.cells cs.toArray t)) n cs := by
  subst hn
  intro j u hu
  refine ⟨?_, by simp⟩
  rw [World.cell?_alloc_new]
  simpa using hu

/-- The slice v reads as the list l, k cells an element. -/
def RdK {α : Type} (ok : Nat → Prop) (w : World) (k : Nat) (R : α → List Value → Prop) (l : List α) (v : Value) : Prop :=
  ∃ a cap, v = .slice a l.length cap ∧ l.length ≤ cap ∧ cap ≤ maxLen ∧
    ∀ (i : Nat) (hi : i < l.length), ∃ b off cs, a = some ⟨b, off, none⟩ ∧ ok b ∧ b < w.heap.size ∧ cs.length = k ∧ R l[i] cs ∧ ∀ j u, cs[j]? = some u → w.cell? ⟨b, off + i * k + j, none⟩ = some u
theorem rdK_none {α : Type} (ok : Nat → Prop) (w : World) (k : Nat) (R : α → List Value → Prop) : RdK ok w k R [] (.slice none 0 0) := ⟨none, 0, rfl, by simp, by simp [maxLen], fun i hi => absurd hi (by simp)⟩
theorem RdK.keep {α : Type} {ok ok' : Nat → Prop} {w w' : World} {k : Nat} {R R' : α → List Value → Prop} {l : List α} {v : Value} (h : RdK ok w k R l v) (hR : ∀ x ∈ l, ∀ u, R x u → R' x u) (hk : ∀ b, ok b → b < w.heap.size → ok' b ∧ w'.heap[b]? = w.heap[b]?) : RdK ok' w' k R' l v := by
  obtain ⟨a, cap, rfl, hc, hm, hcell⟩ := h
  refine ⟨a, cap, rfl, hc, hm, fun i hi => ?_⟩
  obtain ⟨b, off, cs, ha, ho, hb, hl, hr, hcs⟩ := hcell i hi
  obtain ⟨ho', hs⟩ := hk _ ho hb
  refine ⟨b, off, cs, ha, ho', ?_, hl, hR _ (List.getElem_mem hi) _ hr, fun j u hu => keep_cell (p := ⟨b, off + i * k + j, none⟩) hs (hcs j u hu)⟩
  rcases Nat.lt_or_ge b w'.heap.size with h | h
  · exact h
  · rw [Array.getElem?_eq_none h, Array.getElem?_eq_getElem hb] at hs
    cases hs
theorem RdK.form {α : Type} {ok : Nat → Prop} {w : World} {k : Nat} {R : α → List Value → Prop} {l : List α} {v : Value} (h : RdK ok w k R l v) : ∃ a cap, v = .slice a l.length cap ∧ l.length ≤ cap ∧ cap ≤ maxLen := by
  obtain ⟨a, cap, h1, h2, h3, _⟩ := h
  exact ⟨a, cap, h1, h2, h3⟩
/-- A reading that stays where its blocks stay. -/
def Kp {α : Type} (R : (Nat → Prop) → World → α → List Value → Prop) : Prop := ∀ ⦃ok ok' : Nat → Prop⦄ ⦃w w' : World⦄ ⦃x : α⦄ ⦃cs : List Value⦄, R ok w x cs → (∀ b, ok b → b < w.heap.size → ok' b ∧ w'.heap[b]? = w.heap[b]?) → R ok' w' x cs
/-- The slice v is the call's own, from block base on, of k cells an element, and holds l; what lies behind its cells lies apart. -/
def OwnK {α : Type} (w : World) (base e k : Nat) (R : (Nat → Prop) → World → α → List Value → Prop) (v : Value) (l : List α) : Prop :=
  ∃ qs : List (List Value), w.ownsRow base e k v l.length qs.flatten ∧ qs.length = l.length ∧ ∀ (i : Nat) (h : i < l.length) (h' : i < qs.length), (qs[i]).length = k ∧ R (fun b => base ≤ b ∧ v.ownBlock ≠ some b) w l[i] qs[i]
theorem OwnK.keep {α : Type} {w w' : World} {base e k : Nat} {R : (Nat → Prop) → World → α → List Value → Prop} {v : Value} {l : List α} (hR : Kp R) (h : OwnK w base e k R v l) (hk : ∀ b, base ≤ b → b < w.heap.size → w'.heap[b]? = w.heap[b]?) : OwnK w' base e k R v l := by
  obtain ⟨qs, ho, hl, hr⟩ := h
  refine ⟨qs, ownsRow_keep ho (fun g hg => ?_), hl, fun i h h' => ⟨(hr i h h').1, hR (hr i h h').2 (fun b hb hlt => ⟨hb, hk b hb.1 hlt⟩)⟩⟩
  obtain ⟨a, b⟩ := ownsRow_lt ho g hg
  exact hk g a b
theorem OwnK.on {α : Type} {w w' : World} {base e k : Nat} {R : (Nat → Prop) → World → α → List Value → Prop} {v : Value} {l : List α} (hR : Kp R) (h : OwnK w base e k R v l) (hb : Below w.heap.size w w') : OwnK w' base e k R v l := h.keep hR (fun b _ hlt => hb.block b hlt)
theorem OwnK.fx {α : Type} {w w' : World} {base e k X : Nat} {R : (Nat → Prop) → World → α → List Value → Prop} {v : Value} {l : List α} (hR : Kp R) (h : OwnK w base e k R v l) (hf : Fx X w w') (hX : X < base) : OwnK w' base e k R v l :=
  h.keep hR (fun b hb hlt => hf.block b hlt (fun e => by have : b = X := Option.some.inj e; omega))
theorem OwnK.set {α : Type} {w : World} {base e k : Nat} {R : (Nat → Prop) → World → α → List Value → Prop} {v : Value} {l : List α} (hR : Kp R) (h : OwnK w base e k R v l) {X i : Nat} (hX : X < base) (u : Value) : OwnK (w.setCell ⟨X, i, none⟩ u) base e k R v l :=
  h.keep hR (fun b hb _ => Below.heap_setCell _ _ _ _ (fun e => by have : b = X := e; omega))
theorem OwnK.form {α : Type} {w : World} {base e k : Nat} {R : (Nat → Prop) → World → α → List Value → Prop} {v : Value} {l : List α} (h : OwnK w base e k R v l) : ∃ a cap, v = .slice a l.length cap ∧ l.length ≤ cap ∧ cap ≤ maxLen := by
  obtain ⟨qs, ho, _⟩ := h
  rcases ho.2 with ⟨h1, h2⟩ | ⟨g, cap, cur, h1, _, _, h3, h4, _⟩
  · exact ⟨none, 0, by rw [h1, h2], by omega, by simp [maxLen]⟩
  · exact ⟨_, _, h1, h3, h4⟩
theorem flat_at {k : Nat} : ∀ (qs : List (List Value)) (i j : Nat) (h : i < qs.length) (u : Value), (∀ (i : Nat) (h : i < qs.length), (qs[i]).length = k) → (qs[i])[j]? = some u → qs.flatten[i * k + j]? = some u
  | [], i, j, h, u, _, _ => by simp at h
  | x :: t, 0, j, h, u, hk, hu => by
    have hu' : x[j]? = some u := hu
    have hj := (List.getElem?_eq_some_iff.1 hu').1
    rw [List.flatten_cons, Nat.zero_mul, Nat.zero_add, List.getElem?_append_left hj]
    exact hu'
  | x :: t, i + 1, j, h, u, hk, hu => by
    have hx : x.length = k := hk 0 (by simp)
    have e : (i + 1) * k + j = x.length + (i * k + j) := by rw [hx, Nat.succ_mul]; omega
    rw [List.flatten_cons, e, List.getElem?_append_right (by omega), Nat.add_sub_cancel_left]
    exact flat_at t i j (by simpa using h) u (fun i h => hk (i + 1) (by simpa using h)) hu
/-- It reads as the list. -/
theorem OwnK.rd {α : Type} {w : World} {base e k : Nat} {R : (Nat → Prop) → World → α → List Value → Prop} {v : Value} {l : List α} (hR : Kp R) (h : OwnK w base e k R v l) : RdK (fun b => base ≤ b) w k (R (fun b => base ≤ b) w) l v := by
  obtain ⟨qs, ho, hl, hr⟩ := h
  have hc := fun g => World.ownsRow.cells ho (g := g)
  rcases ho.2 with ⟨rfl, hn⟩ | ⟨g, cap, cur, rfl, hb, hg, hnc, hcm, hcs, htake⟩
  · have hx : l = [] := List.eq_nil_of_length_eq_zero hn
    subst hx
    exact rdK_none _ w k _
  · refine ⟨some ⟨g, 0, none⟩, cap, rfl, hnc, hcm, fun i hi => ⟨g, 0, qs[i], rfl, hb, (Array.getElem?_eq_some_iff.1 hg).1, (hr i hi (by omega)).1, hR (hr i hi (by omega)).2 (fun b hb _ => ⟨hb.1, rfl⟩), fun j u hu => ?_⟩⟩
    have := hc g rfl (i * k + j) u (flat_at qs i j (by omega) u (fun i h => (hr i (by omega) h).1) hu)
    rw [add_plain] at this
    rw [Nat.zero_add]
    rwa [Nat.zero_add] at this
theorem RdK.stay {α : Type} {ok ok' : Nat → Prop} {w w' : World} {k : Nat} {R : (Nat → Prop) → World → α → List Value → Prop} {v : Value} {l : List α} (hR : Kp R) (h : RdK ok w k (R ok w) l v) (hk : ∀ b, ok b → b < w.heap.size → ok' b ∧ w'.heap[b]? = w.heap[b]?) : RdK ok' w' k (R ok' w') l v :=
  h.keep (fun x _ u hu => hR hu hk) hk

/-- Nothing but two blocks has turned, and new blocks. -/
structure Fy (X Y : Nat) (w w' : World) : Prop where
  os : w'.os = w.os
  tape : w'.tape = w.tape
  output : w'.output = w.output
  size : w.heap.size ≤ w'.heap.size
  block : ∀ k, k < w.heap.size → k ≠ X → k ≠ Y → w'.heap[k]? = w.heap[k]?
theorem Fy.of {X Y : Nat} {a b : World} (h : Fx X a b) : Fy X Y a b := ⟨h.os, h.tape, h.output, h.size, fun k hk h1 _ => h.block k hk (fun e => h1 (Option.some.inj e))⟩
theorem Fy.trans {X Y : Nat} {a b c : World} (h : Fy X Y a b) (k : Fy X Y b c) : Fy X Y a c :=
  ⟨k.os.trans h.os, k.tape.trans h.tape, k.output.trans h.output, Nat.le_trans h.size k.size, fun j hj h1 h2 => (k.block j (Nat.lt_of_lt_of_le hj h.size) h1 h2).trans (h.block j hj h1 h2)⟩
end Go.Proofs.Ytdificdnicdnnaa

/- A disk as math: rows of numbered things, rising; what is put into them and taken out of them; a map of the program that holds such a row. -/
namespace Go.Proofs.Ytdificdnicdnnaa
open Go.RowKit Go.Lib Go.Maps
set_option linter.unusedSimpArgs false
set_option linter.unusedVariables false

abbrev Ris {β : Type} (l : List (Int × β)) : Prop := l.Pairwise fun x y => x.1 < y.1
/-- The datum of a map, of numbers' things as they lie. -/
def esD (l : List (Int × Value)) : List (Lit × DataW Value) := l.map fun x => (.int .i64 x.1, .held x.2)
def hR (v : Value) : Option (DataW Value × List MemPlace) := some (.held v, [])

/-- A timer: its key, and when it is due. -/
abbrev Tm := ByteArray × Int
def tz : Tm := (⟨#[]⟩, 0)
def blt (x y : ByteArray) : Bool := Op.bytesLess x.toList y.toList
def tlt (x y : Tm) : Bool := if x.2 = y.2 then blt x.1 y.1 else decide (x.2 < y.2)
theorem ble_irr : ∀ x : List UInt8, Op.bytesLess x x = false
  | [] => rfl
  | a :: x => by simp [Op.bytesLess, ble_irr x]
theorem ble_trans : ∀ x y z : List UInt8, Op.bytesLess x y = true → Op.bytesLess y z = true → Op.bytesLess x z = true
  | [], _, [], _, h => by cases ‹List UInt8› <;> simp [Op.bytesLess] at h
  | _ :: _, [], _, h, _ => by simp [Op.bytesLess] at h
  | _ :: _, _ :: _, [], _, h => by simp [Op.bytesLess] at h
  | [], _, _ :: _, _, _ => rfl
  | a :: x, b :: y, c :: z, h, k => by
    have ih := ble_trans x y z
    simp only [Op.bytesLess, Bool.or_eq_true, Bool.and_eq_true, decide_eq_true_eq, beq_iff_eq] at h k ⊢
    rcases h with h | ⟨rfl, h⟩
    · rcases k with k | ⟨rfl, k⟩
      · exact .inl (UInt8.lt_trans h k)
      · exact .inl h
    · rcases k with k | ⟨rfl, k⟩
      · exact .inl k
      · exact .inr ⟨rfl, ih h k⟩
theorem ble_tot : ∀ x y : List UInt8, Op.bytesLess x y = false → Op.bytesLess y x = false → x = y
  | [], [], _, _ => rfl
  | [], _ :: _, h, _ => by simp [Op.bytesLess] at h
  | _ :: _, [], _, h => by simp [Op.bytesLess] at h
  | a :: x, b :: y, h, k => by
    have ih := ble_tot x y
    simp only [Op.bytesLess, Bool.or_eq_false_iff, Bool.and_eq_false_iff, decide_eq_false_iff_not, beq_eq_false_iff_ne] at h k
    have e : a = b := by
      have h1 := h.1
      have k1 := k.1
      rw [UInt8.lt_iff_toNat_lt] at h1 k1
      exact UInt8.toNat_inj.1 (by omega)
    subst e
    rw [ih (h.2.resolve_left (by simp)) (k.2.resolve_left (by simp))]
theorem tlt_irr (x : Tm) : tlt x x = false := by simp [tlt, blt, ble_irr]
theorem tlt_trans {x y z : Tm} (h : tlt x y = true) (k : tlt y z = true) : tlt x z = true := by
  unfold tlt blt at *
  split at h <;> split at k <;> split
  · exact ble_trans _ _ _ h k
  · omega
  · simp at k; omega
  · simp at k; simp; omega
  · simp at h; omega
  · simp at h; simp; omega
  · simp at h k; omega
  · simp at h k; simp; omega
theorem tlt_tot {x y : Tm} (h : tlt x y = false) (k : tlt y x = false) : x = y := by
  unfold tlt blt at *
  split at h
  · rename_i e
    rw [if_pos e.symm] at k
    have := ble_tot _ _ h k
    rw [Lib.toList_data, Lib.toList_data] at this
    have h2 : x.1 = y.1 := by
      have h3 : x.1.data = y.1.data := Array.toList_inj.1 this
      cases hx : x.1; cases hy : y.1
      rw [hx, hy] at h3
      simp only at h3
      rw [h3]
    exact Prod.ext h2 e
  · rename_i e
    rw [if_neg (fun h => e h.symm)] at k
    simp at h k
    omega
theorem tlt_asym {x y : Tm} (h : tlt x y = true) : tlt y x = false := by
  cases hk : tlt y x
  · rfl
  · have := tlt_trans h hk
    rw [tlt_irr] at this
    cases this
/-- Not earlier, and not earlier. -/
theorem tle_trans {x y z : Tm} (h : tlt x y = false) (k : tlt y z = false) : tlt x z = false := by
  cases hk : tlt x z
  · rfl
  · cases hy : tlt y x
    · have := tlt_tot h hy
      subst this
      rw [hk] at k
      cases k
    · have := tlt_trans hy hk
      rw [this] at k
      cases k

/-- Two of a list change places. -/
def tg (Q : List Tm) (i : Nat) : Tm := Q.getD i tz
def sw (Q : List Tm) (a b : Nat) : List Tm := (Q.set a (tg Q b)).set b (tg Q a)
theorem sw_len (Q : List Tm) (a b : Nat) : (sw Q a b).length = Q.length := by simp [sw]
theorem tg_of {Q : List Tm} {i : Nat} (h : i < Q.length) : tg Q i = Q[i] := by simp [tg, h]
theorem tg_sw {Q : List Tm} {a b : Nat} (ha : a < Q.length) (hb : b < Q.length) (k : Nat) : tg (sw Q a b) k = if k = b then tg Q a else if k = a then tg Q b else tg Q k := by
  unfold sw
  unfold tg
  by_cases h1 : k = b
  · subst h1
    rw [if_pos rfl]
    simp [hb]
  · rw [if_neg h1]
    by_cases h2 : k = a
    · subst h2
      rw [if_pos rfl]
      simp [List.getD_eq_getElem?_getD, List.getElem?_set, Ne.symm h1, ha]
    · rw [if_neg h2]
      simp [List.getD_eq_getElem?_getD, List.getElem?_set, Ne.symm h1, Ne.symm h2]
theorem sw_perm {Q : List Tm} {a b : Nat} (ha : a < Q.length) (hb : b < Q.length) : List.Perm (sw Q a b) Q := by
  unfold sw
  rw [tg_of ha, tg_of hb]
  exact List.set_set_perm ha hb
def par (j : Nat) : Nat := (j - 1) / 2
/-- Up from j. -/
def upQ (Q : List Tm) (j : Nat) : List Tm := if h : 0 < j then (if tlt (tg Q j) (tg Q (par j)) then upQ (sw Q (par j) j) (par j) else Q) else Q
termination_by j
decreasing_by unfold par; omega
/-- The lesser one below i, of the first n. -/
def kid (Q : List Tm) (i n : Nat) : Nat := if 2 * i + 2 < n ∧ tlt (tg Q (2 * i + 2)) (tg Q (2 * i + 1)) = true then 2 * i + 2 else 2 * i + 1
theorem kid_ge (Q : List Tm) (i n : Nat) : 2 * i + 1 ≤ kid Q i n ∧ (2 * i + 1 < n → kid Q i n < n) ∧ par (kid Q i n) = i := by
  unfold kid par
  split <;> refine ⟨by omega, by omega, by omega⟩
/-- Down from i, among the first n: the list, and where it ends. -/
def dnQ (Q : List Tm) (i n : Nat) : List Tm × Nat := if h : 2 * i + 1 < n then (if tlt (tg Q (kid Q i n)) (tg Q i) then dnQ (sw Q i (kid Q i n)) (kid Q i n) n else (Q, i)) else (Q, i)
termination_by n - i
decreasing_by have := kid_ge Q i n; omega

/-- A heap: the first n of it. -/
def Hp (Q : List Tm) (n : Nat) : Prop := ∀ k, 0 < k → k < n → tlt (tg Q k) (tg Q (par k)) = false
/-- A heap but for what stands at j, which may be too early. -/
structure Up (Q : List Tm) (n j : Nat) : Prop where
  a : ∀ k, 0 < k → k < n → k ≠ j → tlt (tg Q k) (tg Q (par k)) = false
  b : 0 < j → ∀ k, 0 < k → k < n → par k = j → tlt (tg Q k) (tg Q (par j)) = false
/-- A heap but for what stands at i, which may be too early or too late. -/
structure Dn (Q : List Tm) (n i : Nat) : Prop where
  a : ∀ k, 0 < k → k < n → k ≠ i → par k ≠ i → tlt (tg Q k) (tg Q (par k)) = false
  b : 0 < i → ∀ k, 0 < k → k < n → par k = i → tlt (tg Q k) (tg Q (par i)) = false
theorem up_step {Q : List Tm} {n j : Nat} (h : Up Q n j) (hj : 0 < j) (hn : j < n) (hl : n ≤ Q.length) (hlt : tlt (tg Q j) (tg Q (par j)) = true) : Up (sw Q (par j) j) n (par j) := by
  have hlow : ∀ x, 0 < x → par x < x := fun x hx => by unfold par; omega
  have hp : par j < j := hlow j hj
  have ht := fun k => tg_sw (Q := Q) (a := par j) (b := j) (by omega) (by omega) k
  refine ⟨fun k h0 hk hne => ?_, fun h0' k h0 hk hpk => ?_⟩
  · rw [ht k, ht (par k)]
    by_cases h1 : k = j
    · subst h1
      rw [if_pos rfl, if_neg (by omega), if_pos rfl]
      exact tlt_asym hlt
    · rw [if_neg h1, if_neg hne]
      by_cases h2 : par k = j
      · rw [if_pos h2]
        exact h.b hj k h0 hk h2
      · rw [if_neg h2]
        by_cases h3 : par k = par j
        · rw [if_pos h3]
          have := h.a k h0 hk h1
          rw [h3] at this
          exact tle_trans this (tlt_asym hlt)
        · rw [if_neg h3]
          exact h.a k h0 hk h1
  · have hpp : par (par j) < par j := hlow _ h0'
    have hkk := hlow k h0
    rw [ht k, ht (par (par j)), if_neg (show ¬ par (par j) = j by omega), if_neg (show ¬ par (par j) = par j by omega)]
    have hq := h.a (par j) h0' (by omega) (by omega)
    by_cases h1 : k = j
    · rw [if_pos h1]
      exact hq
    · rw [if_neg h1, if_neg (show ¬ k = par j by omega)]
      have := h.a k h0 hk h1
      rw [hpk] at this
      exact tle_trans this hq
theorem up_ok (n : Nat) : ∀ (j : Nat) (Q : List Tm), Up Q n j → j < n → n ≤ Q.length → Hp (upQ Q j) n ∧ (upQ Q j).Perm Q ∧ (upQ Q j).length = Q.length ∧ ∀ k, n ≤ k → tg (upQ Q j) k = tg Q k := by
  intro j
  induction j using Nat.strongRecOn with
  | ind j ih =>
    intro Q h hn hl
    rw [upQ]
    by_cases hj : 0 < j
    · rw [dif_pos hj]
      by_cases hlt : tlt (tg Q j) (tg Q (par j)) = true
      · rw [if_pos hlt]
        have hp : par j < j := by unfold par; omega
        obtain ⟨h1, h2, h3, h4⟩ := ih (par j) hp (sw Q (par j) j) (up_step h hj hn hl hlt) (by omega) (by rw [sw_len]; exact hl)
        refine ⟨h1, h2.trans (sw_perm (by omega) (by omega)), h3.trans (sw_len _ _ _), fun k hk => (h4 k hk).trans ?_⟩
        rw [tg_sw (by omega) (by omega), if_neg (by omega), if_neg (by omega)]
      · rw [if_neg hlt]
        refine ⟨fun k h0 hk => ?_, List.Perm.refl _, rfl, fun _ _ => rfl⟩
        by_cases e : k = j
        · subst e
          simpa using hlt
        · exact h.a k h0 hk e
    · rw [dif_neg hj]
      exact ⟨fun k h0 hk => h.a k h0 hk (by omega), List.Perm.refl _, rfl, fun _ _ => rfl⟩
theorem kid_least {Q : List Tm} {i n k : Nat} (h0 : 0 < k) (hk : k < n) (hp : par k = i) : tlt (tg Q k) (tg Q (kid Q i n)) = false := by
  have hc : k = 2 * i + 1 ∨ k = 2 * i + 2 := by unfold par at hp; omega
  unfold kid
  split
  · rename_i h
    rcases hc with rfl | rfl
    · exact tlt_asym h.2
    · exact tlt_irr _
  · rename_i h
    rcases hc with rfl | rfl
    · exact tlt_irr _
    · cases he : tlt (tg Q (2 * i + 2)) (tg Q (2 * i + 1))
      · rfl
      · exact absurd ⟨hk, he⟩ h
/-- One step down: what stood at i may now be too late at the lesser one below; all else is well. -/
theorem dn_step {Q : List Tm} {n i : Nat} (h : Dn Q n i) (hn : 2 * i + 1 < n) (hl : n ≤ Q.length) (hlt : tlt (tg Q (kid Q i n)) (tg Q i) = true) :
    ∀ k, 0 < k → k < n → par k ≠ kid Q i n → tlt (tg (sw Q i (kid Q i n)) k) (tg (sw Q i (kid Q i n)) (par k)) = false := by
  obtain ⟨g1, g2, g3⟩ := kid_ge Q i n
  replace g2 := g2 hn
  have hleast := fun k => @kid_least Q i n k
  generalize kid Q i n = j at *
  have ht := fun k => tg_sw (Q := Q) (a := i) (b := j) (by omega) (by omega) k
  intro k h0 hk hne
  rw [ht k, ht (par k), if_neg (show ¬ par k = j from hne)]
  by_cases h1 : k = j
  · subst h1
    rw [if_pos rfl, if_pos g3]
    exact tlt_asym hlt
  · rw [if_neg h1]
    by_cases h2 : k = i
    · subst h2
      rw [if_pos rfl, if_neg (by unfold par; omega)]
      exact h.b h0 j (by omega) g2 g3
    · rw [if_neg h2]
      by_cases h3 : par k = i
      · rw [if_pos h3]
        exact hleast k h0 hk h3
      · rw [if_neg h3]
        exact h.a k h0 hk h2 h3
theorem dn_next {Q : List Tm} {n i : Nat} (h : Dn Q n i) (hn : 2 * i + 1 < n) (hl : n ≤ Q.length) (hlt : tlt (tg Q (kid Q i n)) (tg Q i) = true) : Dn (sw Q i (kid Q i n)) n (kid Q i n) := by
  have hs := dn_step h hn hl hlt
  obtain ⟨g1, g2, g3⟩ := kid_ge Q i n
  replace g2 := g2 hn
  refine ⟨fun k h0 hk _ hp => hs k h0 hk hp, fun h0' k h0 hk hp => ?_⟩
  generalize kid Q i n = j at *
  have hkj : k ≠ j := by intro e; subst e; unfold par at hp; omega
  have hki : k ≠ i := by unfold par at hp; omega
  rw [g3, tg_sw (by omega) (by omega) k, tg_sw (by omega) (by omega) i, if_neg hkj, if_neg hki, if_neg (by omega), if_pos rfl]
  have := h.a k h0 hk hki (by omega)
  rwa [hp] at this
/-- Down, where what stands at i is not too early. -/
theorem dn_ok (n : Nat) : ∀ (m i : Nat) (Q : List Tm), n - i ≤ m → Dn Q n i → (0 < i → tlt (tg Q i) (tg Q (par i)) = false) → i < n → n ≤ Q.length →
    Hp (dnQ Q i n).1 n ∧ (dnQ Q i n).1.Perm Q ∧ (dnQ Q i n).1.length = Q.length ∧ (∀ k, n ≤ k → tg (dnQ Q i n).1 k = tg Q k) ∧ i ≤ (dnQ Q i n).2 := by
  intro m
  induction m with
  | zero =>
    intro i Q hm _ _ hi _
    omega
  | succ m ih =>
    intro i Q hm h hi hn hl
    rw [dnQ]
    by_cases hc : 2 * i + 1 < n
    · rw [dif_pos hc]
      by_cases hlt : tlt (tg Q (kid Q i n)) (tg Q i) = true
      · rw [if_pos hlt]
        have hs := dn_step h hc hl hlt
        have hx := dn_next h hc hl hlt
        obtain ⟨g1, g2, g3⟩ := kid_ge Q i n
        replace g2 := g2 hc
        generalize kid Q i n = j at *
        obtain ⟨h1, h2, h3, h4, h5⟩ := ih j (sw Q i j) (by omega) hx (fun h0 => hs j h0 g2 (by unfold par; omega)) g2 (by rw [sw_len]; exact hl)
        refine ⟨h1, h2.trans (sw_perm (by omega) (by omega)), h3.trans (sw_len _ _ _), fun k hk => (h4 k hk).trans ?_, by omega⟩
        rw [tg_sw (by omega) (by omega), if_neg (by omega), if_neg (by omega)]
      · rw [if_neg hlt]
        refine ⟨fun k h0 hk => ?_, List.Perm.refl _, rfl, fun _ _ => rfl, Nat.le_refl _⟩
        by_cases e : k = i
        · subst e
          exact hi h0
        · by_cases h3 : par k = i
          · rw [h3]
            exact tle_trans (kid_least h0 hk h3) (by simpa using hlt)
          · exact h.a k h0 hk e h3
    · rw [dif_neg hc]
      refine ⟨fun k h0 hk => ?_, List.Perm.refl _, rfl, fun _ _ => rfl, Nat.le_refl _⟩
      by_cases e : k = i
      · subst e
        exact hi h0
      · exact h.a k h0 hk e (by unfold par; omega)
/-- Down from anywhere: all is well; or nothing has moved, and what stands there may only be too early. -/
theorem dn_any {n i : Nat} {Q : List Tm} (h : Dn Q n i) (hn : i < n) (hl : n ≤ Q.length) :
    ((dnQ Q i n).1 = Q ∧ (dnQ Q i n).2 = i ∧ Up Q n i) ∨ (i < (dnQ Q i n).2 ∧ Hp (dnQ Q i n).1 n ∧ (dnQ Q i n).1.Perm Q ∧ (dnQ Q i n).1.length = Q.length ∧ ∀ k, n ≤ k → tg (dnQ Q i n).1 k = tg Q k) := by
  rw [dnQ]
  by_cases hc : 2 * i + 1 < n
  · rw [dif_pos hc]
    by_cases hlt : tlt (tg Q (kid Q i n)) (tg Q i) = true
    · rw [if_pos hlt]
      have hs := dn_step h hc hl hlt
      have hx := dn_next h hc hl hlt
      obtain ⟨g1, g2, g3⟩ := kid_ge Q i n
      replace g2 := g2 hc
      generalize kid Q i n = j at *
      obtain ⟨h1, h2, h3, h4, h5⟩ := dn_ok n (n - j) j (sw Q i j) (Nat.le_refl _) hx (fun h0 => hs j h0 g2 (by unfold par; omega)) g2 (by rw [sw_len]; exact hl)
      refine .inr ⟨by omega, h1, h2.trans (sw_perm (by omega) (by omega)), h3.trans (sw_len _ _ _), fun k hk => (h4 k hk).trans ?_⟩
      rw [tg_sw (by omega) (by omega), if_neg (by omega), if_neg (by omega)]
    · rw [if_neg hlt]
      refine .inl ⟨rfl, rfl, ⟨fun k h0 hk hne => ?_, h.b⟩⟩
      by_cases h3 : par k = i
      · rw [h3]
        exact tle_trans (kid_least h0 hk h3) (by simpa using hlt)
      · exact h.a k h0 hk hne h3
  · rw [dif_neg hc]
    exact .inl ⟨rfl, rfl, ⟨fun k h0 hk hne => h.a k h0 hk hne (by unfold par; omega), h.b⟩⟩
theorem dn_snd (n : Nat) : ∀ (m i : Nat) (Q : List Tm), n - i ≤ m → i ≤ (dnQ Q i n).2 ∧ (dnQ Q i n).1.length = Q.length ∧ (i < n → (dnQ Q i n).2 < n) := by
  intro m
  induction m with
  | zero =>
    intro i Q hm
    rw [dnQ, dif_neg (by omega)]
    exact ⟨Nat.le_refl _, rfl, fun h => h⟩
  | succ m ih =>
    intro i Q hm
    rw [dnQ]
    by_cases hc : 2 * i + 1 < n
    · rw [dif_pos hc]
      split
      · obtain ⟨g1, g2, g3⟩ := kid_ge Q i n
        replace g2 := g2 hc
        obtain ⟨h1, h2, h3⟩ := ih (kid Q i n) (sw Q i (kid Q i n)) (by omega)
        exact ⟨by omega, h2.trans (sw_len _ _ _), fun _ => h3 g2⟩
      · exact ⟨Nat.le_refl _, rfl, fun h => h⟩
    · rw [dif_neg hc]
      exact ⟨Nat.le_refl _, rfl, fun h => h⟩
theorem hp_least {Q : List Tm} {n : Nat} (h : Hp Q n) : ∀ k, k < n → tlt (tg Q k) (tg Q 0) = false := by
  intro k
  induction k using Nat.strongRecOn with
  | ind k ih =>
    intro hk
    by_cases h0 : k = 0
    · subst h0
      exact tlt_irr _
    · exact tle_trans (h k (by omega) hk) (ih (par k) (by unfold par; omega) (by unfold par; omega))

/-- Nothing but blocks of F has turned, and new blocks. -/
structure Kf (F : Nat → Prop) (w w' : World) : Prop where
  os : w'.os = w.os
  tape : w'.tape = w.tape
  output : w'.output = w.output
  size : w.heap.size ≤ w'.heap.size
  block : ∀ k, k < w.heap.size → ¬ F k → w'.heap[k]? = w.heap[k]?
theorem Kf.refl (F : Nat → Prop) (w : World) : Kf F w w := ⟨rfl, rfl, rfl, Nat.le_refl _, fun _ _ _ => rfl⟩
/-- What is there of F, and what is new since w. -/
def nF (F : Nat → Prop) (w : World) : Nat → Prop := fun j => F j ∨ w.heap.size ≤ j
theorem Kf.trans {F : Nat → Prop} {a b c : World} (h : Kf F a b) (k : Kf F b c) : Kf F a c :=
  ⟨k.os.trans h.os, k.tape.trans h.tape, k.output.trans h.output, Nat.le_trans h.size k.size, fun j hj hn => (k.block j (Nat.lt_of_lt_of_le hj h.size) hn).trans (h.block j hj hn)⟩
theorem Kf.transN {F : Nat → Prop} {a b c : World} (h : Kf F a b) (k : Kf (nF F a) b c) : Kf F a c :=
  ⟨k.os.trans h.os, k.tape.trans h.tape, k.output.trans h.output, Nat.le_trans h.size k.size, fun j hj hn => (k.block j (Nat.lt_of_lt_of_le hj h.size) (fun e => e.elim hn (fun e => by omega))).trans (h.block j hj hn)⟩
theorem Kf.of {F : Nat → Prop} {B : Nat} {a b : World} (h : Below B a b) (hB : a.heap.size ≤ B) : Kf F a b := ⟨h.os, h.tape, h.output, h.size, fun k hk _ => h.block k (by omega)⟩
theorem Kf.grown {F : Nat → Prop} {a b : World} {row : Option Nat} (h : a.grownBy b row) (hr : ∀ k, row = some k → F k) : Kf F a b := ⟨h.os, h.tape, h.output, h.size, fun k hk hn => h.block k hk (fun e => hn (hr k e.symm))⟩
theorem Kf.set {F : Nat → Prop} {X i : Nat} {a b : World} (h : Kf F a b) (hX : F X) (u : Value) : Kf F a (b.setCell ⟨X, i, none⟩ u) :=
  ⟨h.os, h.tape, h.output, by simpa using h.size, fun k hk hn => (Below.heap_setCell _ _ _ _ (fun e => hn (by have : k = X := e; rw [this]; exact hX))).trans (h.block k hk hn)⟩
theorem Kf.alloc {F : Nat → Prop} {a b : World} (h : Kf F a b) (o : Obj) : Kf F a (b.alloc o) := h.trans (Kf.of ((Below.refl b.heap.size b).alloc (Nat.le_refl _) o) (Nat.le_refl _))
theorem Kf.drew {F : Nat → Prop} {a b : World} (h : Kf F a b) : Kf F a b.drew := ⟨h.os, h.tape, h.output, h.size, h.block⟩
theorem Kf.drewN {F : Nat → Prop} {a b : World} (h : Kf F a b) (m : Nat) : Kf F a (b.drewN m) := ⟨h.os, h.tape, h.output, h.size, h.block⟩
theorem Kf.mono {F G : Nat → Prop} {a b : World} (h : Kf F a b) (hs : ∀ j, F j → G j) : Kf G a b := ⟨h.os, h.tape, h.output, h.size, fun k hk hn => h.block k hk (fun e => hn (hs k e))⟩
theorem Kf.below {F : Nat → Prop} {B : Nat} {a b : World} (h : Kf F a b) (hF : ∀ j, F j → B ≤ j) (hB : B ≤ a.heap.size) : Below B a b := ⟨h.os, h.tape, h.output, h.size, fun k hk => h.block k (by omega) (fun e => by have := hF k e; omega)⟩

/-- A segment as the program has it: the slice of its bytes, its bytes, how many of them are synced. -/
abbrev Sv := Value × List Int × Nat
abbrev Sm := List Int × Nat
def cv (x : Sv) : Value := .agg #[x.1, .int .i64 (x.2.2 : Int)]
def esV (E : List (Int × Sv)) : List (Int × Value) := E.map fun x => (x.1, cv x.2)
def mmE (E : List (Int × Sv)) : List (Int × Sm) := E.map fun x => (x.1, x.2.2)
/-- The map's value in memory. -/
def MapO (w : World) (mv : Option Nat) (l : List (Int × Value)) : Prop := (mv = none ∧ l = []) ∨ ∃ b, mv = some b ∧ w.ownsMap Try.prog 3 hR b l.length (.map (esD l))
theorem MapO.keep {w w' : World} {mv : Option Nat} {l : List (Int × Value)} (h : MapO w mv l) (hk : ∀ b, mv = some b → b < w.heap.size → w'.heap[b]? = w.heap[b]?) : MapO w' mv l := by
  rcases h with h | ⟨b, rfl, ho⟩
  · exact .inl h
  · have hlt := ho.lt
    obtain ⟨es, clock, hb, F, hs, hD⟩ := ho
    exact .inr ⟨b, rfl, es, clock, (hk b rfl hlt).trans hb, F, hs, hD⟩
/-- The map, and the segments' bytes: all in blocks of F, but not in X. -/
structure PR (w : World) (X : Nat) (F : Nat → Prop) (mv : Option Nat) (E : List (Int × Sv)) : Prop where
  r : Ris E
  m : MapO w mv (esV E)
  fm : ∀ b, mv = some b → F b ∧ b ≠ X
  s : ∀ x ∈ E, Own w 0 5 x.2.1 x.2.2.1 ∧ ∀ g, x.2.1.ownBlock = some g → F g ∧ g ≠ X
  a : E.Pairwise fun x y => ∀ g, x.2.1.ownBlock = some g → y.2.1.ownBlock ≠ some g
theorem ownD_keep {w w' : World} {base e : Nat} {v : Value} {xs : List Int} (h : Own w base e v xs) (hk : ∀ g, v.ownBlock = some g → w'.heap[g]? = w.heap[g]?) : Own w' base e v xs := ownsRow_keep h hk
theorem PR.keep {w w' : World} {X : Nat} {F : Nat → Prop} {mv : Option Nat} {E : List (Int × Sv)} (h : PR w X F mv E) (hk : ∀ b, F b → b ≠ X → b < w.heap.size → w'.heap[b]? = w.heap[b]?) : PR w' X F mv E :=
  ⟨h.r, h.m.keep (fun b hb hlt => hk b (h.fm b hb).1 (h.fm b hb).2 hlt), h.fm, fun x hx => ⟨ownD_keep (h.s x hx).1 (fun g hg => hk g ((h.s x hx).2 g hg).1 ((h.s x hx).2 g hg).2 (ownsRow_lt (h.s x hx).1 g hg).2), (h.s x hx).2⟩, h.a⟩
theorem PR.mono {w : World} {X : Nat} {F G : Nat → Prop} {mv : Option Nat} {E : List (Int × Sv)} (h : PR w X F mv E) (hs : ∀ j, j < w.heap.size → F j → G j) : PR w X G mv E :=
  ⟨h.r, h.m, fun b hb => ⟨hs b (by rcases h.m with ⟨e, _⟩ | ⟨b', e, ho⟩ <;> rw [e] at hb <;> cases hb; exact ho.lt) (h.fm b hb).1, (h.fm b hb).2⟩, fun x hx => ⟨(h.s x hx).1, fun g hg => ⟨hs g (ownsRow_lt (h.s x hx).1 g hg).2 ((h.s x hx).2 g hg).1, ((h.s x hx).2 g hg).2⟩⟩, h.a⟩
theorem PR.on {w w' : World} {X : Nat} {F : Nat → Prop} {mv : Option Nat} {E : List (Int × Sv)} (h : PR w X F mv E) (hb : Below w.heap.size w w') : PR w' X F mv E := h.keep (fun b _ _ hlt => hb.block b hlt)
theorem PR.setX {w : World} {X i : Nat} {F : Nat → Prop} {mv : Option Nat} {E : List (Int × Sv)} (h : PR w X F mv E) (u : Value) : PR (w.setCell ⟨X, i, none⟩ u) X F mv E := h.keep (fun b _ hne _ => Below.heap_setCell _ _ _ _ (fun e => hne e))
/-- A new block's cells, written. -/
theorem PR.setN {w : World} {X N i : Nat} {F : Nat → Prop} {mv : Option Nat} {E : List (Int × Sv)} (h : PR w X F mv E) (hN : ∀ j, F j → j ≠ N) (u : Value) : PR (w.setCell ⟨N, i, none⟩ u) X F mv E := h.keep (fun b hF _ _ => Below.heap_setCell _ _ _ _ (fun e => hN b hF e))

/-- As it is but for the segment n. -/
structure PRx (w : World) (X : Nat) (F : Nat → Prop) (mv : Option Nat) (E : List (Int × Sv)) (n : Int) : Prop where
  r : Ris E
  m : MapO w mv (esV E)
  fm : ∀ b, mv = some b → F b ∧ b ≠ X
  s : ∀ x ∈ E, x.1 ≠ n → Own w 0 5 x.2.1 x.2.2.1 ∧ ∀ g, x.2.1.ownBlock = some g → F g ∧ g ≠ X
  a : E.Pairwise fun x y => x.1 ≠ n → y.1 ≠ n → ∀ g, x.2.1.ownBlock = some g → y.2.1.ownBlock ≠ some g
theorem PR.x {w : World} {X : Nat} {F : Nat → Prop} {mv : Option Nat} {E : List (Int × Sv)} (h : PR w X F mv E) (n : Int) : PRx w X F mv E n :=
  ⟨h.r, h.m, h.fm, fun x hx _ => h.s x hx, h.a.imp (fun h _ _ => h)⟩
theorem PRx.keep {w w' : World} {X : Nat} {F G : Nat → Prop} {mv : Option Nat} {E : List (Int × Sv)} {n : Int} (h : PRx w X F mv E n) (hFG : ∀ j, j < w.heap.size → F j → G j) (hm : ∀ b, mv = some b → b < w.heap.size → w'.heap[b]? = w.heap[b]?)
    (hs : ∀ x ∈ E, x.1 ≠ n → ∀ g, x.2.1.ownBlock = some g → g < w.heap.size → w'.heap[g]? = w.heap[g]?) : PRx w' X G mv E n :=
  ⟨h.r, h.m.keep hm, fun b hb => ⟨hFG b (by rcases h.m with ⟨e, _⟩ | ⟨b', e, ho⟩ <;> rw [e] at hb <;> cases hb; exact ho.lt) (h.fm b hb).1, (h.fm b hb).2⟩, fun x hx hne => ⟨ownD_keep (h.s x hx hne).1 (fun g hg => hs x hx hne g hg (ownsRow_lt (h.s x hx hne).1 g hg).2), fun g hg => ⟨hFG g (ownsRow_lt (h.s x hx hne).1 g hg).2 ((h.s x hx hne).2 g hg).1, ((h.s x hx hne).2 g hg).2⟩⟩, h.a⟩
theorem PRx.on {w w' : World} {X : Nat} {F G : Nat → Prop} {mv : Option Nat} {E : List (Int × Sv)} {n : Int} (h : PRx w X F mv E n) (hb : Below w.heap.size w w') (hFG : ∀ j, j < w.heap.size → F j → G j) : PRx w' X G mv E n := h.keep hFG (fun b _ hlt => hb.block b hlt) (fun _ _ _ g _ hlt => hb.block g hlt)
structure Dk where
  L : List (Int × Sm)
  room : Int
  fuse : Int
  dead : Bool
def usM (L : List (Int × Sm)) : Nat := (L.map fun x => x.2.1.length).sum
/-- The program's disk in block X, its memory in blocks of F, its map's value and its segments as they lie. -/
def PDE (w : World) (X : Nat) (F : Nat → Prop) (d : Dk) (mv : Option Nat) (E : List (Int × Sv)) : Prop :=
  ∃ fz, F X ∧ mmE E = d.L ∧ PR w X F mv E ∧ Bn w X [.map mv, .int .i64 (usM d.L : Int), .int .i64 d.room, .bool d.dead, .bool (decide (0 ≤ d.fuse)), .int .i64 fz] ∧ (0 ≤ d.fuse → fz = d.fuse)
def PD (w : World) (X : Nat) (F : Nat → Prop) (d : Dk) : Prop := ∃ mv E, PDE w X F d mv E
theorem PDE.lt {w : World} {X : Nat} {F : Nat → Prop} {d : Dk} {mv : Option Nat} {E : List (Int × Sv)} (h : PDE w X F d mv E) : X < w.heap.size := by
  obtain ⟨fz, h1, h2, h3, h4, h5⟩ := h
  exact h4.lt
theorem PDE.keep {w w' : World} {X : Nat} {F : Nat → Prop} {d : Dk} {mv : Option Nat} {E : List (Int × Sv)} (h : PDE w X F d mv E) (hk : ∀ b, F b → b < w.heap.size → w'.heap[b]? = w.heap[b]?) : PDE w' X F d mv E := by
  obtain ⟨fz, h1, h2, h3, h4, h5⟩ := h
  exact ⟨fz, h1, h2, h3.keep (fun b hb _ hlt => hk b hb hlt), h4.blk (hk X h1 h4.lt), h5⟩
theorem PDE.mono {w : World} {X : Nat} {F G : Nat → Prop} {d : Dk} {mv : Option Nat} {E : List (Int × Sv)} (h : PDE w X F d mv E) (hs : ∀ j, j < w.heap.size → F j → G j) : PDE w X G d mv E := by
  obtain ⟨fz, h1, h2, h3, h4, h5⟩ := h
  exact ⟨fz, hs X h4.lt h1, h2, h3.mono hs, h4, h5⟩
theorem PDE.on {w w' : World} {X : Nat} {F : Nat → Prop} {d : Dk} {mv : Option Nat} {E : List (Int × Sv)} (h : PDE w X F d mv E) (hb : Below w.heap.size w w') : PDE w' X F d mv E := h.keep (fun b _ hlt => hb.block b hlt)
theorem PD.lt {w : World} {X : Nat} {F : Nat → Prop} {d : Dk} (h : PD w X F d) : X < w.heap.size := by
  obtain ⟨mv, E, h⟩ := h
  exact h.lt
theorem PD.keep {w w' : World} {X : Nat} {F : Nat → Prop} {d : Dk} (h : PD w X F d) (hk : ∀ b, F b → b < w.heap.size → w'.heap[b]? = w.heap[b]?) : PD w' X F d := by
  obtain ⟨mv, E, h⟩ := h
  exact ⟨mv, E, h.keep hk⟩
theorem PD.mono {w : World} {X : Nat} {F G : Nat → Prop} {d : Dk} (h : PD w X F d) (hs : ∀ j, j < w.heap.size → F j → G j) : PD w X G d := by
  obtain ⟨mv, E, h⟩ := h
  exact ⟨mv, E, h.mono hs⟩
theorem PD.on {w w' : World} {X : Nat} {F : Nat → Prop} {d : Dk} (h : PD w X F d) (hb : Below w.heap.size w w') : PD w' X F d := h.keep (fun b _ hlt => hb.block b hlt)

def celT (Q : List Tm) : List Value := Q.flatMap fun x => [.string x.1, .int .i64 x.2]
theorem celT_cons (x : Tm) (r : List Tm) : celT (x :: r) = .string x.1 :: .int .i64 x.2 :: celT r := rfl
theorem celT_app (a b : List Tm) : celT (a ++ b) = celT a ++ celT b := List.flatMap_append
theorem celT_len : ∀ Q : List Tm, (celT Q).length = Q.length * 2
  | [] => rfl
  | x :: r => by
    rw [celT_cons]
    simp only [List.length_cons, celT_len r]
    omega
theorem celT_at : ∀ {Q : List Tm} {i : Nat} (h : i < Q.length), (celT Q)[i * 2]? = some (.string (tg Q i).1) ∧ (celT Q)[i * 2 + 1]? = some (.int .i64 (tg Q i).2)
  | x :: r, 0, _ => ⟨rfl, rfl⟩
  | x :: r, i + 1, h => by
    have := celT_at (Q := r) (i := i) (by simpa using h)
    rw [celT_cons]
    have e : (i + 1) * 2 = i * 2 + 2 := by omega
    rw [e]
    exact this
theorem celT_set : ∀ {Q : List Tm} {i : Nat} (x : Tm), i < Q.length → ((celT Q).set (i * 2) (.string x.1)).set (i * 2 + 1) (.int .i64 x.2) = celT (Q.set i x)
  | y :: r, 0, x, _ => rfl
  | y :: r, i + 1, x, h => by
    have := celT_set (Q := r) (i := i) x (by simpa using h)
    rw [celT_cons, List.set_cons_succ, celT_cons, ← this]
    have e : (i + 1) * 2 = i * 2 + 1 + 1 := by omega
    rw [e]
    rfl
theorem celT_setD {Q : List Tm} {i : Nat} (d : Int) (h : i < Q.length) : (celT Q).set (i * 2 + 1) (.int .i64 d) = celT (Q.set i ((tg Q i).1, d)) := by
  rw [← celT_set _ h]
  have e : (celT Q).set (i * 2) (.string (tg Q i).1) = celT Q := by
    apply List.ext_getElem?
    intro k
    rw [List.getElem?_set]
    split
    · rename_i hk
      subst hk
      rw [if_pos (by rw [celT_len]; omega), (celT_at h).1]
    · rfl
  show _ = ((celT Q).set (i * 2) (.string (tg Q i).1)).set (i * 2 + 1) (.int .i64 d)
  rw [e]
theorem oc_T (Q : List Tm) : ∀ u ∈ celT Q, u.oneCell' = true := by
  intro u hu
  unfold celT at hu
  obtain ⟨x, hx, hu⟩ := List.mem_flatMap.1 hu
  simp only [List.mem_cons, List.not_mem_nil, or_false] at hu
  rcases hu with rfl | rfl <;> rfl
theorem celT_take (Q : List Tm) (i : Nat) : (celT Q).take (i * 2) = celT (Q.take i) := by
  induction Q generalizing i with
  | nil => simp [celT]
  | cons x r ih =>
    cases i with
    | zero => simp [celT]
    | succ i =>
      have e : (i + 1) * 2 = i * 2 + 1 + 1 := by omega
      rw [celT_cons, e, List.take_succ_cons, List.take_succ_cons, ih, List.take_succ_cons, celT_cons]
theorem celT_drop (Q : List Tm) (i : Nat) : (celT Q).drop (i * 2) = celT (Q.drop i) := by
  induction Q generalizing i with
  | nil => simp [celT]
  | cons x r ih =>
    cases i with
    | zero => simp [celT]
    | succ i =>
      have e : (i + 1) * 2 = i * 2 + 1 + 1 := by omega
      rw [celT_cons, e, List.drop_succ_cons, List.drop_succ_cons, ih, List.drop_succ_cons]

/-- A key of the map. -/
def ks (s : ByteArray) : Lit := .string s.data.toList
theorem ks_inj {s t : ByteArray} (h : ks s = ks t) : s = t := by
  have h1 : s.data.toList = t.data.toList := by
    have := h
    unfold ks at this
    exact Lit.string.inj this
  have h2 : s.data = t.data := Array.toList_inj.1 h1
  cases s; cases t
  simp only at h2
  rw [h2]
theorem ks_key (s : ByteArray) : WideAt.IsKeyLit (ks s) := by unfold ks; simp [WideAt.IsKeyLit]
theorem keyS {s : ByteArray} (hs : s.size ≤ 1000) : keyOf Try.prog 9 (.string s) = some (ks s) := WideMaps.keyOf_string_mk Try.underlying9 (by unfold maxLen; omega)
theorem zeroI3 (w : World) : (zeroValue 3).run Try.prog w = .ok (.int .i64 0) w := Try.zeroValue3 w
/-- The map tells each key's place. -/
structure Pl (D : DataW Value) (Q : List Tm) : Prop where
  t : Maps.Tidy D
  n : Maps.size D = Q.length
  a : ∀ i, i < Q.length → Maps.has D (ks (tg Q i).1) = true ∧ ∀ z, D.atKey (ks (tg Q i).1) z = .held (.int .i64 (i : Int))
  b : ∀ s, (∀ i, i < Q.length → (tg Q i).1 ≠ s) → Maps.has D (ks s) = false
theorem Pl.inj {D : DataW Value} {Q : List Tm} (h : Pl D Q) {i j : Nat} (hi : i < Q.length) (hj : j < Q.length) (he : (tg Q i).1 = (tg Q j).1) : i = j := by
  have h1 := (h.a i hi).2 .nil
  have h2 := (h.a j hj).2 .nil
  rw [he, h2] at h1
  simp only [DataW.held.injEq, Value.int.injEq, true_and] at h1
  omega
theorem Pl.nil : Pl (.map []) [] := ⟨tidy_empty, rfl, fun i hi => absurd hi (by simp), fun s _ => rfl⟩
theorem Pl.push {D : DataW Value} {Q : List Tm} (h : Pl D Q) {x : Tm} (hx : ∀ i, i < Q.length → (tg Q i).1 ≠ x.1) : Pl (D.put (ks x.1) (.held (.int .i64 (Q.length : Int)))) (Q ++ [x]) := by
  have hno := h.b x.1 hx
  have htl : ∀ i, i < Q.length → tg (Q ++ [x]) i = tg Q i := fun i hi => by unfold tg; simp [List.getD_eq_getElem?_getD, List.getElem?_append_left hi]
  have htx : tg (Q ++ [x]) Q.length = x := by unfold tg; simp [List.getD_eq_getElem?_getD]
  refine ⟨h.t.put (ks_key _) _, by rw [Maps.size_put h.t, hno]; simp [h.n], fun i hi => ?_, fun s hs => ?_⟩
  · rcases Nat.lt_or_ge i Q.length with hl | hl
    · rw [htl i hl]
      have hne : ks (tg Q i).1 ≠ ks x.1 := fun e => hx i hl (ks_inj e)
      exact ⟨(has_put_other hne _).trans (h.a i hl).1, fun z => (atKey_put_other hne _ z).trans ((h.a i hl).2 z)⟩
    · have : i = Q.length := by simp at hi; omega
      subst this
      rw [htx]
      exact ⟨has_put_same h.t.isMap (ks_key _) _, fun z => atKey_put_same h.t.isMap (ks_key _) _ z⟩
  · have h1 : x.1 ≠ s := by have := hs Q.length (by simp); rwa [htx] at this
    rw [has_put_other (fun e => h1 (ks_inj e).symm)]
    exact h.b s (fun i hi => by have := hs i (by simp; omega); rwa [htl i hi] at this)
theorem Pl.swap {D : DataW Value} {Q : List Tm} (h : Pl D Q) {a b : Nat} (ha : a < Q.length) (hb : b < Q.length) :
    Pl ((D.put (ks (tg Q b).1) (.held (.int .i64 (a : Int)))).put (ks (if a = b then tg Q b else tg Q a).1) (.held (.int .i64 (b : Int)))) (sw Q a b) := by
  have hif : (if a = b then tg Q b else tg Q a) = tg Q a := by split <;> simp_all
  rw [hif]
  have ht := fun k => tg_sw (Q := Q) ha hb k
  have h1 := h.a a ha
  have h2 := h.a b hb
  have hm1 := h.t.put (ks_key (tg Q b).1) (.held (.int .i64 (a : Int)))
  have hh1 : Maps.has (D.put (ks (tg Q b).1) (.held (.int .i64 (a : Int)))) (ks (tg Q a).1) = true := by
    by_cases e : ks (tg Q a).1 = ks (tg Q b).1
    · rw [e]
      exact has_put_same h.t.isMap (ks_key _) _
    · exact (has_put_other e _).trans h1.1
  refine ⟨hm1.put (ks_key _) _, ?_, fun i hi => ?_, fun s hs => ?_⟩
  · rw [Maps.size_put hm1, hh1, Maps.size_put h.t, h2.1, sw_len]
    exact h.n
  · rw [sw_len] at hi
    rw [ht i]
    by_cases hib : i = b
    · subst hib
      rw [if_pos rfl]
      exact ⟨has_put_same hm1.isMap (ks_key _) _, fun z => atKey_put_same hm1.isMap (ks_key _) _ z⟩
    · rw [if_neg hib]
      by_cases hia : i = a
      · subst hia
        rw [if_pos rfl]
        have hne : ks (tg Q b).1 ≠ ks (tg Q i).1 := fun e => hib (h.inj hi hb (ks_inj e).symm)
        exact ⟨(has_put_other hne _).trans (has_put_same h.t.isMap (ks_key _) _), fun z => (atKey_put_other hne _ z).trans (atKey_put_same h.t.isMap (ks_key _) _ z)⟩
      · rw [if_neg hia]
        have n1 : ks (tg Q i).1 ≠ ks (tg Q a).1 := fun e => hia (h.inj hi ha (ks_inj e))
        have n2 : ks (tg Q i).1 ≠ ks (tg Q b).1 := fun e => hib (h.inj hi hb (ks_inj e))
        have h3 := h.a i hi
        exact ⟨(has_put_other n1 _).trans ((has_put_other n2 _).trans h3.1), fun z => (atKey_put_other n1 _ z).trans ((atKey_put_other n2 _ z).trans (h3.2 z))⟩
  · have hsa : (tg Q a).1 ≠ s := by
      have := hs b (by rw [sw_len]; exact hb)
      rwa [ht b, if_pos rfl] at this
    have hsb : (tg Q b).1 ≠ s := by
      by_cases e : a = b
      · subst e
        exact hsa
      · have := hs a (by rw [sw_len]; exact ha)
        rwa [ht a, if_neg e, if_pos rfl] at this
    rw [has_put_other (fun e => hsa (ks_inj e).symm), has_put_other (fun e => hsb (ks_inj e).symm)]
    refine h.b s (fun i hi => ?_)
    by_cases hib : i = b
    · rw [hib]
      exact hsb
    · by_cases hia : i = a
      · rw [hia]
        exact hsa
      · have := hs i (by rw [sw_len]; exact hi)
        rwa [ht i, if_neg hib, if_neg hia] at this
theorem Pl.pop {D : DataW Value} {Q : List Tm} {x : Tm} (h : Pl D (Q ++ [x])) : Pl (D.del (ks x.1)) Q := by
  have htl : ∀ i, i < Q.length → tg (Q ++ [x]) i = tg Q i := fun i hi => by unfold tg; simp [List.getD_eq_getElem?_getD, List.getElem?_append_left hi]
  have htx : tg (Q ++ [x]) Q.length = x := by unfold tg; simp [List.getD_eq_getElem?_getD]
  have hx := h.a Q.length (by simp)
  rw [htx] at hx
  refine ⟨h.t.del _, ?_, fun i hi => ?_, fun s hs => ?_⟩
  · have := Maps.size_del h.t (k := ks x.1)
    rw [hx.1, h.n] at this
    simp at this
    omega
  · have hi' : i < (Q ++ [x]).length := by simp; omega
    have hne : ks (tg Q i).1 ≠ ks x.1 := fun e => by
      have := h.inj hi' (show Q.length < (Q ++ [x]).length by simp) (by rw [htl i hi, htx]; exact ks_inj e)
      omega
    have := h.a i hi'
    rw [htl i hi] at this
    exact ⟨(has_del_other hne).trans this.1, fun z => (atKey_del_other hne z).trans (this.2 z)⟩
  · by_cases e : x.1 = s
    · rw [e]
      exact has_del_same
    · rw [has_del_other (fun e2 => e (ks_inj e2).symm)]
      refine h.b s (fun i hi => ?_)
      rcases Nat.lt_or_ge i Q.length with hl | hl
      · rw [htl i hl]
        exact hs i hl
      · have : i = Q.length := by simp at hi; omega
        subst this
        rw [htx]
        exact e
/-- A time is another. -/
theorem Pl.due {D : DataW Value} {Q : List Tm} (h : Pl D Q) {i : Nat} (hi : i < Q.length) (d : Int) : Pl D (Q.set i ((tg Q i).1, d)) := by
  have ht : ∀ k, k < Q.length → (tg (Q.set i ((tg Q i).1, d)) k).1 = (tg Q k).1 := fun k hk => by
    unfold tg
    by_cases e : i = k
    · subst e
      simp [List.getD_eq_getElem?_getD, hi]
    · simp [List.getD_eq_getElem?_getD, List.getElem?_set, e]
  refine ⟨h.t, by rw [List.length_set]; exact h.n, fun k hk => ?_, fun s hs => h.b s (fun k hk => ?_)⟩
  · rw [List.length_set] at hk
    rw [ht k hk]
    exact h.a k hk
  · rw [← ht k hk]
    exact hs k (by rw [List.length_set]; exact hk)
/-- As many entries as the map holds. -/
theorem ownsMap_size {P : Program} {k : TypeId} {w : World} {b n : Nat} {D : DataW Value} (h : w.ownsMap P k hR b n D) : w.ownsMap P k hR b (Maps.size D) D := by
  obtain ⟨es, clock, hb, F, hs, hD⟩ := h
  refine ⟨es, clock, hb, F, ?_, hD⟩
  rw [hD]
  show es.size ≤ ((es.toList.map (WideElems.rg P k hR)).foldr DataW.insert []).length
  rw [length_sorted]
  simp
def MapT (w : World) (mv : Option Nat) (Q : List Tm) : Prop := (mv = none ∧ Q = []) ∨ ∃ b D, mv = some b ∧ Pl D Q ∧ w.ownsMap Try.prog 9 hR b Q.length D
theorem MapT.keep {w w' : World} {mv : Option Nat} {Q : List Tm} (h : MapT w mv Q) (hk : ∀ b, mv = some b → b < w.heap.size → w'.heap[b]? = w.heap[b]?) : MapT w' mv Q := by
  rcases h with h | ⟨b, D, rfl, hp, ho⟩
  · exact .inl h
  · have hlt := ho.lt
    obtain ⟨es, clock, hb, F, hs, hD⟩ := ho
    exact .inr ⟨b, D, rfl, hp, es, clock, (hk b rfl hlt).trans hb, F, hs, hD⟩
theorem MapT.lt {w : World} {mv : Option Nat} {Q : List Tm} (h : MapT w mv Q) : ∀ b, mv = some b → b < w.heap.size := by
  rcases h with ⟨rfl, _⟩ | ⟨b, D, rfl, hp, ho⟩
  · intro b hb
    cases hb
  · intro c hc
    cases hc
    exact ho.lt
theorem MapT.hit {w : World} {mv : Option Nat} {Q : List Tm} (h : MapT w mv Q) {i : Nat} (hi : i < Q.length) (hs : (tg Q i).1.size ≤ 1000) :
    (Instr.lookup 34 (.map mv) (.string (tg Q i).1) true).run Try.prog w = .ok (.tuple #[.int .i64 (i : Int), .bool true]) w := by
  rcases h with ⟨rfl, rfl⟩ | ⟨b, D, rfl, hp, ho⟩
  · simp at hi
  · obtain ⟨v, ps, hr, hv⟩ := ho.look_ok (string_keyed Try.underlying9) Try.underlying34 (zeroI3 w) (zd := .held (.int .i64 0)) (zp := []) rfl (keyS hs)
    rw [(hp.a i hi).2] at hv
    rw [(hp.a i hi).1] at hr
    simp only [hR, Option.some.injEq, Prod.mk.injEq, DataW.held.injEq] at hv
    rw [hr, hv.1]
theorem MapT.miss {w : World} {mv : Option Nat} {Q : List Tm} (h : MapT w mv Q) {s : ByteArray} (hs : s.size ≤ 1000) (hn : ∀ i, i < Q.length → (tg Q i).1 ≠ s) :
    (Instr.lookup 34 (.map mv) (.string s) true).run Try.prog w = .ok (.tuple #[.int .i64 0, .bool false]) w := by
  rcases h with ⟨rfl, rfl⟩ | ⟨b, D, rfl, hp, ho⟩
  · rw [Maps.look_nil true (string_keyed Try.underlying9) Try.underlying34 (zeroI3 w) (keyS hs)]
    rfl
  · obtain ⟨v, ps, hr, hv⟩ := ho.look_ok (string_keyed Try.underlying9) Try.underlying34 (zeroI3 w) (zd := .held (.int .i64 0)) (zp := []) rfl (keyS hs)
    have h1 := hp.b s hn
    rw [atKey_of_not_has h1] at hv
    rw [h1] at hr
    simp only [hR, Option.some.injEq, Prod.mk.injEq, DataW.held.injEq] at hv
    rw [hr, hv.1]
/-- The program's timers in block X: the heap's row v, the map mv. All in blocks of F. -/
structure PT (w : World) (X : Nat) (F : Nat → Prop) (Q : List Tm) (v : Value) (mv : Option Nat) : Prop where
  x : F X
  c : Bn w X [v, .map mv]
  o : w.ownsRow 0 56 2 v Q.length (celT Q)
  oo : ∀ g, v.ownBlock = some g → F g ∧ g ≠ X
  m : MapT w mv Q
  mm : ∀ b, mv = some b → F b ∧ b ≠ X ∧ v.ownBlock ≠ some b
  s : ∀ x ∈ Q, x.1.size ≤ 1000
theorem PT.keep {w w' : World} {X : Nat} {F H : Nat → Prop} {Q : List Tm} {v : Value} {mv : Option Nat} (h : PT w X F Q v mv) (hk : ∀ b, F b → b < w.heap.size → w'.heap[b]? = w.heap[b]?) (hFH : ∀ j, j < w.heap.size → F j → H j) : PT w' X H Q v mv :=
  ⟨hFH X h.c.lt h.x, h.c.blk (hk X h.x h.c.lt), ownsRow_keep h.o (fun g hg => hk g (h.oo g hg).1 (ownsRow_lt h.o g hg).2), fun g hg => ⟨hFH g (ownsRow_lt h.o g hg).2 (h.oo g hg).1, (h.oo g hg).2⟩,
    h.m.keep (fun b hb hlt => hk b (h.mm b hb).1 hlt), fun b hb => ⟨hFH b (h.m.lt b hb) (h.mm b hb).1, (h.mm b hb).2⟩, h.s⟩
theorem PT.on {w w' : World} {X : Nat} {F : Nat → Prop} {Q : List Tm} {v : Value} {mv : Option Nat} (h : PT w X F Q v mv) (hb : Below w.heap.size w w') : PT w' X F Q v mv := h.keep (fun b _ hlt => hb.block b hlt) (fun _ _ h => h)
theorem PT.lt {w : World} {X : Nat} {F : Nat → Prop} {Q : List Tm} {v : Value} {mv : Option Nat} (h : PT w X F Q v mv) : X < w.heap.size := h.c.lt
theorem PT.form {w : World} {X : Nat} {F : Nat → Prop} {Q : List Tm} {v : Value} {mv : Option Nat} (h : PT w X F Q v mv) : ∃ a cap, v = .slice a Q.length cap ∧ Q.length ≤ cap ∧ cap ≤ maxLen := by
  rcases h.o.2 with ⟨h1, h2⟩ | ⟨g, cap, cur, h1, _, _, h3, h4, _⟩
  · exact ⟨none, 0, by rw [h1, h2], by omega, by simp [maxLen]⟩
  · exact ⟨_, _, h1, h3, h4⟩
theorem PT.at {w : World} {X : Nat} {F : Nat → Prop} {Q : List Tm} {v : Value} {mv : Option Nat} (h : PT w X F Q v mv) (hn : 0 < Q.length) : ∃ g cap, v = .slice (some ⟨g, 0, none⟩) Q.length cap ∧ Q.length ≤ cap ∧ cap ≤ maxLen ∧ g < w.heap.size ∧
    (∀ i, i < Q.length → w.cell? ⟨g, i * 2, none⟩ = some (.string (tg Q i).1) ∧ w.cell? ⟨g, i * 2 + 1, none⟩ = some (.int .i64 (tg Q i).2)) ∧ ∀ j, w.frozen? ⟨g, j, none⟩ = false := by
  have hc := fun g => World.ownsRow.cells h.o (g := g)
  have ho := h.o
  rcases ho.2 with ⟨_, h2⟩ | ⟨g, cap, cur, e, _, hg, h3, h4, _⟩
  · omega
  · refine ⟨g, cap, e, h3, h4, (Array.getElem?_eq_some_iff.1 hg).1, fun i hi => ?_, fun j => ?_⟩
    · obtain ⟨c0, c1⟩ := celT_at hi
      have d0 := hc g (by rw [e]; rfl) _ _ c0
      have d1 := hc g (by rw [e]; rfl) _ _ c1
      rw [add_plain, Nat.zero_add] at d0 d1
      exact ⟨d0, d1⟩
    · rw [e] at ho
      exact World.ownsRow.frozenAt ho j
end Go.Proofs.Ytdificdnicdnnaa

/- The program's disk: burn, New, Used, Down, SetFuse, SetRoom. -/
namespace Go.Proofs.Ytdificdnicdnnaa
open Go.RowKit Go.Lib Go.Maps
set_option linter.unusedSimpArgs false
set_option linter.unusedVariables false
attribute [local go_sem ↓] Go.wp_at_zero Go.wp_at_succ

theorem hideD {p : Prop} (h : p) : Hid p := h

theorem below_drew2 (w : World) (m n : Nat) : Below w.heap.size w ((w.drewN m).drewN n) := ⟨rfl, rfl, rfl, Nat.le_refl _, fun _ _ => rfl⟩
set_option maxHeartbeats 1000000 in
theorem qLen_any {w : World} {X : Nat} {F : Nat → Prop} {Q : List Tm} {v : Value} {mv : Option Nat} (h : PT w X F Q v mv) :
    Calls Try.prog 28 #[.pointer (some ⟨X, 0, none⟩)] w fun e w' => e = .returned (.int .i64 (Q.length : Int)) ∧ w' = w := by
  obtain ⟨c0, f0⟩ := h.c 0 _ rfl
  obtain ⟨a, cap, rfl, _, _⟩ := h.form
  clear h
  go_enter Try.func28, Try.ntmps28
  go_wp2
  go_ret
  exact ⟨rfl, rfl⟩
set_option maxRecDepth 100000 in
set_option maxHeartbeats 4000000 in
theorem qLess_any {w : World} {X : Nat} {F : Nat → Prop} {Q : List Tm} {v : Value} {mv : Option Nat} (h : PT w X F Q v mv) {a b : Nat} (ha : a < Q.length) (hb : b < Q.length) :
    Calls Try.prog 48 #[.pointer (some ⟨X, 0, none⟩), .int .i64 (a : Int), .int .i64 (b : Int)] w fun e w' => e = .returned (.bool (tlt (tg Q a) (tg Q b))) ∧ Below w.heap.size w w' := by
  obtain ⟨c0, f0⟩ := h.c 0 _ rfl
  obtain ⟨g, cap, rfl, _, _, _, hc, _⟩ := h.at (by omega)
  obtain ⟨a0, a1⟩ := hc a ha
  obtain ⟨b0, b1⟩ := hc b hb
  have i1 : (0 : Int) ≤ (a : Int) := by omega
  have i2 : (0 : Int) ≤ (b : Int) := by omega
  have i3 : (a : Int) < (Q.length : Int) := by omega
  have i4 : (b : Int) < (Q.length : Int) := by omega
  clear h hc
  unfold tlt blt
  generalize tg Q a = x at *
  generalize tg Q b = y at *
  obtain ⟨xk, xd⟩ := x
  obtain ⟨yk, yd⟩ := y
  simp only at *
  by_cases hd : xd = yd
  · rw [if_pos hd]
    go_enter Try.func48, Try.ntmps48
    go_wp2
    go_quiet (fail)
    go_wp2
    go_quiet (fail)
    go_wp2
    go_ret
    exact ⟨rfl, below_drew2 _ _ _⟩
  · rw [if_neg hd]
    go_enter Try.func48, Try.ntmps48
    go_wp2
    go_quiet (fail)
    go_wp2
    go_quiet (fail)
    go_wp2
    go_ret
    exact ⟨rfl, below_drew2 _ _ _⟩
theorem tg_mem {Q : List Tm} {i : Nat} (h : i < Q.length) : tg Q i ∈ Q := by rw [tg_of h]; exact List.getElem_mem h
theorem mem_sw {Q : List Tm} {a b : Nat} (ha : a < Q.length) (hb : b < Q.length) {x : Tm} (h : x ∈ sw Q a b) : x ∈ Q := (sw_perm ha hb).mem_iff.1 h
/-- The four cells are laid. -/
def w4 (w : World) (g a b : Nat) (x y : Tm) : World := (((w.setCell ⟨g, a * 2, none⟩ (.string y.1)).setCell ⟨g, a * 2 + 1, none⟩ (.int .i64 y.2)).setCell ⟨g, b * 2, none⟩ (.string x.1)).setCell ⟨g, b * 2 + 1, none⟩ (.int .i64 x.2)
theorem swap_mem {w : World} {X : Nat} {F : Nat → Prop} {Q : List Tm} {g cap : Nat} {mv : Option Nat} (h : PT w X F Q (.slice (some ⟨g, 0, none⟩) Q.length cap) mv) {a b : Nat} (ha : a < Q.length) (hb : b < Q.length) (hl : Q.length ≤ 1000) :
    ∃ w2 w3, (Instr.mapUpdate 34 (.map mv) (.string (tg Q b).1) (.int .i64 (a : Int))).run Try.prog (w4 w g a b (tg Q a) (tg Q b)).drew.drew = .ok () w2 ∧
      (Instr.mapUpdate 34 (.map mv) (.string (tg Q a).1) (.int .i64 (b : Int))).run Try.prog w2.drew = .ok () w3 ∧
      PT w3 X F (sw Q a b) (.slice (some ⟨g, 0, none⟩) Q.length cap) mv ∧ Kf F w w3 ∧
      ((w4 w g a b (tg Q a) (tg Q b)).drew.drew.cell? ⟨X, 0, none⟩ = some (.slice (some ⟨g, 0, none⟩) Q.length cap) ∧ (w4 w g a b (tg Q a) (tg Q b)).drew.drew.cell? ⟨X, 1, none⟩ = some (.map mv) ∧ (w4 w g a b (tg Q a) (tg Q b)).drew.drew.cell? ⟨g, a * 2, none⟩ = some (.string (tg Q b).1)) ∧
      (w2.cell? ⟨X, 0, none⟩ = some (.slice (some ⟨g, 0, none⟩) Q.length cap) ∧ w2.cell? ⟨X, 1, none⟩ = some (.map mv) ∧ w2.cell? ⟨g, b * 2, none⟩ = some (.string (tg Q a).1) ∧ w2.cell? ⟨g, a * 2, none⟩ = some (.string (tg Q b).1)) ∧
      (w3.cell? ⟨X, 0, none⟩ = some (.slice (some ⟨g, 0, none⟩) Q.length cap) ∧ w3.cell? ⟨X, 1, none⟩ = some (.map mv) ∧ w3.cell? ⟨g, b * 2, none⟩ = some (.string (tg Q a).1)) := by
  have hm := h.m
  rcases hm with ⟨_, rfl⟩ | ⟨mb, D, rfl, hp, ho⟩
  · simp at ha
  have hFg := h.oo g rfl
  have hmb := h.mm mb rfl
  have hgm : g ≠ mb := fun e => hmb.2.2 (by rw [← e]; rfl)
  have hgX : g ≠ X := hFg.2
  have hmX : mb ≠ X := hmb.2.1
  have hglt := (ownsRow_lt h.o g rfl).2
  have hmlt := ho.lt
  obtain ⟨o1, n1⟩ := h.o.stored (a * 2) (.string (tg Q b).1)
  obtain ⟨o2, n2⟩ := o1.stored (a * 2 + 1) (.int .i64 (tg Q b).2)
  obtain ⟨o3, n3⟩ := o2.stored (b * 2) (.string (tg Q a).1)
  obtain ⟨o4, n4⟩ := o3.stored (b * 2 + 1) (.int .i64 (tg Q a).2)
  rw [celT_set (tg Q b) ha, celT_set (tg Q a) (by rw [List.length_set]; exact hb)] at o4
  have ho4 : (w4 w g a b (tg Q a) (tg Q b)).ownsMap Try.prog 9 hR mb Q.length D := (((ho.setCell hgm.symm _).setCell hgm.symm _).setCell hgm.symm _).setCell hgm.symm _
  have hB4 : Bn (w4 w g a b (tg Q a) (tg Q b)) X [.slice (some ⟨g, 0, none⟩) Q.length cap, .map (some mb)] := ((((h.c.far hgX _).far hgX _).far hgX _).far hgX _)
  have hk4 : Kf F w (w4 w g a b (tg Q a) (tg Q b)) := (((((Kf.refl F w).set hFg.1 _).set hFg.1 _).set hFg.1 _).set hFg.1 _)
  have o5 : (w4 w g a b (tg Q a) (tg Q b)).ownsRow 0 56 2 (.slice (some ⟨g, 0, none⟩) Q.length cap) Q.length (celT (sw Q a b)) := o4
  have hs4 : (w4 w g a b (tg Q a) (tg Q b)).heap.size = w.heap.size := by unfold w4; simp
  generalize w4 w g a b (tg Q a) (tg Q b) = W at *
  clear o1 o2 o3 o4 n1 n2 n3 n4
  have hsb : (tg Q b).1.size ≤ 1000 := h.s _ (tg_mem hb)
  have hsa : (tg Q a).1.size ≤ 1000 := h.s _ (tg_mem ha)
  obtain ⟨w2, r2, ho2, ht2⟩ := (ho4.drew.drew).store (string_keyed Try.underlying9) Try.underlying34 (by unfold maxLen; omega) (val := .int .i64 (a : Int)) (d := .held (.int .i64 (a : Int))) (ps := []) (keyS hsb) rfl
  obtain ⟨w3, r3, ho3, ht3⟩ := (ho2.drew).store (string_keyed Try.underlying9) Try.underlying34 (by unfold maxLen; omega) (val := .int .i64 (b : Int)) (d := .held (.int .i64 (b : Int))) (ps := []) (keyS hsa) rfl
  have g2 := ht2.grown
  have g3 := ht3.grown
  have s2 : w.heap.size ≤ w2.heap.size := by
    have : W.heap.size ≤ w2.heap.size := g2.size
    omega
  have bl2 : ∀ k, k < w.heap.size → k ≠ mb → w2.heap[k]? = W.heap[k]? := fun k hk hne => g2.block k (by show k < W.heap.size; omega) (fun e => hne (Option.some.inj e))
  have bl3 : ∀ k, k < w.heap.size → k ≠ mb → w3.heap[k]? = W.heap[k]? := fun k hk hne => (g3.block k (by show k < w2.heap.size; omega) (fun e => hne (Option.some.inj e))).trans (bl2 k hk hne)
  have hXlt := h.lt
  have hpl := hp.swap ha hb
  rw [show (if a = b then tg Q b else tg Q a) = tg Q a by split <;> simp_all] at hpl
  have hom := ownsMap_size ho3
  rw [hpl.n] at hom
  have c2 : Bn w2 X [.slice (some ⟨g, 0, none⟩) Q.length cap, .map (some mb)] := hB4.blk (bl2 X hXlt hmX.symm)
  have c3 : Bn w3 X [.slice (some ⟨g, 0, none⟩) Q.length cap, .map (some mb)] := hB4.blk (bl3 X hXlt hmX.symm)
  have p3 : w3.ownsRow 0 56 2 (.slice (some ⟨g, 0, none⟩) Q.length cap) Q.length (celT (sw Q a b)) := ownsRow_keep o5 (fun k hk => bl3 k (by have := (ownsRow_lt o5 k hk).2; omega) (fun e => by subst e; simp [Value.ownBlock] at hk; exact hgm hk))
  have p2 : w2.ownsRow 0 56 2 (.slice (some ⟨g, 0, none⟩) Q.length cap) Q.length (celT (sw Q a b)) := ownsRow_keep o5 (fun k hk => bl2 k (by have := (ownsRow_lt o5 k hk).2; omega) (fun e => by subst e; simp [Value.ownBlock] at hk; exact hgm hk))
  have hla : a < (sw Q a b).length := by rw [sw_len]; exact ha
  have hlb : b < (sw Q a b).length := by rw [sw_len]; exact hb
  have ca := (celT_at hla).1
  have cb := (celT_at hlb).1
  rw [tg_sw ha hb a] at ca
  rw [tg_sw ha hb b, if_pos rfl] at cb
  have ca' : (celT (sw Q a b))[a * 2]? = some (.string (tg Q b).1) := by
    by_cases e : a = b
    · subst e
      rw [if_pos rfl] at ca
      exact ca
    · rw [if_neg e, if_pos rfl] at ca
      exact ca
  have at0 := World.ownsRow.cells o5 (g := g) rfl _ _ ca'
  have at2 := World.ownsRow.cells p2 (g := g) rfl _ _ ca'
  have bt2 := World.ownsRow.cells p2 (g := g) rfl _ _ cb
  have bt3 := World.ownsRow.cells p3 (g := g) rfl _ _ cb
  rw [add_plain, Nat.zero_add] at at0 at2 bt2 bt3
  refine ⟨w2, w3, r2, r3, ⟨h.x, c3, by rw [sw_len]; exact p3, fun k hk => h.oo k hk, .inr ⟨mb, _, rfl, hpl, hom⟩, h.mm, fun x hx => h.s x (mem_sw ha hb hx)⟩, ?_, ⟨(hB4 0 _ rfl).1, (hB4 1 _ rfl).1, at0⟩, ⟨(c2 0 _ rfl).1, (c2 1 _ rfl).1, bt2, at2⟩, ⟨(c3 0 _ rfl).1, (c3 1 _ rfl).1, bt3⟩⟩
  exact ((hk4.drew.drew).trans (Kf.grown g2 (fun k hk => by have := Option.some.inj hk; subst this; exact hmb.1))).drew.trans (Kf.grown g3 (fun k hk => by have := Option.some.inj hk; subst this; exact hmb.1))
set_option maxRecDepth 100000 in
set_option maxHeartbeats 4000000 in
theorem qSwap_any {w : World} {X : Nat} {F : Nat → Prop} {Q : List Tm} {v : Value} {mv : Option Nat} (h : PT w X F Q v mv) {a b : Nat} (ha : a < Q.length) (hb : b < Q.length) (hl : Q.length ≤ 1000) :
    Calls Try.prog 51 #[.pointer (some ⟨X, 0, none⟩), .int .i64 (a : Int), .int .i64 (b : Int)] w fun e w' => e = .returned (.tuple #[]) ∧ PT w' X F (sw Q a b) v mv ∧ Kf F w w' := by
  obtain ⟨c0, f0⟩ := h.c 0 _ rfl
  obtain ⟨c1, f1⟩ := h.c 1 _ rfl
  obtain ⟨g, cap, rfl, _, _, hgl, hc, hfz⟩ := h.at (by omega)
  obtain ⟨w2, w3, r2, r3, hP, hK, ⟨x0, x1, x2⟩, ⟨y0, y1, y2, y3⟩, ⟨z0, z1, z2⟩⟩ := swap_mem h ha hb hl
  obtain ⟨a0, a1⟩ := hc a ha
  obtain ⟨b0, b1⟩ := hc b hb
  have fa0 := hfz (a * 2)
  have fa1 := hfz (a * 2 + 1)
  have fb0 := hfz (b * 2)
  have fb1 := hfz (b * 2 + 1)
  have i1 : (0 : Int) ≤ (a : Int) := by omega
  have i2 : (0 : Int) ≤ (b : Int) := by omega
  have i3 : (a : Int) < (Q.length : Int) := by omega
  have i4 : (b : Int) < (Q.length : Int) := by omega
  have HH := hideD (And.intro hP hK)
  have v0 : w2.drew.cell? ⟨X, 0, none⟩ = some (.slice (some ⟨g, 0, none⟩) Q.length cap) := y0
  have v1 : w2.drew.cell? ⟨X, 1, none⟩ = some (.map mv) := y1
  have v2 : w2.drew.cell? ⟨g, b * 2, none⟩ = some (.string (tg Q a).1) := y2
  clear hc hfz h hP hK
  unfold w4 at *
  by_cases hab : a = b
  · subst hab
    go_enter Try.func51, Try.ntmps51
    go_wp2
    go_region
    go_wp2
    go_region_held_law (fun w' => w'.cell? ⟨X, 0, none⟩ = some (.slice (some ⟨g, 0, none⟩) Q.length cap) ∧ w'.cell? ⟨X, 1, none⟩ = some (.map mv) ∧ w'.cell? ⟨g, a * 2, none⟩ = some (.string (tg Q a).1))
      (first | (with_reducible exact ⟨x0, x1, x2⟩) | (with_reducible exact ⟨y0, y1, y3⟩)) (fail)
    go_wp2
    go_region_held_law (fun w' => w'.cell? ⟨X, 0, none⟩ = some (.slice (some ⟨g, 0, none⟩) Q.length cap) ∧ w'.cell? ⟨X, 1, none⟩ = some (.map mv) ∧ w'.cell? ⟨g, a * 2, none⟩ = some (.string (tg Q a).1))
      (first | (with_reducible exact ⟨y0, y1, y2⟩) | (with_reducible exact ⟨z0, z1, z2⟩) | (with_reducible exact ⟨v0, v1, v2⟩)) (fail)
    go_end0
    exact ⟨rfl, HH.out.1, HH.out.2⟩
  · have hba : ¬ b = a := fun e => hab e.symm
    go_enter Try.func51, Try.ntmps51
    go_wp2
    go_region
    go_wp2
    go_region_held_law (fun w' => w'.cell? ⟨X, 0, none⟩ = some (.slice (some ⟨g, 0, none⟩) Q.length cap) ∧ w'.cell? ⟨X, 1, none⟩ = some (.map mv) ∧ w'.cell? ⟨g, a * 2, none⟩ = some (.string (tg Q b).1))
      (first | (with_reducible exact ⟨x0, x1, x2⟩) | (with_reducible exact ⟨y0, y1, y3⟩)) (fail)
    go_wp2
    go_region_held_law (fun w' => w'.cell? ⟨X, 0, none⟩ = some (.slice (some ⟨g, 0, none⟩) Q.length cap) ∧ w'.cell? ⟨X, 1, none⟩ = some (.map mv) ∧ w'.cell? ⟨g, b * 2, none⟩ = some (.string (tg Q a).1))
      (first | (with_reducible exact ⟨y0, y1, y2⟩) | (with_reducible exact ⟨z0, z1, z2⟩) | (with_reducible exact ⟨v0, v1, v2⟩)) (fail)
    go_end0
    exact ⟨rfl, HH.out.1, HH.out.2⟩
end Go.Proofs.Ytdificdnicdnnaa
