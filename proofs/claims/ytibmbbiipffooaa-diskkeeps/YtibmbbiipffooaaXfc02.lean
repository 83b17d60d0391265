import Derived.Test.YtibmbbiipffooaaXfc01
import Derived.BigQuiet
import Derived.Deep.QuietTactic
import Derived.BigRegion
import Derived.Maps.OwnSet
import Derived.Maps.Views
import Derived.Carry
import Derived.WalkSmall
import Derived.Deep.DeepCutAuto
import Derived.Deep.RegionHeldLaw
import Derived.Deep.RegionLaw
import Derived.Deep.Cut

/- A reader of words in memory. -/
namespace Go.Proofs.Ytibmbbiipffooaa
open Go.RowKit Go.Lib
set_option linter.unusedSimpArgs false
set_option linter.unusedVariables false

/-- Nothing but block X has turned, and new blocks. -/
abbrev Fx (X : Nat) (w w' : World) : Prop := w.grownBy w' (some X)
theorem Fx.refl (X : Nat) (w : World) : Fx X w w := ⟨rfl, rfl, rfl, Nat.le_refl _, fun _ _ _ => rfl⟩
theorem Fx.trans {X : Nat} {a b c : World} (h : Fx X a b) (k : Fx X b c) : Fx X a c :=
  ⟨k.os.trans h.os, k.tape.trans h.tape, k.output.trans h.output, Nat.le_trans h.size k.size, fun j hj hne => (k.block j (Nat.lt_of_lt_of_le hj h.size) hne).trans (h.block j hj hne)⟩
theorem Fx.of {X B : Nat} {a b : World} (h : Below B a b) (hB : a.heap.size ≤ B) : Fx X a b := ⟨h.os, h.tape, h.output, h.size, fun k hk _ => h.block k (by omega)⟩
theorem Fx.setX {X i : Nat} {a b : World} (h : Fx X a b) (u : Value) : Fx X a (b.setCell ⟨X, i, none⟩ u) :=
  ⟨h.os, h.tape, h.output, by simpa using h.size, fun k hk hne => (Below.heap_setCell _ _ _ _ (fun e => hne (congrArg some e))).trans (h.block k hk hne)⟩
theorem Fx.drewN {X : Nat} {a b : World} (h : Fx X a b) (m : Nat) : Fx X a (b.drewN m) := ⟨h.os, h.tape, h.output, h.size, h.block⟩
theorem Fx.drew {X : Nat} {a b : World} (h : Fx X a b) : Fx X a b.drew := ⟨h.os, h.tape, h.output, h.size, h.block⟩
theorem Fx.alloc {X : Nat} {a b : World} (h : Fx X a b) (o : Obj) : Fx X a (b.alloc o) := h.trans (Fx.of ((Below.refl b.heap.size b).alloc (Nat.le_refl _) o) (Nat.le_refl _))
theorem Fx.below {X : Nat} {a b : World} (h : Fx X a b) {B : Nat} (hB : B ≤ X) (hs : B ≤ a.heap.size) : Below B a b := ⟨h.os, h.tape, h.output, h.size, fun k hk => h.block k (by omega) (fun e => by have : k = X := Option.some.inj e; omega)⟩
/-- A new block's cells, written. -/
theorem Fx.setN {X N i : Nat} {a b : World} (h : Fx X a b) (hN : a.heap.size ≤ N) (u : Value) : Fx X a (b.setCell ⟨N, i, none⟩ u) :=
  ⟨h.os, h.tape, h.output, by simpa using h.size, fun k hk hne => (Below.heap_setCell _ _ _ _ (fun e => by have : k = N := e; omega)).trans (h.block k hk hne)⟩
/-- The words, in memory apart from X. -/
def RdL (w : World) (X : Nat) (a : Option Addr) (ws : List Wd) : Prop := ∀ (i : Nat) (hi : i < ws.length), ∃ g off, a = some ⟨g, off, none⟩ ∧ g < X ∧ w.cell? ⟨g, off + i * 4, none⟩ = some (.int .i64 ((ws[i]).1 : Int)) ∧ w.cell? ⟨g, off + i * 4 + 1, none⟩ = some (.string (txt (ws[i]).2.1)) ∧ w.cell? ⟨g, off + i * 4 + 2, none⟩ = some (.int .i64 (ws[i]).2.2.1) ∧ w.cell? ⟨g, off + i * 4 + 3, none⟩ = some (.int .i64 (ws[i]).2.2.2)
theorem RdL.fx {w w' : World} {X : Nat} {a : Option Addr} {ws : List Wd} (h : RdL w X a ws) (hX : X < w.heap.size) (hf : Fx X w w') : RdL w' X a ws := fun i hi => by
  obtain ⟨g, off, h1, h3, c0, c1, c2, c3⟩ := h i hi
  have hb : w'.heap[g]? = w.heap[g]? := hf.block g (by omega) (fun e => by have : g = X := Option.some.inj e; omega)
  have hc : ∀ j, w'.cell? ⟨g, j, none⟩ = w.cell? ⟨g, j, none⟩ := fun j => World.cell?_of_block (w := w) (a := ⟨g, j, none⟩) hb
  exact ⟨g, off, h1, h3, (hc _).trans c0, (hc _).trans c1, (hc _).trans c2, (hc _).trans c3⟩
/-- The reader in block X. -/
structure Rr (w : World) (X : Nat) (a : Option Addr) (cap : Nat) (ws : List Wd) (n : Nat) (b : Int) : Prop where
  c0 : w.cell? ⟨X, 0, none⟩ = some (.slice a ws.length cap)
  c1 : w.cell? ⟨X, 1, none⟩ = some (.int .i64 (n : Int))
  c2 : w.cell? ⟨X, 2, none⟩ = some (.int .i64 b)
  f1 : w.frozen? ⟨X, 1, none⟩ = false
  f2 : w.frozen? ⟨X, 2, none⟩ = false
  l : RdL w X a ws
theorem Rr.lt {w : World} {X : Nat} {a : Option Addr} {cap : Nat} {ws : List Wd} {n : Nat} {b : Int} (h : Rr w X a cap ws n b) : X < w.heap.size := World.block_lt_of_cell? w _ h.c0
theorem Rr.on {w w' : World} {X : Nat} {a : Option Addr} {cap : Nat} {ws : List Wd} {n : Nat} {b : Int} (h : Rr w X a cap ws n b) (hb : Below w.heap.size w w') : Rr w' X a cap ws n b := by
  have hX := h.lt
  have hc : ∀ i, w'.cell? ⟨X, i, none⟩ = w.cell? ⟨X, i, none⟩ := fun i => hb.cell (p := ⟨X, i, none⟩) hX
  have hf : ∀ i, w'.frozen? ⟨X, i, none⟩ = w.frozen? ⟨X, i, none⟩ := fun i => hb.frozen (p := ⟨X, i, none⟩) hX
  exact ⟨(hc 0).trans h.c0, (hc 1).trans h.c1, (hc 2).trans h.c2, (hf 1).trans h.f1, (hf 2).trans h.f2, h.l.fx hX (Fx.of hb (Nat.le_refl _))⟩
theorem Rr.set1 {w : World} {X : Nat} {a : Option Addr} {cap : Nat} {ws : List Wd} {n : Nat} {b : Int} (h : Rr w X a cap ws n b) (n' : Nat) : Rr (w.setCell ⟨X, 1, none⟩ (.int .i64 (n' : Int))) X a cap ws n' b :=
  ⟨cell_far4 (by omega) h.c0, cell_same4 h.c1, cell_far4 (by omega) h.c2, (World.frozen?_setCell _ _ _ _).trans h.f1, (World.frozen?_setCell _ _ _ _).trans h.f2, h.l.fx h.lt ((Fx.refl X w).setX _)⟩
theorem Rr.set2 {w : World} {X : Nat} {a : Option Addr} {cap : Nat} {ws : List Wd} {n : Nat} {b : Int} (h : Rr w X a cap ws n b) (b' : Int) : Rr (w.setCell ⟨X, 2, none⟩ (.int .i64 b')) X a cap ws n b' :=
  ⟨cell_far4 (by omega) h.c0, cell_far4 (by omega) h.c1, cell_same4 h.c2, (World.frozen?_setCell _ _ _ _).trans h.f1, (World.frozen?_setCell _ _ _ _).trans h.f2, h.l.fx h.lt ((Fx.refl X w).setX _)⟩
theorem draws (w : World) (m : Nat) : Below w.heap.size w (w.drewN m) := ⟨rfl, rfl, rfl, Nat.le_refl _, fun _ _ => rfl⟩
theorem Rr.far {w : World} {X N i : Nat} {a : Option Addr} {cap : Nat} {ws : List Wd} {n : Nat} {b : Int} (h : Rr w X a cap ws n b) (hN : X < N) (u : Value) : Rr (w.setCell ⟨N, i, none⟩ u) X a cap ws n b := by
  refine ⟨cell_far4 (by omega) h.c0, cell_far4 (by omega) h.c1, cell_far4 (by omega) h.c2, (World.frozen?_setCell _ _ _ _).trans h.f1, (World.frozen?_setCell _ _ _ _).trans h.f2, fun j hj => ?_⟩
  obtain ⟨g, off, h1, h3, d0, d1, d2, d3⟩ := h.l j hj
  exact ⟨g, off, h1, h3, cell_far4 (by omega) d0, cell_far4 (by omega) d1, cell_far4 (by omega) d2, cell_far4 (by omega) d3⟩

/-- A block of cells that may be written. -/
def Bn (w : World) (Y : Nat) (cs : List Value) : Prop := ∀ j u, cs[j]? = some u → w.cell? ⟨Y, j, none⟩ = some u ∧ w.frozen? ⟨Y, j, none⟩ = false
theorem Bn.lt {w : World} {Y : Nat} {c : Value} {cs : List Value} (h : Bn w Y (c :: cs)) : Y < w.heap.size := World.block_lt_of_cell? w _ (h 0 c rfl).1
theorem frozen_of_block {w w' : World} {Y j : Nat} (h : w'.heap[Y]? = w.heap[Y]?) : w'.frozen? ⟨Y, j, none⟩ = w.frozen? ⟨Y, j, none⟩ := by
  unfold World.frozen?
  rw [h]
theorem Bn.blk {w w' : World} {Y : Nat} {cs : List Value} (h : Bn w Y cs) (hb : w'.heap[Y]? = w.heap[Y]?) : Bn w' Y cs := fun j u hu =>
  ⟨keep_cell (p := ⟨Y, j, none⟩) hb (h j u hu).1, (frozen_of_block hb).trans (h j u hu).2⟩
theorem Bn.on {w w' : World} {Y : Nat} {c : Value} {cs : List Value} (h : Bn w Y (c :: cs)) (hb : Below w.heap.size w w') : Bn w' Y (c :: cs) := h.blk (hb.block Y h.lt)
theorem Bn.fx {w w' : World} {X Y : Nat} {c : Value} {cs : List Value} (h : Bn w Y (c :: cs)) (hf : Fx X w w') (hne : Y ≠ X) : Bn w' Y (c :: cs) := h.blk (hf.block Y h.lt (fun e => hne (Option.some.inj e)))
theorem Bn.far {w : World} {Y X i : Nat} {cs : List Value} (h : Bn w Y cs) (hne : X ≠ Y) (v : Value) : Bn (w.setCell ⟨X, i, none⟩ v) Y cs := h.blk (Below.heap_setCell _ _ _ _ (fun e => hne e.symm))
theorem Bn.set {w : World} {Y i : Nat} {cs : List Value} (h : Bn w Y cs) (hi : i < cs.length) (v : Value) : Bn (w.setCell ⟨Y, i, none⟩ v) Y (cs.set i v) := fun j u hu => by
  refine ⟨?_, (World.frozen?_setCell _ _ _ _).trans ?_⟩
  · by_cases hj : i = j
    · subst hj
      rw [List.getElem?_set_self hi] at hu
      obtain rfl := Option.some.inj hu
      exact cell_same4 (h i _ (List.getElem?_eq_getElem hi)).1
    · rw [List.getElem?_set_ne hj] at hu
      exact cell_far4 (by omega) (h j u hu).1
  · have hl : j < cs.length := by
      have := (List.getElem?_eq_some_iff.1 hu).1
      rwa [List.length_set] at this
    exact (h j _ (List.getElem?_eq_getElem hl)).2
theorem Bn.drew {w : World} {Y : Nat} {cs : List Value} (h : Bn w Y cs) : Bn w.drew Y cs := h
theorem Bn.new (w : World) (cs : List Value) (t : TypeId) (n : Nat) (hn : n = w.heap.size) : Bn (w.alloc (.cells cs.toArray t)) n cs := by
  subst hn
  intro j u hu
  refine ⟨?_, by simp⟩
  rw [World.cell?_alloc_new]
  simpa using hu

/-- The slice v reads as the list l, k cells an element. -/
def RdK {α : Type} (ok : Nat → Prop) (w : World) (k : Nat) (R : α → List Value → Prop) (l : List α) (v : Value) : Prop :=
  ∃ a cap, v = .slice a l.length cap ∧ l.length ≤ cap ∧ cap ≤ maxLen ∧
    ∀ (i : Nat) (hi : i < l.length), ∃ b off cs, a = some ⟨b, off, none⟩ ∧ ok b ∧ b < w.heap.size ∧ cs.length = k ∧ R l[i] cs ∧ ∀ j u, cs[j]? = some u → w.cell? ⟨b, off + i * k + j, none⟩ = some u
theorem rdK_none {α : Type} (ok : Nat → Prop) (w : World) (k : Nat) (R : α → List Value → Prop) : RdK ok w k R [] (.slice none 0 0) := ⟨none, 0, rfl, by simp, by simp [maxLen], fun i hi => absurd hi (by simp)⟩
theorem RdK.keep {α : Type} {ok ok' : Nat → Prop} {w w' : World} {k : Nat} {R R' : α → List Value → Prop} {l : List α} {v : Value} (h : RdK ok w k R l v) (hR : ∀ x ∈ l, ∀ u, R x u → R' x u) (hk : ∀ b, ok b → b < w.heap.size → ok' b ∧ w'.heap[b]? = w.heap[b]?) : RdK ok' w' k R' l v := by
  obtain ⟨a, cap, rfl, hc, hm, hcell⟩ := h
  refine ⟨a, cap, rfl, hc, hm, fun i hi => ?_⟩
  obtain ⟨b, off, cs, ha, ho, hb, hl, hr, hcs⟩ := hcell i hi
  obtain ⟨ho', hs⟩ := hk _ ho hb
  refine ⟨b, off, cs, ha, ho', ?_, hl, hR _ (List.getElem_mem hi) _ hr, fun j u hu => keep_cell (p := ⟨b, off + i * k + j, none⟩) hs (hcs j u hu)⟩
  rcases Nat.lt_or_ge b w'.heap.size with h | h
  · exact h
  · rw [Array.getElem?_eq_none h, Array.getElem?_eq_getElem hb] at hs
    cases hs
theorem RdK.form {α : Type} {ok : Nat → Prop} {w : World} {k : Nat} {R : α → List Value → Prop} {l : List α} {v : Value} (h : RdK ok w k R l v) : ∃ a cap, v = .slice a l.length cap ∧ l.length ≤ cap ∧ cap ≤ maxLen := by
  obtain ⟨a, cap, h1, h2, h3, _⟩ := h
  exact ⟨a, cap, h1, h2, h3⟩
/-- A reading that stays where its blocks stay. -/
def Kp {α : Type} (R : (Nat → Prop) → World → α → List Value → Prop) : Prop := ∀ ⦃ok ok' : Nat → Prop⦄ ⦃w w' : World⦄ ⦃x : α⦄ ⦃cs : List Value⦄, R ok w x cs → (∀ b, ok b → b < w.heap.size → ok' b ∧ w'.heap[b]? = w.heap[b]?) → R ok' w' x cs
/-- The slice v is the call's own, from block base on, of k cells an element, and holds l; what lies behind its cells lies apart. -/
def OwnK {α : Type} (w : World) (base e k : Nat) (R : (Nat → Prop) → World → α → List Value → Prop) (v : Value) (l : List α) : Prop :=
  ∃ qs : List (List Value), w.ownsRow base e k v l.length qs.flatten ∧ qs.length = l.length ∧ ∀ (i : Nat) (h : i < l.length) (h' : i < qs.length), (qs[i]).length = k ∧ R (fun b => base ≤ b ∧ v.ownBlock ≠ some b) w l[i] qs[i]
theorem OwnK.keep {α : Type} {w w' : World} {base e k : Nat} {R : (Nat → Prop) → World → α → List Value → Prop} {v : Value} {l : List α} (hR : Kp R) (h : OwnK w base e k R v l) (hk : ∀ b, base ≤ b → b < w.heap.size → w'.heap[b]? = w.heap[b]?) : OwnK w' base e k R v l := by
  obtain ⟨qs, ho, hl, hr⟩ := h
  refine ⟨qs, ownsRow_keep ho (fun g hg => ?_), hl, fun i h h' => ⟨(hr i h h').1, hR (hr i h h').2 (fun b hb hlt => ⟨hb, hk b hb.1 hlt⟩)⟩⟩
  obtain ⟨a, b⟩ := ownsRow_lt ho g hg
  exact hk g a b
theorem OwnK.on {α : Type} {w w' : World} {base e k : Nat} {R : (Nat → Prop) → World → α → List Value → Prop} {v : Value} {l : List α} (hR : Kp R) (h : OwnK w base e k R v l) (hb : Below w.heap.size w w') : OwnK w' base e k R v l := h.keep hR (fun b _ hlt => hb.block b hlt)
theorem OwnK.fx {α : Type} {w w' : World} {base e k X : Nat} {R : (Nat → Prop) → World → α → List Value → Prop} {v : Value} {l : List α} (hR : Kp R) (h : OwnK w base e k R v l) (hf : Fx X w w') (hX : X < base) : OwnK w' base e k R v l :=
  h.keep hR (fun b hb hlt => hf.block b hlt (fun e => by have : b = X := Option.some.inj e; omega))
theorem OwnK.set {α : Type} {w : World} {base e k : Nat} {R : (Nat → Prop) → World → α → List Value → Prop} {v : Value} {l : List α} (hR : Kp R) (h : OwnK w base e k R v l) {X i : Nat} (hX : X < base) (u : Value) : OwnK (w.setCell ⟨X, i, none⟩ u) base e k R v l :=
  h.keep hR (fun b hb _ => Below.heap_setCell _ _ _ _ (fun e => by have : b = X := e; omega))
theorem OwnK.form {α : Type} {w : World} {base e k : Nat} {R : (Nat → Prop) → World → α → List Value → Prop} {v : Value} {l : List α} (h : OwnK w base e k R v l) : ∃ a cap, v = .slice a l.length cap ∧ l.length ≤ cap ∧ cap ≤ maxLen := by
  obtain ⟨qs, ho, _⟩ := h
  rcases ho.2 with ⟨h1, h2⟩ | ⟨g, cap, cur, h1, _, _, h3, h4, _⟩
  · exact ⟨none, 0, by rw [h1, h2], by omega, by simp [maxLen]⟩
  · exact ⟨_, _, h1, h3, h4⟩
theorem flat_at {k : Nat} : ∀ (qs : List (List Value)) (i j : Nat) (h : i < qs.length) (u : Value), (∀ (i : Nat) (h : i < qs.length), (qs[i]).length = k) → (qs[i])[j]? = some u → qs.flatten[i * k + j]? = some u
  | [], i, j, h, u, _, _ => by simp at h
  | x :: t, 0, j, h, u, hk, hu => by
    have hu' : x[j]? = some u := hu
    have hj := (List.getElem?_eq_some_iff.1 hu').1
    rw [List.flatten_cons, Nat.zero_mul, Nat.zero_add, List.getElem?_append_left hj]
    exact hu'
  | x :: t, i + 1, j, h, u, hk, hu => by
    have hx : x.length = k := hk 0 (by simp)
    have e : (i + 1) * k + j = x.length + (i * k + j) := by rw [hx, Nat.succ_mul]; omega
    rw [List.flatten_cons, e, List.getElem?_append_right (by omega), Nat.add_sub_cancel_left]
    exact flat_at t i j (by simpa using h) u (fun i h => hk (i + 1) (by simpa using h)) hu
/-- It reads as the list. -/
theorem OwnK.rd {α : Type} {w : World} {base e k : Nat} {R : (Nat → Prop) → World → α → List Value → Prop} {v : Value} {l : List α} (hR : Kp R) (h : OwnK w base e k R v l) : RdK (fun b => base ≤ b) w k (R (fun b => base ≤ b) w) l v := by
  obtain ⟨qs, ho, hl, hr⟩ := h
  have hc := fun g => World.ownsRow.cells ho (g := g)
  rcases ho.2 with ⟨rfl, hn⟩ | ⟨g, cap, cur, rfl, hb, hg, hnc, hcm, hcs, htake⟩
  · have hx : l = [] := List.eq_nil_of_length_eq_zero hn
    subst hx
    exact rdK_none _ w k _
  · refine ⟨some ⟨g, 0, none⟩, cap, rfl, hnc, hcm, fun i hi => ⟨g, 0, qs[i], rfl, hb, (Array.getElem?_eq_some_iff.1 hg).1, (hr i hi (by omega)).1, hR (hr i hi (by omega)).2 (fun b hb _ => ⟨hb.1, rfl⟩), fun j u hu => ?_⟩⟩
    have := hc g rfl (i * k + j) u (flat_at qs i j (by omega) u (fun i h => (hr i (by omega) h).1) hu)
    rw [add_plain] at this
    rw [Nat.zero_add]
    rwa [Nat.zero_add] at this
theorem RdK.stay {α : Type} {ok ok' : Nat → Prop} {w w' : World} {k : Nat} {R : (Nat → Prop) → World → α → List Value → Prop} {v : Value} {l : List α} (hR : Kp R) (h : RdK ok w k (R ok w) l v) (hk : ∀ b, ok b → b < w.heap.size → ok' b ∧ w'.heap[b]? = w.heap[b]?) : RdK ok' w' k (R ok' w') l v :=
  h.keep (fun x _ u hu => hR hu hk) hk

/-- Nothing but two blocks has turned, and new blocks. -/
structure Fy (X Y : Nat) (w w' : World) : Prop where
  os : w'.os = w.os
  tape : w'.tape = w.tape
  output : w'.output = w.output
  size : w.heap.size ≤ w'.heap.size
  block : ∀ k, k < w.heap.size → k ≠ X → k ≠ Y → w'.heap[k]? = w.heap[k]?
theorem Fy.of {X Y : Nat} {a b : World} (h : Fx X a b) : Fy X Y a b := ⟨h.os, h.tape, h.output, h.size, fun k hk h1 _ => h.block k hk (fun e => h1 (Option.some.inj e))⟩
theorem Fy.trans {X Y : Nat} {a b c : World} (h : Fy X Y a b) (k : Fy X Y b c) : Fy X Y a c :=
  ⟨k.os.trans h.os, k.tape.trans h.tape, k.output.trans h.output, Nat.le_trans h.size k.size, fun j hj h1 h2 => (k.block j (Nat.lt_of_lt_of_le hj h.size) h1 h2).trans (h.block j hj h1 h2)⟩
theorem Fy.setY {X Y i : Nat} {a b : World} (h : Fy X Y a b) (u : Value) : Fy X Y a (b.setCell ⟨Y, i, none⟩ u) :=
  ⟨h.os, h.tape, h.output, by simpa using h.size, fun k hk h1 h2 => (Below.heap_setCell _ _ _ _ (fun e => h2 e)).trans (h.block k hk h1 h2)⟩
end Go.Proofs.Ytibmbbiipffooaa

/- A disk as math: rows of numbered things, rising; what is put into them and taken out of them; a map of the program that holds such a row. -/
namespace Go.Proofs.Ytibmbbiipffooaa
open Go.RowKit Go.Lib Go.Maps
set_option linter.unusedSimpArgs false
set_option linter.unusedVariables false

abbrev Ris {β : Type} (l : List (Int × β)) : Prop := l.Pairwise fun x y => x.1 < y.1
def lk {β : Type} (n : Int) : List (Int × β) → Option β
  | [] => none
  | y :: r => if y.1 = n then some y.2 else lk n r
def pt {β : Type} (n : Int) (b : β) : List (Int × β) → List (Int × β)
  | [] => [(n, b)]
  | y :: r => if n < y.1 then (n, b) :: y :: r else if y.1 = n then (n, b) :: r else y :: pt n b r
def dl {β : Type} (n : Int) (l : List (Int × β)) : List (Int × β) := l.filter fun y => !decide (y.1 = n)

theorem mem_pt {β : Type} {n : Int} {b : β} : ∀ {l : List (Int × β)} {x : Int × β}, Ris l → x ∈ pt n b l → x = (n, b) ∨ (x ∈ l ∧ x.1 ≠ n)
  | [], x, _, h => .inl (by simpa [pt] using h)
  | y :: r, x, hs, h => by
    obtain ⟨h1, h2⟩ := List.pairwise_cons.1 hs
    unfold pt at h
    split at h
    · rename_i hn
      rcases List.mem_cons.1 h with rfl | h
      · exact .inl rfl
      · refine .inr ⟨h, ?_⟩
        rcases List.mem_cons.1 h with rfl | h
        · omega
        · have := h1 x h
          omega
    · split at h
      · rename_i hn
        rcases List.mem_cons.1 h with rfl | h
        · exact .inl rfl
        · have := h1 x h
          exact .inr ⟨List.mem_cons_of_mem _ h, by omega⟩
      · rename_i hn hn2
        rcases List.mem_cons.1 h with rfl | h
        · exact .inr ⟨List.mem_cons_self, hn2⟩
        · rcases mem_pt h2 h with rfl | ⟨h3, h4⟩
          · exact .inl rfl
          · exact .inr ⟨List.mem_cons_of_mem _ h3, h4⟩
theorem ris_pt {β : Type} {n : Int} {b : β} : ∀ {l : List (Int × β)}, Ris l → Ris (pt n b l)
  | [], _ => by simp [pt, Ris]
  | y :: r, hs => by
    obtain ⟨h1, h2⟩ := List.pairwise_cons.1 hs
    unfold pt
    split
    · rename_i hn
      refine List.pairwise_cons.2 ⟨fun x hx => ?_, hs⟩
      rcases List.mem_cons.1 hx with rfl | hx
      · exact hn
      · have := h1 x hx
        show n < x.1
        omega
    · split
      · rename_i hn
        exact List.pairwise_cons.2 ⟨fun x hx => by have := h1 x hx; show n < x.1; omega, h2⟩
      · rename_i hn hn2
        refine List.pairwise_cons.2 ⟨fun x hx => ?_, ris_pt h2⟩
        rcases mem_pt h2 hx with rfl | ⟨h3, _⟩
        · show y.1 < n
          omega
        · exact h1 x h3
theorem ris_dl {β : Type} {n : Int} {l : List (Int × β)} (h : Ris l) : Ris (dl n l) := List.Pairwise.filter _ h
theorem mem_dl {β : Type} {n : Int} {l : List (Int × β)} {x : Int × β} : x ∈ dl n l ↔ x ∈ l ∧ x.1 ≠ n := by simp [dl, List.mem_filter]
theorem lk_mem {β : Type} {n : Int} {b : β} : ∀ {l : List (Int × β)}, lk n l = some b → (n, b) ∈ l
  | [], h => by simp [lk] at h
  | y :: r, h => by
    unfold lk at h
    split at h
    · rename_i hn
      obtain ⟨y1, y2⟩ := y
      simp only at hn h
      subst hn
      obtain rfl := Option.some.inj h
      exact List.mem_cons_self
    · exact List.mem_cons_of_mem _ (lk_mem h)
theorem lk_of {β : Type} {n : Int} {b : β} : ∀ {l : List (Int × β)}, Ris l → (n, b) ∈ l → lk n l = some b
  | [], _, h => absurd h (by simp)
  | y :: r, hs, h => by
    obtain ⟨h1, h2⟩ := List.pairwise_cons.1 hs
    unfold lk
    rcases List.mem_cons.1 h with e | h
    · rw [← e]
      simp
    · have := h1 _ h
      rw [if_neg (by simp only at this; omega)]
      exact lk_of h2 h
theorem pt_map {α β : Type} (f : Int × β → α) (g : β → α) (hf : ∀ x, f x = g x.2) (n : Int) (b : β) : ∀ l : List (Int × β), (pt n b l).map (fun x => (x.1, f x)) = pt n (g b) (l.map fun x => (x.1, f x))
  | [] => by simp [pt, hf]
  | y :: r => by
    rw [List.map_cons]
    unfold pt
    split
    · simp [hf]
    · split
      · simp [hf]
      · simp [pt_map f g hf n b r]
theorem lk_map {α β : Type} (f : Int × β → α) (g : β → α) (hf : ∀ x, f x = g x.2) (n : Int) : ∀ l : List (Int × β), lk n (l.map fun x => (x.1, f x)) = (lk n l).map g
  | [] => rfl
  | y :: r => by
    rw [List.map_cons]
    unfold lk
    split
    · simp [hf]
    · exact lk_map f g hf n r
theorem dl_map {α β : Type} (f : Int × β → α) (n : Int) (l : List (Int × β)) : dl n (l.map fun x => (x.1, f x)) = (dl n l).map fun x => (x.1, f x) := by
  unfold dl
  rw [List.filter_map]
  rfl
theorem pt_len {β : Type} (n : Int) (b : β) : ∀ l : List (Int × β), (pt n b l).length ≤ l.length + 1
  | [] => by simp [pt]
  | y :: r => by
    unfold pt
    split
    · simp
    · split
      · simp
      · have := pt_len n b r
        simp
        omega
theorem dl_len {β : Type} (n : Int) (l : List (Int × β)) : (dl n l).length ≤ l.length := List.length_filter_le _ _

/-- The datum of a map, of numbers' things as they lie. -/
def esD (l : List (Int × Value)) : List (Lit × DataW Value) := l.map fun x => (.int .i64 x.1, .held x.2)
def hR (v : Value) : Option (DataW Value × List MemPlace) := some (.held v, [])
theorem key_eq (n m : Int) : (Lit.int .i64 n).sameKey (.int .i64 m) = decide (n = m) := by simp [Lit.sameKey]
theorem atD (n : Int) (z : Value) : ∀ l : List (Int × Value), (DataW.map (esD l)).atKey (.int .i64 n) (.held z) = .held ((lk n l).getD z)
  | [] => rfl
  | y :: r => by
    have h := atD n z r
    unfold DataW.atKey esD at h ⊢
    simp only [List.map_cons, List.find?_cons, key_eq] at h ⊢
    unfold lk
    by_cases hn : y.1 = n
    · simp [hn]
    · simp only [hn, decide_false, if_false]
      exact h
theorem hasD (n : Int) : ∀ l : List (Int × Value), Maps.has (DataW.map (esD l)) (.int .i64 n) = (lk n l).isSome
  | [] => rfl
  | y :: r => by
    have h := hasD n r
    rw [has_eq] at h ⊢
    unfold esD at h ⊢
    rw [List.map_cons, List.any_cons]
    simp only [key_eq] at h ⊢
    unfold lk
    by_cases hn : y.1 = n
    · simp [hn]
    · simp only [hn, decide_false, if_false, Bool.false_or]
      exact h
theorem delD (n : Int) (l : List (Int × Value)) : (DataW.map (esD l)).del (.int .i64 n) = .map (esD (dl n l)) := by
  rw [DataW.del_eq]
  unfold esD dl Go.ChangeMaps.delKey Go.ChangeMaps.notKey
  rw [List.filter_map]
  have e : ((fun p : Lit × DataW Value => !p.1.sameKey (Lit.int IntKind.i64 n)) ∘ fun x : Int × Value => (Lit.int IntKind.i64 x.1, DataW.held x.2)) = fun y => !decide (y.1 = n) := by
    funext x
    simp [key_eq]
  rw [e]
theorem insD (n : Int) (v : Value) : ∀ {l : List (Int × Value)}, (∀ x ∈ l, x.1 ≠ n) → DataW.insert (.int .i64 n, .held v) (esD l) = esD (pt n v l)
  | [], _ => rfl
  | y :: r, h => by
    have hy := h y List.mem_cons_self
    have ih := insD n v (l := r) (fun x hx => h x (List.mem_cons_of_mem _ hx))
    unfold esD at ih ⊢
    rw [List.map_cons]
    unfold DataW.insert pt
    by_cases hn : n < y.1
    · simp [Lit.before, hn]
    · simp only [Lit.before, hn, decide_false, if_false, hy, List.map_cons]
      rw [ih]
      rfl
theorem pt_dl {β : Type} (n : Int) (b : β) : ∀ {l : List (Int × β)}, Ris l → pt n b (dl n l) = pt n b l
  | [], _ => rfl
  | y :: r, hs => by
    obtain ⟨h1, h2⟩ := List.pairwise_cons.1 hs
    have ih := pt_dl n b h2
    by_cases hn : y.1 = n
    · have e : dl n (y :: r) = r := by
        unfold dl
        rw [List.filter_cons]
        simp only [hn, decide_true, Bool.not_true]
        exact List.filter_eq_self.2 (fun x hx => by have := h1 x hx; simp; omega)
      rw [e]
      conv => rhs; unfold pt
      rw [if_neg (by omega), if_pos hn]
      cases r with
      | nil => rfl
      | cons z t =>
        have := h1 z List.mem_cons_self
        unfold pt
        rw [if_pos (by omega)]
    · have e : dl n (y :: r) = y :: dl n r := by
        unfold dl
        rw [List.filter_cons]
        simp [hn]
      rw [e]
      unfold pt
      rw [ih, if_neg hn, if_neg hn]
      by_cases hlt : n < y.1
      · rw [if_pos hlt, if_pos hlt]
        have : dl n r = r := List.filter_eq_self.2 (fun x hx => by have := h1 x hx; simp; omega)
        rw [this]
      · rw [if_neg hlt, if_neg hlt]
theorem putD (n : Int) (v : Value) {l : List (Int × Value)} (h : Ris l) : (DataW.map (esD l)).put (.int .i64 n) (.held v) = .map (esD (pt n v l)) := by
  rw [DataW.put_eq]
  unfold Go.ChangeMaps.putKey
  have e : (esD l).filter (Go.ChangeMaps.notKey (.int .i64 n)) = esD (dl n l) := by
    have := delD n l
    rw [DataW.del_eq] at this
    exact DataW.map.inj this
  rw [e, insD n v (fun x hx => (mem_dl.1 hx).2), pt_dl n v h]
theorem ownsMap_tight {P : Program} {k : TypeId} {w : World} {b n : Nat} {l : List (Int × Value)} (h : w.ownsMap P k hR b n (.map (esD l))) : w.ownsMap P k hR b l.length (.map (esD l)) := by
  obtain ⟨es, clock, hb, F, hs, hD⟩ := h
  refine ⟨es, clock, hb, F, ?_, hD⟩
  have h1 := congrArg List.length (DataW.map.inj hD)
  rw [length_sorted] at h1
  simp [esD] at h1
  omega

/-- Nothing but blocks of F has turned, and new blocks. -/
structure Kf (F : Nat → Prop) (w w' : World) : Prop where
  os : w'.os = w.os
  tape : w'.tape = w.tape
  output : w'.output = w.output
  size : w.heap.size ≤ w'.heap.size
  block : ∀ k, k < w.heap.size → ¬ F k → w'.heap[k]? = w.heap[k]?
theorem Kf.refl (F : Nat → Prop) (w : World) : Kf F w w := ⟨rfl, rfl, rfl, Nat.le_refl _, fun _ _ _ => rfl⟩
/-- What is there of F, and what is new since w. -/
def nF (F : Nat → Prop) (w : World) : Nat → Prop := fun j => F j ∨ w.heap.size ≤ j
theorem Kf.trans {F : Nat → Prop} {a b c : World} (h : Kf F a b) (k : Kf F b c) : Kf F a c :=
  ⟨k.os.trans h.os, k.tape.trans h.tape, k.output.trans h.output, Nat.le_trans h.size k.size, fun j hj hn => (k.block j (Nat.lt_of_lt_of_le hj h.size) hn).trans (h.block j hj hn)⟩
theorem Kf.transN {F : Nat → Prop} {a b c : World} (h : Kf F a b) (k : Kf (nF F a) b c) : Kf F a c :=
  ⟨k.os.trans h.os, k.tape.trans h.tape, k.output.trans h.output, Nat.le_trans h.size k.size, fun j hj hn => (k.block j (Nat.lt_of_lt_of_le hj h.size) (fun e => e.elim hn (fun e => by omega))).trans (h.block j hj hn)⟩
theorem Kf.of {F : Nat → Prop} {B : Nat} {a b : World} (h : Below B a b) (hB : a.heap.size ≤ B) : Kf F a b := ⟨h.os, h.tape, h.output, h.size, fun k hk _ => h.block k (by omega)⟩
theorem Kf.grown {F : Nat → Prop} {a b : World} {row : Option Nat} (h : a.grownBy b row) (hr : ∀ k, row = some k → F k) : Kf F a b := ⟨h.os, h.tape, h.output, h.size, fun k hk hn => h.block k hk (fun e => hn (hr k e.symm))⟩
theorem Kf.set {F : Nat → Prop} {X i : Nat} {a b : World} (h : Kf F a b) (hX : F X) (u : Value) : Kf F a (b.setCell ⟨X, i, none⟩ u) :=
  ⟨h.os, h.tape, h.output, by simpa using h.size, fun k hk hn => (Below.heap_setCell _ _ _ _ (fun e => hn (by have : k = X := e; rw [this]; exact hX))).trans (h.block k hk hn)⟩
theorem Kf.alloc {F : Nat → Prop} {a b : World} (h : Kf F a b) (o : Obj) : Kf F a (b.alloc o) := h.trans (Kf.of ((Below.refl b.heap.size b).alloc (Nat.le_refl _) o) (Nat.le_refl _))
theorem Kf.drew {F : Nat → Prop} {a b : World} (h : Kf F a b) : Kf F a b.drew := ⟨h.os, h.tape, h.output, h.size, h.block⟩
theorem Kf.drewN {F : Nat → Prop} {a b : World} (h : Kf F a b) (m : Nat) : Kf F a (b.drewN m) := ⟨h.os, h.tape, h.output, h.size, h.block⟩
theorem Kf.mono {F G : Nat → Prop} {a b : World} (h : Kf F a b) (hs : ∀ j, F j → G j) : Kf G a b := ⟨h.os, h.tape, h.output, h.size, fun k hk hn => h.block k hk (fun e => hn (hs k e))⟩
theorem Kf.below {F : Nat → Prop} {B : Nat} {a b : World} (h : Kf F a b) (hF : ∀ j, F j → B ≤ j) (hB : B ≤ a.heap.size) : Below B a b := ⟨h.os, h.tape, h.output, h.size, fun k hk => h.block k (by omega) (fun e => by have := hF k e; omega)⟩

/-- A segment as the program has it: the slice of its bytes, its bytes, how many of them are synced. -/
abbrev Sv := Value × List Int × Nat
abbrev Sm := List Int × Nat
def cv (x : Sv) : Value := .agg #[x.1, .int .i64 (x.2.2 : Int)]
def zC : Sv := (.slice none 0 0, [], 0)
def esV (E : List (Int × Sv)) : List (Int × Value) := E.map fun x => (x.1, cv x.2)
def mmE (E : List (Int × Sv)) : List (Int × Sm) := E.map fun x => (x.1, x.2.2)
theorem esV_pt (n : Int) (s : Sv) (E : List (Int × Sv)) : esV (pt n s E) = pt n (cv s) (esV E) := pt_map (fun x => cv x.2) cv (fun _ => rfl) n s E
theorem mmE_pt (n : Int) (s : Sv) (E : List (Int × Sv)) : mmE (pt n s E) = pt n s.2 (mmE E) := pt_map (fun x : Int × Sv => x.2.2) (fun y : Sv => y.2) (fun _ => rfl) n s E
theorem esV_lk (n : Int) (E : List (Int × Sv)) : lk n (esV E) = (lk n E).map cv := lk_map (fun x => cv x.2) cv (fun _ => rfl) n E
theorem mmE_lk (n : Int) (E : List (Int × Sv)) : lk n (mmE E) = (lk n E).map (·.2) := lk_map (fun x : Int × Sv => x.2.2) (fun y : Sv => y.2) (fun _ => rfl) n E
theorem esV_dl (n : Int) (E : List (Int × Sv)) : dl n (esV E) = esV (dl n E) := dl_map (fun x => cv x.2) n E
theorem mmE_dl (n : Int) (E : List (Int × Sv)) : dl n (mmE E) = mmE (dl n E) := dl_map (fun x : Int × Sv => x.2.2) n E
theorem ris_esV {E : List (Int × Sv)} (h : Ris E) : Ris (esV E) := List.pairwise_map.2 h
theorem ris_mmE {E : List (Int × Sv)} (h : Ris E) : Ris (mmE E) := List.pairwise_map.2 h

theorem u8_info : (Try.prog.info? 5).map (fun i => (i.zero, i.size, i.bytes)) = some (some (.int .u8 0), 1, 1) := by kernel_rfl
theorem u8_inf : ∃ i, Try.prog.info? 5 = some i ∧ i.zero = some (.int .u8 0) ∧ i.size = 1 ∧ i.bytes = 1 := by
  have h := u8_info
  cases hq : Try.prog.info? 5 with
  | none => rw [hq] at h; cases h
  | some i =>
    rw [hq] at h
    simp only [Option.map_some, Option.some.injEq, Prod.mk.injEq] at h
    exact ⟨i, rfl, h.1, h.2.1, h.2.2⟩

/-- The map's value in memory. -/
def MapO (w : World) (mv : Option Nat) (l : List (Int × Value)) : Prop := (mv = none ∧ l = []) ∨ ∃ b, mv = some b ∧ w.ownsMap Try.prog 3 hR b l.length (.map (esD l))
theorem keyI {n : Int} (hn : (Lit.int .i64 n).wf = true) : keyOf Try.prog 3 (.int .i64 n) = some (.int .i64 n) := keyOf_int_mk Try.underlying3 hn
theorem zeroC (w : World) : (zeroValue 62).run Try.prog w = .ok (cv zC) w := Try.zeroValue62 w
theorem MapO.look {w : World} {mv : Option Nat} {E : List (Int × Sv)} (h : MapO w mv (esV E)) {n : Int} (hn : (Lit.int .i64 n).wf = true) :
    (Instr.lookup 46 (.map mv) (.int .i64 n) false).run Try.prog w = .ok (cv ((lk n E).getD zC)) w := by
  rcases h with ⟨rfl, he⟩ | ⟨b, rfl, ho⟩
  · have : E = [] := List.eq_nil_of_length_eq_zero (by have := congrArg List.length he; simpa [esV] using this)
    subst this
    rw [Maps.look_nil false (int_keyed Try.underlying3) Try.underlying46 (zeroC w) (keyI hn)]
    rfl
  · obtain ⟨v, ps, hr, hv⟩ := ho.lookup (int_keyed Try.underlying3) Try.underlying46 (zeroC w) (zd := .held (cv zC)) (zp := []) rfl (keyI hn)
    rw [atD, esV_lk] at hv
    simp only [hR, Option.some.injEq, Prod.mk.injEq, DataW.held.injEq] at hv
    rw [hr, hv.1]
    cases lk n E <;> rfl
theorem MapO.lookOk {w : World} {mv : Option Nat} {E : List (Int × Sv)} (h : MapO w mv (esV E)) {n : Int} (hn : (Lit.int .i64 n).wf = true) :
    (Instr.lookup 46 (.map mv) (.int .i64 n) true).run Try.prog w = .ok (.tuple #[cv ((lk n E).getD zC), .bool (lk n E).isSome]) w := by
  rcases h with ⟨rfl, he⟩ | ⟨b, rfl, ho⟩
  · have : E = [] := List.eq_nil_of_length_eq_zero (by have := congrArg List.length he; simpa [esV] using this)
    subst this
    rw [Maps.look_nil true (int_keyed Try.underlying3) Try.underlying46 (zeroC w) (keyI hn)]
    rfl
  · obtain ⟨v, ps, hr, hv⟩ := ho.look_ok (int_keyed Try.underlying3) Try.underlying46 (zeroC w) (zd := .held (cv zC)) (zp := []) rfl (keyI hn)
    rw [atD, esV_lk] at hv
    rw [hasD, esV_lk] at hr
    simp only [hR, Option.some.injEq, Prod.mk.injEq, DataW.held.injEq] at hv
    rw [hr, hv.1]
    cases lk n E <;> rfl
theorem MapO.keep {w w' : World} {mv : Option Nat} {l : List (Int × Value)} (h : MapO w mv l) (hk : ∀ b, mv = some b → b < w.heap.size → w'.heap[b]? = w.heap[b]?) : MapO w' mv l := by
  rcases h with h | ⟨b, rfl, ho⟩
  · exact .inl h
  · have hlt := ho.lt
    obtain ⟨es, clock, hb, F, hs, hD⟩ := ho
    exact .inr ⟨b, rfl, es, clock, (hk b rfl hlt).trans hb, F, hs, hD⟩
/-- The map, and the segments' bytes: all in blocks of F, but not in X. -/
structure PR (w : World) (X : Nat) (F : Nat → Prop) (mv : Option Nat) (E : List (Int × Sv)) : Prop where
  r : Ris E
  m : MapO w mv (esV E)
  fm : ∀ b, mv = some b → F b ∧ b ≠ X
  s : ∀ x ∈ E, Own w 0 5 x.2.1 x.2.2.1 ∧ ∀ g, x.2.1.ownBlock = some g → F g ∧ g ≠ X
  a : E.Pairwise fun x y => ∀ g, x.2.1.ownBlock = some g → y.2.1.ownBlock ≠ some g
theorem ownD_keep {w w' : World} {base e : Nat} {v : Value} {xs : List Int} (h : Own w base e v xs) (hk : ∀ g, v.ownBlock = some g → w'.heap[g]? = w.heap[g]?) : Own w' base e v xs := ownsRow_keep h hk
theorem PR.keep {w w' : World} {X : Nat} {F : Nat → Prop} {mv : Option Nat} {E : List (Int × Sv)} (h : PR w X F mv E) (hk : ∀ b, F b → b ≠ X → b < w.heap.size → w'.heap[b]? = w.heap[b]?) : PR w' X F mv E :=
  ⟨h.r, h.m.keep (fun b hb hlt => hk b (h.fm b hb).1 (h.fm b hb).2 hlt), h.fm, fun x hx => ⟨ownD_keep (h.s x hx).1 (fun g hg => hk g ((h.s x hx).2 g hg).1 ((h.s x hx).2 g hg).2 (ownsRow_lt (h.s x hx).1 g hg).2), (h.s x hx).2⟩, h.a⟩
theorem PR.mono {w : World} {X : Nat} {F G : Nat → Prop} {mv : Option Nat} {E : List (Int × Sv)} (h : PR w X F mv E) (hs : ∀ j, j < w.heap.size → F j → G j) : PR w X G mv E :=
  ⟨h.r, h.m, fun b hb => ⟨hs b (by rcases h.m with ⟨e, _⟩ | ⟨b', e, ho⟩ <;> rw [e] at hb <;> cases hb; exact ho.lt) (h.fm b hb).1, (h.fm b hb).2⟩, fun x hx => ⟨(h.s x hx).1, fun g hg => ⟨hs g (ownsRow_lt (h.s x hx).1 g hg).2 ((h.s x hx).2 g hg).1, ((h.s x hx).2 g hg).2⟩⟩, h.a⟩
theorem PR.on {w w' : World} {X : Nat} {F : Nat → Prop} {mv : Option Nat} {E : List (Int × Sv)} (h : PR w X F mv E) (hb : Below w.heap.size w w') : PR w' X F mv E := h.keep (fun b _ _ hlt => hb.block b hlt)
theorem PR.setX {w : World} {X i : Nat} {F : Nat → Prop} {mv : Option Nat} {E : List (Int × Sv)} (h : PR w X F mv E) (u : Value) : PR (w.setCell ⟨X, i, none⟩ u) X F mv E := h.keep (fun b _ hne _ => Below.heap_setCell _ _ _ _ (fun e => hne e))
/-- A new block's cells, written. -/
theorem PR.setN {w : World} {X N i : Nat} {F : Nat → Prop} {mv : Option Nat} {E : List (Int × Sv)} (h : PR w X F mv E) (hN : ∀ j, F j → j ≠ N) (u : Value) : PR (w.setCell ⟨N, i, none⟩ u) X F mv E := h.keep (fun b hF _ _ => Below.heap_setCell _ _ _ _ (fun e => hN b hF e))

/-- As it is but for the segment n. -/
structure PRx (w : World) (X : Nat) (F : Nat → Prop) (mv : Option Nat) (E : List (Int × Sv)) (n : Int) : Prop where
  r : Ris E
  m : MapO w mv (esV E)
  fm : ∀ b, mv = some b → F b ∧ b ≠ X
  s : ∀ x ∈ E, x.1 ≠ n → Own w 0 5 x.2.1 x.2.2.1 ∧ ∀ g, x.2.1.ownBlock = some g → F g ∧ g ≠ X
  a : E.Pairwise fun x y => x.1 ≠ n → y.1 ≠ n → ∀ g, x.2.1.ownBlock = some g → y.2.1.ownBlock ≠ some g
theorem PR.x {w : World} {X : Nat} {F : Nat → Prop} {mv : Option Nat} {E : List (Int × Sv)} (h : PR w X F mv E) (n : Int) : PRx w X F mv E n :=
  ⟨h.r, h.m, h.fm, fun x hx _ => h.s x hx, h.a.imp (fun h _ _ => h)⟩
theorem PRx.keep {w w' : World} {X : Nat} {F G : Nat → Prop} {mv : Option Nat} {E : List (Int × Sv)} {n : Int} (h : PRx w X F mv E n) (hFG : ∀ j, j < w.heap.size → F j → G j) (hm : ∀ b, mv = some b → b < w.heap.size → w'.heap[b]? = w.heap[b]?)
    (hs : ∀ x ∈ E, x.1 ≠ n → ∀ g, x.2.1.ownBlock = some g → g < w.heap.size → w'.heap[g]? = w.heap[g]?) : PRx w' X G mv E n :=
  ⟨h.r, h.m.keep hm, fun b hb => ⟨hFG b (by rcases h.m with ⟨e, _⟩ | ⟨b', e, ho⟩ <;> rw [e] at hb <;> cases hb; exact ho.lt) (h.fm b hb).1, (h.fm b hb).2⟩, fun x hx hne => ⟨ownD_keep (h.s x hx hne).1 (fun g hg => hs x hx hne g hg (ownsRow_lt (h.s x hx hne).1 g hg).2), fun g hg => ⟨hFG g (ownsRow_lt (h.s x hx hne).1 g hg).2 ((h.s x hx hne).2 g hg).1, ((h.s x hx hne).2 g hg).2⟩⟩, h.a⟩
theorem PRx.on {w w' : World} {X : Nat} {F G : Nat → Prop} {mv : Option Nat} {E : List (Int × Sv)} {n : Int} (h : PRx w X F mv E n) (hb : Below w.heap.size w w') (hFG : ∀ j, j < w.heap.size → F j → G j) : PRx w' X G mv E n := h.keep hFG (fun b _ hlt => hb.block b hlt) (fun _ _ _ g _ hlt => hb.block g hlt)
theorem pw_sym {α : Type} {R : α → α → Prop} (hs : ∀ a b, R a b → R b a) : ∀ {l : List α}, l.Pairwise R → ∀ a ∈ l, ∀ b ∈ l, a ≠ b → R a b
  | [], _, a, ha, _, _, _ => absurd ha (by simp)
  | y :: r, h, a, ha, b, hb, hne => by
    obtain ⟨h1, h2⟩ := List.pairwise_cons.1 h
    rcases List.mem_cons.1 ha with e1 | ha'
    · rcases List.mem_cons.1 hb with e2 | hb'
      · exact absurd (e1.trans e2.symm) hne
      · rw [e1]
        exact h1 b hb'
    · rcases List.mem_cons.1 hb with e2 | hb'
      · rw [e2]
        exact hs _ _ (h1 a ha')
      · exact pw_sym hs h2 a ha' b hb' hne
theorem apart_ne {E : List (Int × Sv)} (h : E.Pairwise fun x y => ∀ g, x.2.1.ownBlock = some g → y.2.1.ownBlock ≠ some g) {x y : Int × Sv} (hx : x ∈ E) (hy : y ∈ E) (hne : x ≠ y) : ∀ g, x.2.1.ownBlock = some g → y.2.1.ownBlock ≠ some g :=
  pw_sym (R := fun x y : Int × Sv => ∀ g, x.2.1.ownBlock = some g → y.2.1.ownBlock ≠ some g) (fun a b h g hg hb => h g hb hg) h x hx y hy hne

structure Dk where
  L : List (Int × Sm)
  room : Int
  fuse : Int
  dead : Bool
def usM (L : List (Int × Sm)) : Nat := (L.map fun x => x.2.1.length).sum
/-- The program's disk in block X, its memory in blocks of F, its map's value and its segments as they lie. -/
def PDE (w : World) (X : Nat) (F : Nat → Prop) (d : Dk) (mv : Option Nat) (E : List (Int × Sv)) : Prop :=
  ∃ fz, F X ∧ mmE E = d.L ∧ PR w X F mv E ∧ Bn w X [.map mv, .int .i64 (usM d.L : Int), .int .i64 d.room, .bool d.dead, .bool (decide (0 ≤ d.fuse)), .int .i64 fz] ∧ (0 ≤ d.fuse → fz = d.fuse)
def PD (w : World) (X : Nat) (F : Nat → Prop) (d : Dk) : Prop := ∃ mv E, PDE w X F d mv E
theorem PDE.lt {w : World} {X : Nat} {F : Nat → Prop} {d : Dk} {mv : Option Nat} {E : List (Int × Sv)} (h : PDE w X F d mv E) : X < w.heap.size := by
  obtain ⟨fz, h1, h2, h3, h4, h5⟩ := h
  exact h4.lt
theorem PDE.keep {w w' : World} {X : Nat} {F : Nat → Prop} {d : Dk} {mv : Option Nat} {E : List (Int × Sv)} (h : PDE w X F d mv E) (hk : ∀ b, F b → b < w.heap.size → w'.heap[b]? = w.heap[b]?) : PDE w' X F d mv E := by
  obtain ⟨fz, h1, h2, h3, h4, h5⟩ := h
  exact ⟨fz, h1, h2, h3.keep (fun b hb _ hlt => hk b hb hlt), h4.blk (hk X h1 h4.lt), h5⟩
theorem PDE.mono {w : World} {X : Nat} {F G : Nat → Prop} {d : Dk} {mv : Option Nat} {E : List (Int × Sv)} (h : PDE w X F d mv E) (hs : ∀ j, j < w.heap.size → F j → G j) : PDE w X G d mv E := by
  obtain ⟨fz, h1, h2, h3, h4, h5⟩ := h
  exact ⟨fz, hs X h4.lt h1, h2, h3.mono hs, h4, h5⟩
theorem PDE.on {w w' : World} {X : Nat} {F : Nat → Prop} {d : Dk} {mv : Option Nat} {E : List (Int × Sv)} (h : PDE w X F d mv E) (hb : Below w.heap.size w w') : PDE w' X F d mv E := h.keep (fun b _ hlt => hb.block b hlt)
theorem PD.lt {w : World} {X : Nat} {F : Nat → Prop} {d : Dk} (h : PD w X F d) : X < w.heap.size := by
  obtain ⟨mv, E, h⟩ := h
  exact h.lt
theorem PD.keep {w w' : World} {X : Nat} {F : Nat → Prop} {d : Dk} (h : PD w X F d) (hk : ∀ b, F b → b < w.heap.size → w'.heap[b]? = w.heap[b]?) : PD w' X F d := by
  obtain ⟨mv, E, h⟩ := h
  exact ⟨mv, E, h.keep hk⟩
theorem PD.mono {w : World} {X : Nat} {F G : Nat → Prop} {d : Dk} (h : PD w X F d) (hs : ∀ j, j < w.heap.size → F j → G j) : PD w X G d := by
  obtain ⟨mv, E, h⟩ := h
  exact ⟨mv, E, h.mono hs⟩
theorem PD.on {w w' : World} {X : Nat} {F : Nat → Prop} {d : Dk} (h : PD w X F d) (hb : Below w.heap.size w w') : PD w' X F d := h.keep (fun b _ hlt => hb.block b hlt)
theorem usM_mem : ∀ {L : List (Int × Sm)} {x : Int × Sm}, x ∈ L → x.2.1.length ≤ usM L
  | [], x, h => absurd h (by simp)
  | y :: r, x, h => by
    have e : usM (y :: r) = y.2.1.length + usM r := by simp [usM]
    rw [e]
    rcases List.mem_cons.1 h with rfl | h
    · omega
    · have := usM_mem h
      omega
theorem usM_lk {L : List (Int × Sm)} {n : Int} {s : Sm} (h : lk n L = some s) : s.1.length ≤ usM L := usM_mem (lk_mem h)
end Go.Proofs.Ytibmbbiipffooaa

/- The program's disk: burn, New, Used, Down, SetFuse, SetRoom. -/
namespace Go.Proofs.Ytibmbbiipffooaa
open Go.RowKit Go.Lib Go.Maps
set_option linter.unusedSimpArgs false
set_option linter.unusedVariables false
attribute [local go_sem ↓] Go.wp_at_zero Go.wp_at_succ

theorem hideD {p : Prop} (h : p) : Hid p := h
def brn (d : Dk) : Dk := if d.fuse = 0 then { d with dead := true } else if 0 < d.fuse then { d with fuse := d.fuse - 1 } else d
set_option maxHeartbeats 1000000 in
theorem dburn_any {w : World} {X : Nat} {F : Nat → Prop} {d : Dk} {mv : Option Nat} {E : List (Int × Sv)} (h : PDE w X F d mv E) (hd : d.fuse ≤ 9223372036854775807) :
    Calls Try.prog 35 #[.pointer (some ⟨X, 0, none⟩)] w fun e w' => e = .returned (.int .i64 (if d.fuse = 0 then 8 else 0)) ∧ PDE w' X F (brn d) mv E ∧ Kf F w w' := by
  obtain ⟨fz, h1, h2, h3, h4, h5⟩ := h
  obtain ⟨c3, f3⟩ := h4 3 _ rfl
  obtain ⟨c4, f4⟩ := h4 4 _ rfl
  obtain ⟨c5, f5⟩ := h4 5 _ rfl
  by_cases hf : 0 ≤ d.fuse
  · have e5 := h5 hf
    subst e5
    rw [decide_eq_true hf] at c4
    by_cases h0 : d.fuse = 0
    · obtain ⟨L, room, fu, dead⟩ := d
      simp only at h0
      subst h0
      simp only at h2 h4 c5
      go_enter Try.func35, Try.ntmps35
      go_wp2
      go_ret
      exact ⟨rfl, ⟨0, h1, h2, h3.setX _, h4.set (i := 3) (by simp) (.bool true), fun _ => rfl⟩, (Kf.refl F w).set h1 _⟩
    · have e1 : brn d = { d with fuse := d.fuse - 1 } := (if_neg h0).trans (if_pos (by omega))
      rw [if_neg h0, e1]
      have e2 : IntKind.i64.wrap (d.fuse - 1) = d.fuse - 1 := by rw [IntKind.wrap_i64]; omega
      have h4' := h4.set (i := 5) (by simp) (.int .i64 (d.fuse - 1))
      have e3 : decide (0 ≤ d.fuse) = decide (0 ≤ d.fuse - 1) := by rw [decide_eq_true hf, decide_eq_true (by omega)]
      rw [e3] at h4'
      go_enter Try.func35, Try.ntmps35
      go_wp2
      go_ret
      exact ⟨rfl, ⟨d.fuse - 1, h1, h2, h3.setX _, h4', fun _ => rfl⟩, (Kf.refl F w).set h1 _⟩
  · have h0 : ¬ d.fuse = 0 := by omega
    have e1 : brn d = d := (if_neg h0).trans (if_neg (by omega))
    rw [if_neg h0, e1]
    rw [decide_eq_false hf] at c4
    go_enter Try.func35, Try.ntmps35
    go_wp2
    go_ret
    exact ⟨rfl, ⟨fz, h1, h2, h3, h4, h5⟩, Kf.refl F w⟩
set_option maxHeartbeats 1000000 in
theorem dnew_any (w : World) (n : Int) : Calls Try.prog 7 #[.int .i64 n] w fun e w' => e = .returned (.pointer (some ⟨w.heap.size, 0, none⟩)) ∧ PD w' w.heap.size (fun j => j = w.heap.size) ⟨[], max n 0, -1, false⟩ ∧ Below w.heap.size w w' := by
  have hp : ∀ m : Int, m = max n 0 → PD (w.alloc (.cells #[.map none, .int .i64 0, .int .i64 m, .bool false, .bool false, .int .i64 0] 48)) w.heap.size (fun j => j = w.heap.size) ⟨[], max n 0, -1, false⟩ := fun m hm => by
    subst hm
    exact ⟨none, [], 0, rfl, rfl, ⟨List.Pairwise.nil, .inl ⟨rfl, rfl⟩, fun _ h => (by cases h), fun x hx => absurd hx (by simp), List.Pairwise.nil⟩, Bn.new w [.map none, .int .i64 0, .int .i64 (max n 0), .bool false, .bool false, .int .i64 0] _ _ rfl, fun h => by simp only at h; omega⟩
  by_cases hn : n < 0
  · go_enter Try.func7, Try.ntmps7
    go_wp2
    go_ret
    exact ⟨rfl, hp 0 (by omega), (Below.refl _ _).alloc (Nat.le_refl _) _⟩
  · go_enter Try.func7, Try.ntmps7
    go_wp2
    go_ret
    exact ⟨rfl, hp n (by omega), (Below.refl _ _).alloc (Nat.le_refl _) _⟩
theorem dused_any {w : World} {X : Nat} {F : Nat → Prop} {d : Dk} (h : PD w X F d) : Calls Try.prog 17 #[.pointer (some ⟨X, 0, none⟩)] w fun e w' => e = .returned (.int .i64 (usM d.L : Int)) ∧ w = w' := by
  obtain ⟨mv, E, fz, h1, h2, h3, h4, h5⟩ := h
  obtain ⟨c1, f1⟩ := h4 1 _ rfl
  go_enter Try.func17, Try.ntmps17
  go_wp2
  go_ret
  exact ⟨rfl, rfl⟩
theorem ddown_any {w : World} {X : Nat} {F : Nat → Prop} {d : Dk} (h : PD w X F d) : Calls Try.prog 15 #[.pointer (some ⟨X, 0, none⟩)] w fun e w' => e = .returned (.bool d.dead) ∧ w = w' := by
  obtain ⟨mv, E, fz, h1, h2, h3, h4, h5⟩ := h
  obtain ⟨c3, f3⟩ := h4 3 _ rfl
  go_enter Try.func15, Try.ntmps15
  go_wp2
  go_ret
  exact ⟨rfl, rfl⟩
set_option maxHeartbeats 1000000 in
theorem dfuse_any {w : World} {X : Nat} {F : Nat → Prop} {d : Dk} (h : PD w X F d) (n : Int) : Calls Try.prog 24 #[.pointer (some ⟨X, 0, none⟩), .int .i64 n] w fun e w' => e = .returned (.tuple #[]) ∧ PD w' X F { d with fuse := max n (-1) } ∧ Kf F w w' := by
  obtain ⟨mv, E, fz, h1, h2, h3, h4, h5⟩ := h
  obtain ⟨c4, f4⟩ := h4 4 _ rfl
  obtain ⟨c5, f5⟩ := h4 5 _ rfl
  have hp : ∀ (b : Bool) (m : Int), b = decide (0 ≤ n) → m = max n 0 → PD ((w.setCell ⟨X, 4, none⟩ (.bool b)).setCell ⟨X, 5, none⟩ (.int .i64 m)) X F { d with fuse := max n (-1) } := fun b m hb hm => by
    have e1 : decide (0 ≤ max n (-1)) = b := by rw [hb]; exact decide_eq_decide.2 (by omega)
    refine ⟨mv, E, m, h1, h2, (h3.setX _).setX _, ?_, fun h => by simp only at h ⊢; omega⟩
    rw [e1]
    exact (h4.set (i := 4) (by simp) (.bool b)).set (i := 5) (by simp) (.int .i64 m)
  have hk : ∀ u v, Kf F w ((w.setCell ⟨X, 4, none⟩ u).setCell ⟨X, 5, none⟩ v) := fun u v => ((Kf.refl F w).set h1 _).set h1 _
  clear h2 h3 h4 h5
  by_cases hn : n < 0
  · have hn' : ¬ n ≥ 0 := by omega
    go_enter Try.func24, Try.ntmps24
    go_wp2
    go_end0
    exact ⟨rfl, hp false 0 (decide_eq_false (by omega)).symm (by omega), hk _ _⟩
  · have hn' : n ≥ 0 := by omega
    go_enter Try.func24, Try.ntmps24
    go_wp2
    go_end0
    exact ⟨rfl, hp true n (decide_eq_true (by omega)).symm (by omega), hk _ _⟩
set_option maxHeartbeats 1000000 in
theorem droom_any {w : World} {X : Nat} {F : Nat → Prop} {d : Dk} (h : PD w X F d) (n : Int) : Calls Try.prog 25 #[.pointer (some ⟨X, 0, none⟩), .int .i64 n] w fun e w' => e = .returned (.tuple #[]) ∧ PD w' X F { d with room := max n 0 } ∧ Kf F w w' := by
  obtain ⟨mv, E, fz, h1, h2, h3, h4, h5⟩ := h
  obtain ⟨c2, f2⟩ := h4 2 _ rfl
  have hp : ∀ m : Int, m = max n 0 → PD (w.setCell ⟨X, 2, none⟩ (.int .i64 m)) X F { d with room := max n 0 } := fun m hm => by
    subst hm
    exact ⟨mv, E, fz, h1, h2, h3.setX _, h4.set (i := 2) (by simp) _, h5⟩
  have hk : ∀ u, Kf F w (w.setCell ⟨X, 2, none⟩ u) := fun u => (Kf.refl F w).set h1 _
  clear h2 h3 h4 h5
  by_cases hn : n < 0
  · go_enter Try.func25, Try.ntmps25
    go_wp2
    go_end0
    exact ⟨rfl, hp 0 (by omega), hk _⟩
  · go_enter Try.func25, Try.ntmps25
    go_wp2
    go_end0
    exact ⟨rfl, hp n (by omega), hk _⟩

theorem dl_some {w : World} {b : Nat} {l : List (Int × Value)} {n : Int} {v : Value} (ho : w.ownsMap Try.prog 3 hR b l.length (.map (esD l))) (hs : Ris l) (hl : l.length ≤ 100000) (hn : (Lit.int .i64 n).wf = true) :
    ∃ w', (Instr.mapUpdate 46 (.map (some b)) (.int .i64 n) v).run Try.prog w = .ok () w' ∧ w'.ownsMap Try.prog 3 hR b (pt n v l).length (.map (esD (pt n v l))) ∧ w.mapTurned w' b := by
  obtain ⟨w', h1, h2, h3⟩ := ho.store (int_keyed Try.underlying3) Try.underlying46 (by unfold maxLen; omega) (val := v) (d := .held v) (ps := []) (keyI hn) rfl
  rw [putD n v hs] at h2
  exact ⟨w', h1, ownsMap_tight h2, h3⟩
/-- A segment is put among those that are there. -/
theorem PRx.put {w w' : World} {X b : Nat} {F : Nat → Prop} {E : List (Int × Sv)} {n : Int} {s : Sv} (h : PRx w X F (some b) E n) (ho : w'.ownsMap Try.prog 3 hR b (pt n (cv s) (esV E)).length (.map (esD (pt n (cv s) (esV E))))) (ht : w.mapTurned w' b)
    (hs : Own w 0 5 s.1 s.2.1) (hf : ∀ g, s.1.ownBlock = some g → F g ∧ g ≠ X) (ha : ∀ x ∈ E, x.1 ≠ n → ∀ g, x.2.1.ownBlock = some g → s.1.ownBlock ≠ some g) : PR w' X F (some b) (pt n s E) := by
  obtain ⟨es0, cl0, es1, cl1, hb0, _⟩ := id ht
  have hkeep : ∀ {v : Value} {xs : List Int}, Own w 0 5 v xs → Own w' 0 5 v xs := fun {v xs} hv => ownD_keep hv (fun g hg => ht.grown.block g (ownsRow_lt hv g hg).2 (fun e => by
    have e : g = b := Option.some.inj e
    subst e
    rcases hv.2 with ⟨rfl, _⟩ | ⟨g', cap, cur, rfl, _, hc, _⟩
    · simp [Value.ownBlock] at hg
    · have : g' = g := by simpa [Value.ownBlock] using hg
      subst this
      rw [hb0] at hc
      cases hc))
  have hm : ∀ x ∈ pt n s E, x = (n, s) ∨ (x ∈ E ∧ x.1 ≠ n) := fun x hx => mem_pt h.r hx
  refine ⟨ris_pt h.r, .inr ⟨b, rfl, by rw [esV_pt]; exact ho⟩, h.fm, fun x hx => ?_, ?_⟩
  · rcases hm x hx with rfl | ⟨hx, _⟩
    · exact ⟨hkeep hs, hf⟩
    · rename_i hne
      exact ⟨hkeep (h.s x hx hne).1, (h.s x hx hne).2⟩
  · have hap := h.a
    have hr := h.r
    clear h ho hkeep hm
    induction E with
    | nil => simp [pt]
    | cons y r ih =>
      obtain ⟨a1, a2⟩ := List.pairwise_cons.1 hap
      obtain ⟨r1, r2⟩ := List.pairwise_cons.1 hr
      have ih := ih (fun x hx => ha x (List.mem_cons_of_mem _ hx)) a2 r2
      unfold pt
      split
      · rename_i hlt
        have hne : ∀ x ∈ y :: r, x.1 ≠ n := fun x hx => by
          rcases List.mem_cons.1 hx with rfl | hx
          · omega
          · have := r1 x hx
            omega
        exact List.pairwise_cons.2 ⟨fun x hx g hg hx2 => ha x hx (hne x hx) g hx2 hg, hap.imp_of_mem (fun hx hy h => h (hne _ hx) (hne _ hy))⟩
      · split
        · rename_i hlt he
          have hne : ∀ x ∈ r, x.1 ≠ n := fun x hx => by
            have := r1 x hx
            omega
          exact List.pairwise_cons.2 ⟨fun x hx g hg hx2 => ha x (List.mem_cons_of_mem _ hx) (hne x hx) g hx2 hg, a2.imp_of_mem (fun hx hy h => h (hne _ hx) (hne _ hy))⟩
        · rename_i hlt he
          refine List.pairwise_cons.2 ⟨fun x hx g hg => ?_, ih⟩
          rcases mem_pt r2 hx with rfl | ⟨hx, hne⟩
          · exact ha y List.mem_cons_self he g hg
          · exact a1 x hx he hne g hg
theorem eqlSome (b : Nat) (w : World) : (binOp .eql 46 (.map (some b)) (.map none)).run Try.prog w = .ok (.bool false) w := by kernel_rfl
theorem eqlNil (w : World) : (binOp .eql 46 (.map none) (.map none)).run Try.prog w = .ok (.bool true) w := by kernel_rfl
theorem esV_len (E : List (Int × Sv)) : (esV E).length = E.length := by simp [esV]
set_option maxRecDepth 100000 in
set_option maxHeartbeats 4000000 in
theorem dput_any {w : World} {X : Nat} {F : Nat → Prop} {mv : Option Nat} {E : List (Int × Sv)} {cs : List Value} {n : Int} {s : Sv} (h : PRx w X F mv E n) (hB : Bn w X (.map mv :: cs)) (hX : F X) (hn : (Lit.int .i64 n).wf = true) (hl : E.length ≤ 100000)
    (hs : Own w 0 5 s.1 s.2.1) (hf : ∀ g, s.1.ownBlock = some g → F g ∧ g ≠ X) (ha : ∀ x ∈ E, x.1 ≠ n → ∀ g, x.2.1.ownBlock = some g → s.1.ownBlock ≠ some g) :
    Calls Try.prog 36 #[.pointer (some ⟨X, 0, none⟩), .int .i64 n, cv s] w fun e w' => e = .returned (.tuple #[]) ∧ (∃ mv', Bn w' X (.map mv' :: cs) ∧ PR w' X (nF F w) mv' (pt n s E)) ∧ Kf F w w' := by
  have hXl := hB.lt
  obtain ⟨c0, f0⟩ := hB 0 _ rfl
  have hmono : ∀ j, F j → nF F w j := fun j hj => .inl hj
  have hal : Below w.heap.size w (w.alloc (.cells #[s.1, .int .i64 (s.2.2 : Int)] 62)) := (Below.refl _ _).alloc (Nat.le_refl _) _
  have hBx := Bn.new w [s.1, .int .i64 (s.2.2 : Int)] 62 _ rfl
  obtain ⟨sv, sb, sn⟩ := s
  simp only at *
  have hs' : Own (w.alloc (.cells #[sv, .int .i64 (sn : Int)] 62)) 0 5 sv sb := ownD_keep hs (fun g hg => hal.block g (ownsRow_lt hs g hg).2)
  obtain ⟨x0, g0⟩ := hBx 0 _ rfl
  obtain ⟨x1, g1⟩ := hBx 1 _ rfl
  obtain ⟨C0, D0⟩ := (hB.on hal) 0 _ rfl
  have hlN : ∀ j, F j → j < w.heap.size → j ≠ w.heap.size := fun j _ h => by omega
  cases mv with
  | none =>
    have hE : E = [] := by
      rcases h.m with ⟨_, e⟩ | ⟨b, e, _⟩
      · exact List.eq_nil_of_length_eq_zero (by have := congrArg List.length e; simpa [esV] using this)
      · cases e
    subst hE
    have hmm := @run_makeMap Try.prog
    have hsz : (w.alloc (.cells #[sv, .int .i64 (sn : Int)] 62)).heap.size = w.heap.size + 1 := by simp
    have hal2 : Below (w.heap.size + 1) (w.alloc (.cells #[sv, .int .i64 (sn : Int)] 62)) ((w.alloc (.cells #[sv, .int .i64 (sn : Int)] 62)).alloc (.map #[] 0)) := (Below.refl _ _).alloc (by simp) _
    have ho0 := World.ownsMap_made (w.alloc (.cells #[sv, .int .i64 (sn : Int)] 62)) Try.prog 3 hR
    rw [hsz] at ho0
    have C1 := (hal2.cell (p := ⟨X, 0, none⟩) (show X < w.heap.size + 1 by omega)).trans C0
    have D1 := (hal2.frozen (p := ⟨X, 0, none⟩) (show X < w.heap.size + 1 by omega)).trans D0
    have y0 := (hal2.cell (p := ⟨w.heap.size, 0, none⟩) (Nat.lt_succ_self _)).trans x0
    have y1 := (hal2.cell (p := ⟨w.heap.size, 1, none⟩) (Nat.lt_succ_self _)).trans x1
    have hbw : Below w.heap.size w ((w.alloc (.cells #[sv, .int .i64 (sn : Int)] 62)).alloc (.map #[] 0)) := hal.trans (hal2.mono (by omega))
    have hb2 := hB.on hbw
    have hs2 := ownD_keep hs (fun g hg => hbw.block g (ownsRow_lt hs g hg).2)
    have hsz2 : ((w.alloc (.cells #[sv, .int .i64 (sn : Int)] 62)).alloc (.map #[] 0)).heap.size = w.heap.size + 2 := by simp
    obtain ⟨W, hW⟩ : ∃ W, (w.alloc (.cells #[sv, .int .i64 (sn : Int)] 62)).alloc (.map #[] 0) = W := ⟨_, rfl⟩
    rw [hW] at ho0 C1 D1 y0 y1 hbw hb2 hs2 hsz2
    have ho1 : (W.setCell ⟨X, 0, none⟩ (.map (some (w.heap.size + 1)))).drew.ownsMap Try.prog 3 hR (w.heap.size + 1) ([] : List (Int × Value)).length (.map (esD [])) := (ho0.setCell (show w.heap.size + 1 ≠ X by omega) _).drew
    obtain ⟨w2, hr2, ho2, ht2⟩ := dl_some (n := n) (v := cv (sv, sb, sn)) ho1 List.Pairwise.nil (by simp) hn
    have hP3 : PRx (W.setCell ⟨X, 0, none⟩ (.map (some (w.heap.size + 1)))).drew X (nF F w) (some (w.heap.size + 1)) [] n :=
      ⟨List.Pairwise.nil, .inr ⟨_, rfl, ho1⟩, fun b hb => by cases hb; exact ⟨.inr (by omega), by omega⟩, fun x hx => absurd hx (by simp), List.Pairwise.nil⟩
    have hs3 : Own (W.setCell ⟨X, 0, none⟩ (.map (some (w.heap.size + 1)))).drew 0 5 sv sb := ownD_keep hs2 (fun g hg => Below.heap_setCell _ _ _ _ (fun e => (hf g hg).2 e))
    have hfin := hP3.put ho2 ht2 hs3 (fun g hg => ⟨.inl (hf g hg).1, (hf g hg).2⟩) (fun x hx => absurd hx (by simp))
    have hb3 : Bn (W.setCell ⟨X, 0, none⟩ (.map (some (w.heap.size + 1)))).drew X (.map (some (w.heap.size + 1)) :: cs) := hb2.set (i := 0) (by simp) _
    have hb4 : Bn w2 X (.map (some (w.heap.size + 1)) :: cs) := hb3.blk (ht2.grown.block X (by show X < (W.setCell _ _).heap.size; simp; omega) (fun e => by have := Option.some.inj e; omega))
    have hk : Kf F w w2 := (((Kf.of hbw (Nat.le_refl _)).set hX _).drew).transN (Kf.grown ht2.grown (fun k hk => by have := Option.some.inj hk; subst this; exact Or.inr (by omega)))
    have E0 : (W.setCell ⟨X, 0, none⟩ (.map (some (w.heap.size + 1)))).cell? ⟨X, 0, none⟩ = some (.map (some (w.heap.size + 1))) := cell_same4 C1
    have E1 : (W.setCell ⟨X, 0, none⟩ (.map (some (w.heap.size + 1)))).cell? ⟨w.heap.size, 0, none⟩ = some sv := cell_far4 (by omega) y0
    have E2 : (W.setCell ⟨X, 0, none⟩ (.map (some (w.heap.size + 1)))).cell? ⟨w.heap.size, 1, none⟩ = some (.int .i64 (sn : Int)) := cell_far4 (by omega) y1
    have V0 : (W.setCell ⟨X, 0, none⟩ (.map (some (w.heap.size + 1)))).drew.cell? ⟨X, 0, none⟩ = some (.map (some (w.heap.size + 1))) := E0
    have V1 : (W.setCell ⟨X, 0, none⟩ (.map (some (w.heap.size + 1)))).drew.cell? ⟨w.heap.size, 0, none⟩ = some sv := E1
    have V2 : (W.setCell ⟨X, 0, none⟩ (.map (some (w.heap.size + 1)))).drew.cell? ⟨w.heap.size, 1, none⟩ = some (.int .i64 (sn : Int)) := E2
    have Z0 : w2.cell? ⟨X, 0, none⟩ = some (.map (some (w.heap.size + 1))) := (World.cell?_of_block (a := ⟨X, 0, none⟩) (ht2.grown.block X (by show X < (W.setCell _ _).heap.size; simp; omega) (fun e => by have := Option.some.inj e; omega))).trans E0
    have Z1 : w2.cell? ⟨w.heap.size, 0, none⟩ = some sv := (World.cell?_of_block (a := ⟨w.heap.size, 0, none⟩) (ht2.grown.block w.heap.size (by show w.heap.size < (W.setCell _ _).heap.size; simp; omega) (fun e => by have := Option.some.inj e; omega))).trans E1
    have Z2 : w2.cell? ⟨w.heap.size, 1, none⟩ = some (.int .i64 (sn : Int)) := (World.cell?_of_block (a := ⟨w.heap.size, 1, none⟩) (ht2.grown.block w.heap.size (by show w.heap.size < (W.setCell _ _).heap.size; simp; omega) (fun e => by have := Option.some.inj e; omega))).trans E2
    have HF := hideD (And.intro hb4 (And.intro hfin hk))
    clear ho0 ho1 ho2 ht2 hP3 hs2 hs3 hfin hb2 hb3 hb4 hk hbw hB h hs hs' hal2 hal hBx hf ha hmono y0 y1
    unfold cv at hr2
    have hq := eqlNil
    go_enter Try.func36, Try.ntmps36
    unfold cv
    go_wp2
    go_region_held_law (fun w' => w'.cell? ⟨X, 0, none⟩ = some (.map (some (w.heap.size + 1))) ∧ w'.cell? ⟨w.heap.size, 0, none⟩ = some sv ∧ w'.cell? ⟨w.heap.size, 1, none⟩ = some (.int .i64 (sn : Int)))
      (first | (with_reducible exact ⟨E0, E1, E2⟩) | (with_reducible exact ⟨Z0, Z1, Z2⟩) | (with_reducible exact ⟨V0, V1, V2⟩)) (fail)
    go_end0
    exact ⟨rfl, ⟨_, HF.out.1, HF.out.2.1⟩, HF.out.2.2⟩
  | some b =>
    have ho : w.ownsMap Try.prog 3 hR b (esV E).length (.map (esD (esV E))) := by
      rcases h.m with ⟨e, _⟩ | ⟨b', e, ho⟩
      · cases e
      · cases e
        exact ho
    have ho1 := ((ho.alloc (.cells #[sv, .int .i64 (sn : Int)] 62)).drew)
    obtain ⟨w2, hr2, ho2, ht2⟩ := dl_some (v := cv (sv, sb, sn)) ho1 (ris_esV h.r) (by rw [esV_len]; exact hl) hn
    have hP3 : PRx (w.alloc (.cells #[sv, .int .i64 (sn : Int)] 62)).drew X (nF F w) (some b) E n := (h.on hal (fun j _ hj => Or.inl hj)).keep (fun _ _ h => h) (fun _ _ _ => rfl) (fun _ _ _ _ _ _ => rfl)
    have hfin := hP3.put ho2 ht2 hs' (fun g hg => ⟨.inl (hf g hg).1, (hf g hg).2⟩) ha
    have hbX := (h.fm b rfl).2
    have hb4 : Bn w2 X (.map (some b) :: cs) := (hB.on hal).blk (ht2.grown.block X (by show X < (w.alloc _).heap.size; simp; omega) (fun e => hbX (Option.some.inj e).symm))
    have hk : Kf F w w2 := ((Kf.of hal (Nat.le_refl _)).drew).trans (Kf.grown ht2.grown (fun k hk => by have := Option.some.inj hk; subst this; exact (h.fm _ rfl).1))
    have hbl := ho.lt
    have V0 : (w.alloc (.cells #[sv, .int .i64 (sn : Int)] 62)).drew.cell? ⟨X, 0, none⟩ = some (.map (some b)) := C0
    have V1 : (w.alloc (.cells #[sv, .int .i64 (sn : Int)] 62)).drew.cell? ⟨w.heap.size, 0, none⟩ = some sv := x0
    have V2 : (w.alloc (.cells #[sv, .int .i64 (sn : Int)] 62)).drew.cell? ⟨w.heap.size, 1, none⟩ = some (.int .i64 (sn : Int)) := x1
    have Z0 : w2.cell? ⟨X, 0, none⟩ = some (.map (some b)) := (World.cell?_of_block (a := ⟨X, 0, none⟩) (ht2.grown.block X (by show X < (w.alloc _).heap.size; simp; omega) (fun e => hbX (Option.some.inj e).symm))).trans C0
    have Z1 : w2.cell? ⟨w.heap.size, 0, none⟩ = some sv := (World.cell?_of_block (a := ⟨w.heap.size, 0, none⟩) (ht2.grown.block w.heap.size (by show w.heap.size < (w.alloc _).heap.size; simp) (fun e => by have := Option.some.inj e; omega))).trans x0
    have Z2 : w2.cell? ⟨w.heap.size, 1, none⟩ = some (.int .i64 (sn : Int)) := (World.cell?_of_block (a := ⟨w.heap.size, 1, none⟩) (ht2.grown.block w.heap.size (by show w.heap.size < (w.alloc _).heap.size; simp) (fun e => by have := Option.some.inj e; omega))).trans x1
    have HF := hideD (And.intro hb4 (And.intro hfin hk))
    clear ho ho1 ho2 ht2 hP3 hs' hfin hb4 hk hal hB h hs hBx hf ha hmono
    unfold cv at hr2
    have hq := eqlSome b
    go_enter Try.func36, Try.ntmps36
    unfold cv
    go_wp2
    go_region_held_law (fun w' => w'.cell? ⟨X, 0, none⟩ = some (.map (some b)) ∧ w'.cell? ⟨w.heap.size, 0, none⟩ = some sv ∧ w'.cell? ⟨w.heap.size, 1, none⟩ = some (.int .i64 (sn : Int)))
      (first | (with_reducible exact ⟨C0, x0, x1⟩) | (with_reducible exact ⟨Z0, Z1, Z2⟩) | (with_reducible exact ⟨V0, V1, V2⟩)) (fail)
    go_end0
    exact ⟨rfl, ⟨_, HF.out.1, HF.out.2.1⟩, HF.out.2.2⟩

theorem slice_form {w : World} {base e : Nat} {v : Value} {xs : List Int} (h : Own w base e v xs) : ∃ a cap, v = .slice a xs.length cap ∧ xs.length ≤ cap ∧ cap ≤ maxLen := by
  rcases h.2 with ⟨h1, h2⟩ | ⟨g, cap, cur, h1, _, _, h3, h4, _⟩
  · exact ⟨none, 0, by rw [h1, h2], by omega, by simp [maxLen]⟩
  · exact ⟨_, _, h1, h3, h4⟩
theorem PR.del {w w' : World} {X b : Nat} {F : Nat → Prop} {E : List (Int × Sv)} {n : Int} (h : PR w X F (some b) E) (ho : w'.ownsMap Try.prog 3 hR b (dl n (esV E)).length (.map (esD (dl n (esV E))))) (ht : w.mapTurned w' b) : PR w' X F (some b) (dl n E) := by
  obtain ⟨es0, cl0, es1, cl1, hb0, _⟩ := id ht
  have hkeep : ∀ {v : Value} {xs : List Int}, Own w 0 5 v xs → Own w' 0 5 v xs := fun {v xs} hv => ownD_keep hv (fun g hg => ht.grown.block g (ownsRow_lt hv g hg).2 (fun e => by
    have e : g = b := Option.some.inj e
    subst e
    rcases hv.2 with ⟨rfl, _⟩ | ⟨g', cap, cur, rfl, _, hc, _⟩
    · simp [Value.ownBlock] at hg
    · have : g' = g := by simpa [Value.ownBlock] using hg
      subst this
      rw [hb0] at hc
      cases hc))
  exact ⟨ris_dl h.r, .inr ⟨b, rfl, by rw [← esV_dl]; exact ho⟩, h.fm, fun x hx => ⟨hkeep (h.s x (mem_dl.1 hx).1).1, (h.s x (mem_dl.1 hx).1).2⟩, h.a.filter _⟩
set_option maxRecDepth 100000 in
set_option maxHeartbeats 4000000 in
theorem dremove_any {w : World} {X b : Nat} {F : Nat → Prop} {E : List (Int × Sv)} {cs : List Value} {n u : Int} {s : Sv} (h : PR w X F (some b) E) (hB : Bn w X (.map (some b) :: .int .i64 u :: cs)) (hX : F X) (hn : (Lit.int .i64 n).wf = true)
    (hs : Own w 0 5 s.1 s.2.1) (hu1 : (s.2.1.length : Int) ≤ u) (hu2 : u ≤ 9223372036854775807) :
    Calls Try.prog 40 #[.pointer (some ⟨X, 0, none⟩), .int .i64 n, cv s] w fun e w' => e = .returned (.tuple #[]) ∧ Bn w' X (.map (some b) :: .int .i64 (u - (s.2.1.length : Int)) :: cs) ∧ PR w' X F (some b) (dl n E) ∧ Kf (fun j => j = X ∨ j = b) w w' := by
  have hXl := hB.lt
  have hal : Below w.heap.size w (w.alloc (.cells #[s.1, .int .i64 (s.2.2 : Int)] 62)) := (Below.refl _ _).alloc (Nat.le_refl _) _
  have hBx := Bn.new w [s.1, .int .i64 (s.2.2 : Int)] 62 _ rfl
  obtain ⟨sv, sb, sn⟩ := s
  simp only at *
  obtain ⟨a0, cap0, rfl, hlc, hcm⟩ := slice_form hs
  have ho : w.ownsMap Try.prog 3 hR b (esV E).length (.map (esD (esV E))) := by
    rcases h.m with ⟨e, _⟩ | ⟨b', e, ho⟩
    · cases e
    · cases e
      exact ho
  have ho1 := ho.alloc (.cells #[.slice a0 sb.length cap0, .int .i64 (sn : Int)] 62)
  obtain ⟨C0, D0⟩ := (hB.on hal) 0 _ rfl
  have hbX := (h.fm b rfl).2
  have hwr : IntKind.i64.wrap (u - (sb.length : Int)) = u - (sb.length : Int) := by rw [IntKind.wrap_i64]; omega
  have hP1 := h.on hal
  have hK := keyI hn
  have HF : ∀ w2, w2.ownsMap Try.prog 3 hR b (esV E).length ((DataW.map (esD (esV E))).del (.int .i64 n)) → (w.alloc (.cells #[.slice a0 sb.length cap0, .int .i64 (sn : Int)] 62)).mapTurned w2 b →
      Bn w2 X (.map (some b) :: .int .i64 u :: cs) ∧ Bn w2 w.heap.size [.slice a0 sb.length cap0, .int .i64 (sn : Int)] ∧ PR w2 X F (some b) (dl n E) ∧ Kf (fun j => j = X ∨ j = b) w w2 := fun w2 ho2 ht2 => by
    rw [delD] at ho2
    have hbl := ho.lt
    refine ⟨(hB.on hal).blk (ht2.grown.block X (by show X < (w.alloc _).heap.size; simp; omega) (fun e => hbX (Option.some.inj e).symm)), hBx.blk (ht2.grown.block w.heap.size (by show w.heap.size < (w.alloc _).heap.size; simp) (fun e => by have := Option.some.inj e; omega)), hP1.del (ownsMap_tight ho2) ht2, ?_⟩
    exact (Kf.of hal (Nat.le_refl _)).trans (Kf.grown ht2.grown (fun k hk => .inr (Option.some.inj hk).symm))
  have HF := hideD HF
  clear ho hs hP1 h hB hBx hal hn
  go_enter Try.func40, Try.ntmps40
  unfold cv
  go_wp2_with (first
    | (at_delete; refine wpList_delete_own _ rfl _ _ 46 3 rfl 62 (int_keyed Try.underlying3) Try.underlying46 hR b (esV E).length (.map (esD (esV E))) rfl ho1 _ _ rfl hK ?_; intro w2 ho2 ht2; obtain ⟨g1, g2, g3, g4⟩ := HF.out w2 ho2 ht2; clear ho1 HF ho2 ht2; obtain ⟨y1, z1⟩ := g1 1 _ rfl; obtain ⟨x0, _⟩ := g2 0 _ rfl)
    | fail)
  go_region_law (fail)
  all_goals
    go_end0
    exact ⟨rfl, g1.set (i := 1) (by simp) _, (g3.setX _).keep (fun _ _ _ _ => rfl), (g4.set (.inl rfl) _).drew⟩

theorem dfind_res {w : World} {R : Nat} {a b x : Value} {tmps : Array Value} (hR : Bn w R [a, b]) (ht : tmps.getD 4 undef = .pointer (some ⟨R, 0, none⟩)) (hx : tmps.getD 5 undef = x) : (results Try.f32 tmps).run Try.prog w = .ok (.tuple #[.agg #[a, b], x]) w := by
  obtain ⟨c0, _⟩ := hR 0 _ rfl
  obtain ⟨c1, _⟩ := hR 1 _ rfl
  have ht' : tmps[4]?.getD undef = .pointer (some ⟨R, 0, none⟩) := by simpa using ht
  have hx' : tmps[5]?.getD undef = x := by simpa using hx
  simp [results, Try.results32, go_sem, ht', hx', c0, c1]
theorem doper_res {w : World} {R : Nat} {a b x : Value} {tmps : Array Value} (hR : Bn w R [a, b]) (ht : tmps.getD 4 undef = .pointer (some ⟨R, 0, none⟩)) (hx : tmps.getD 5 undef = x) : (results Try.f39 tmps).run Try.prog w = .ok (.tuple #[.agg #[a, b], x]) w := by
  obtain ⟨c0, _⟩ := hR 0 _ rfl
  obtain ⟨c1, _⟩ := hR 1 _ rfl
  have ht' : tmps[4]?.getD undef = .pointer (some ⟨R, 0, none⟩) := by simpa using ht
  have hx' : tmps[5]?.getD undef = x := by simpa using hx
  simp [results, Try.results39, go_sem, ht', hx', c0, c1]
/-- What lies in a segment, and the error. -/
def fdE (dead : Bool) (n : Int) (E : List (Int × Sv)) : Sv × Int := if dead then (zC, 8) else match lk n E with | none => (zC, 5) | some s => (s, 0)
theorem Bn2.new {w : World} (a b : Value) : Bn (w.alloc (.cells #[a, b] 62)) w.heap.size [a, b] := Bn.new w [a, b] _ _ rfl
set_option maxRecDepth 100000 in
set_option maxHeartbeats 4000000 in
theorem dfind_any {w : World} {X : Nat} {F : Nat → Prop} {d : Dk} {mv : Option Nat} {E : List (Int × Sv)} (h : PDE w X F d mv E) {n : Int} (hn : (Lit.int .i64 n).wf = true) :
    Calls Try.prog 32 #[.pointer (some ⟨X, 0, none⟩), .int .i64 n] w fun e w' => e = .returned (.tuple #[cv (fdE d.dead n E).1, .int .i64 (fdE d.dead n E).2]) ∧ Below w.heap.size w w' := by
  obtain ⟨fz, h1, h2, h3, h4, h5⟩ := h
  have hXl := h4.lt
  have hal : Below w.heap.size w (w.alloc (.cells #[.slice none 0 0, .int .i64 0] 62)) := (Below.refl _ _).alloc (Nat.le_refl _) _
  have hB1 := h4.on hal
  have hR1 : Bn (w.alloc (.cells #[.slice none 0 0, .int .i64 0] 62)) w.heap.size [.slice none 0 0, .int .i64 0] := Bn2.new _ _
  obtain ⟨r0, q0⟩ := hR1 0 _ rfl
  obtain ⟨r1, q1⟩ := hR1 1 _ rfl
  obtain ⟨c0, f0⟩ := hB1 0 _ rfl
  obtain ⟨c3, f3⟩ := hB1 3 _ rfl
  have hlook := (h3.on hal).m.lookOk hn
  have hsl : ∀ s, lk n E = some s → ∃ a cap, s.1 = .slice a s.2.1.length cap := fun s hs => by
    obtain ⟨a, cap, e, _, _⟩ := slice_form (h3.s _ (lk_mem hs)).1
    exact ⟨a, cap, e⟩
  have hsz : (w.alloc (.cells #[.slice none 0 0, .int .i64 0] 62)).heap.size = w.heap.size + 1 := by simp
  clear h2 h3 h4
  by_cases hd : d.dead = true
  · have e : fdE d.dead n E = (zC, 8) := if_pos hd
    rw [e]
    rw [hd] at c3
    clear hlook e hsl
    go_enter Try.func32, Try.ntmps32
    go_upto_region 1 with fail
    generalize w.alloc (.cells #[.slice none 0 0, .int .i64 0] 62) = w1 at *
    have HR := hideD (show ∀ u v : Value, Bn ((w1.setCell ⟨w.heap.size, 0, none⟩ u).setCell ⟨w.heap.size, 1, none⟩ v) w.heap.size [u, v] from fun u v => (hR1.set (i := 0) (by simp) u).set (i := 1) (by simp) v)
    have HS := hideD (show ∀ u v : Value, Below w.heap.size w ((w1.setCell ⟨w.heap.size, 0, none⟩ u).setCell ⟨w.heap.size, 1, none⟩ v) from fun u v => (hal.setCell (Nat.le_refl _) _).setCell (Nat.le_refl _) _)
    have HB1 := hideD hR1
    have HAL := hideD hal
    clear hB1 hR1 hal
    go_wp2
    exact bodyPost_ret (dfind_res (HR.out _ _) rfl rfl) rfl ⟨rfl, HS.out _ _⟩
  have hd : d.dead = false := by simpa using hd
  rw [hd] at c3
  have e : fdE d.dead n E = match lk n E with | none => (zC, 5) | some s => (s, 0) := if_neg (by simp [hd])
  rw [e]
  clear e
  cases hk : lk n E with
  | none =>
    rw [hk] at hlook
    simp only [Option.getD_none, Option.isSome_none] at hlook ⊢
    unfold cv zC at hlook
    simp only at hlook
    clear hk hsl
    go_enter Try.func32, Try.ntmps32
    go_upto_region 1 with fail
    generalize w.alloc (.cells #[.slice none 0 0, .int .i64 0] 62) = w1 at *
    have HR := hideD (show ∀ u v : Value, Bn ((w1.setCell ⟨w.heap.size, 0, none⟩ u).setCell ⟨w.heap.size, 1, none⟩ v) w.heap.size [u, v] from fun u v => (hR1.set (i := 0) (by simp) u).set (i := 1) (by simp) v)
    have HS := hideD (show ∀ u v : Value, Below w.heap.size w ((w1.setCell ⟨w.heap.size, 0, none⟩ u).setCell ⟨w.heap.size, 1, none⟩ v) from fun u v => (hal.setCell (Nat.le_refl _) _).setCell (Nat.le_refl _) _)
    have HB1 := hideD hR1
    have HAL := hideD hal
    clear hB1 hR1 hal
    go_wp2
    exact bodyPost_ret (dfind_res ((HR.out _ _).on ((Below.refl _ _).alloc (Nat.le_refl _) _)) rfl rfl) rfl ⟨rfl, (HS.out _ _).alloc (by simp; omega) _⟩
  | some s =>
    rw [hk] at hlook
    simp only [Option.getD_some, Option.isSome_some] at hlook ⊢
    obtain ⟨a0, cap0, hs0⟩ := hsl s hk
    obtain ⟨sv, sb, sn⟩ := s
    simp only at hs0
    subst hs0
    unfold cv at hlook
    simp only at hlook
    clear hk hsl
    go_enter Try.func32, Try.ntmps32
    go_upto_region 1 with fail
    generalize w.alloc (.cells #[.slice none 0 0, .int .i64 0] 62) = w1 at *
    have HR := hideD (show ∀ u v : Value, Bn ((w1.setCell ⟨w.heap.size, 0, none⟩ u).setCell ⟨w.heap.size, 1, none⟩ v) w.heap.size [u, v] from fun u v => (hR1.set (i := 0) (by simp) u).set (i := 1) (by simp) v)
    have HS := hideD (show ∀ u v : Value, Below w.heap.size w ((w1.setCell ⟨w.heap.size, 0, none⟩ u).setCell ⟨w.heap.size, 1, none⟩ v) from fun u v => (hal.setCell (Nat.le_refl _) _).setCell (Nat.le_refl _) _)
    have HB1 := hideD hR1
    have HAL := hideD hal
    clear hB1 hR1 hal
    go_wp2
    exact bodyPost_ret (dfind_res ((HR.out _ _).on ((Below.refl _ _).alloc (Nat.le_refl _) _)) rfl rfl) rfl ⟨rfl, (HS.out _ _).alloc (by simp; omega) _⟩
end Go.Proofs.Ytibmbbiipffooaa
