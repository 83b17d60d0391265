import Derived.Test.YtbccdkhbplmknaaWmc01
import Derived.BigQuiet
import Derived.Deep.QuietTactic
import Derived.BigRegion
import Derived.Test.YtbccdkhbplmknaaRows
import Derived.Deep.RegionHeld
import Derived.Deep.DrawnRows
import Derived.WalkSmall
import Derived.RangeFuncNested
import Derived.RangeFuncBound
import Derived.RangeFuncCalls
import Derived.RangeFuncLeaves
import Derived.WalkKit

/- Words one by one; what reading makes of them; how long a printed text is. Math alone. -/
namespace Go.Proofs.Ytbccdkhbplmknaa
open Go.RowKit Go.Lib
set_option linter.unusedSimpArgs false
set_option linter.unusedVariables false

/-- The runes are one word of this kind, and no more. -/
structure OneW (K : Nat) (seg : List Ru) : Prop where
  k : K ≠ 0
  f : fst1 seg = (K, seg.length)
  g : ∀ v ∈ seg, Good v
  h : ∃ v t, seg = v :: t ∧ v.1 ≠ 10 ∧ v.1 ≠ 32 ∧ v.1 ≠ 9 ∧ v.1 ≠ 35
  l : (byt seg).length ≤ 12000
theorem OneW.runes {K : Nat} {seg : List Ru} (h : OneW K seg) : runes (byt seg) = seg := by
  have := runes_goods seg [] h.g
  rw [List.append_nil, runes_nil, List.append_nil] at this
  exact this
/-- A word's text has that word alone. -/
theorem OneW.words {K : Nat} {seg : List Ru} (h : OneW K seg) : wordsS (byt seg) = ([(K, seg, 1, 1)], (0, 0), 0) := by
  have hr := h.runes
  have hl := h.l
  have hf := h.f
  have hk := h.k
  unfold wordsS
  rw [if_neg (by omega), hr]
  obtain ⟨v, t, e, h1, h2, h3, h4⟩ := h.h
  rw [e] at hf ⊢
  rw [wrds_cons, if_neg h1, if_neg (fun q => q.elim h2 h3), if_neg h4, hf, if_neg hk, if_neg (by decide), List.take_length, List.drop_length, wrds_nil]
  rfl
theorem OneW.kind {K : Nat} {seg : List Ru} (h : OneW K seg) : (K = 1 ∧ nameS (byt seg) = true) ∨ (K = 2 ∧ numB (byt seg) = true) ∨ (K = 3 ∧ ∃ v t, seg = v :: t ∧ letter v.1 = false ∧ dgt v.1 = false) := by
  have hr := h.runes
  have hf := h.f
  have hk := h.k
  obtain ⟨v, t, e, _⟩ := h.h
  have hbne : byt seg ≠ [] := fun e0 => by rw [e0, runes_nil] at hr; rw [← hr] at e; cases e
  have hnx : (nx (byt seg)).1 = v.1 := by
    have := runes_cons hbne
    rw [hr, e] at this
    injection this with h1 _
    rw [e]
    exact (congrArg Prod.fst h1).symm
  rw [e, fst1_cons, ← e] at hf
  by_cases a : letter v.1 = true
  · rw [if_pos a] at hf
    by_cases b : spn seg ≤ 24
    · rw [if_pos b] at hf
      injection hf with h1 h2
      left
      refine ⟨h1.symm, ?_⟩
      unfold nameS
      have hs : spb (byt seg) = (byt seg).length := by unfold spb; rw [hr, h2, List.take_length]
      rw [hnx, a, hs, hr, decide_eq_true b]; simp
    · rw [if_neg b] at hf
      injection hf with h1 _
      exact absurd h1.symm hk
  · rw [if_neg a] at hf
    by_cases d : dgt v.1 = true
    · rw [if_pos d] at hf
      by_cases b : numb (seg.take (spn seg)) = true
      · rw [if_pos b] at hf
        injection hf with h1 h2
        right; left
        refine ⟨h1.symm, ?_⟩
        rw [h2, List.take_length] at b
        rw [numB_numb (l := byt seg) seg (fun v hv => by rw [hr]; exact hv)]
        exact b
      · rw [if_neg b] at hf
        injection hf with h1 _
        exact absurd h1.symm hk
    · rw [if_neg d] at hf
      by_cases b : sgn seg = 0
      · rw [if_pos b] at hf
        injection hf with h1 _
        exact absurd h1.symm hk
      · rw [if_neg b] at hf
        injection hf with h1 _
        right; right
        exact ⟨h1.symm, v, t, e, by simpa using a, by simpa using d⟩
section
variable {nb : List UInt8 → Int} {rsv : List UInt8 → Bool} {l : List Tk} {Q : Nat → Nat → Sx → Prop}
end

/-- Nothing but block X has turned, and new blocks. -/
abbrev Fx (X : Nat) (w w' : World) : Prop := w.grownBy w' (some X)
theorem Fx.refl (X : Nat) (w : World) : Fx X w w := ⟨rfl, rfl, rfl, Nat.le_refl _, fun _ _ _ => rfl⟩
theorem Fx.trans {X : Nat} {a b c : World} (h : Fx X a b) (k : Fx X b c) : Fx X a c :=
  ⟨k.os.trans h.os, k.tape.trans h.tape, k.output.trans h.output, Nat.le_trans h.size k.size, fun j hj hne => (k.block j (Nat.lt_of_lt_of_le hj h.size) hne).trans (h.block j hj hne)⟩
theorem Fx.of {X B : Nat} {a b : World} (h : Below B a b) (hB : a.heap.size ≤ B) : Fx X a b := ⟨h.os, h.tape, h.output, h.size, fun k hk _ => h.block k (by omega)⟩
theorem Fx.setX {X i : Nat} {a b : World} (h : Fx X a b) (u : Value) : Fx X a (b.setCell ⟨X, i, none⟩ u) :=
  ⟨h.os, h.tape, h.output, by simpa using h.size, fun k hk hne => (Below.heap_setCell _ _ _ _ (fun e => hne (congrArg some e))).trans (h.block k hk hne)⟩
theorem Fx.drewN {X : Nat} {a b : World} (h : Fx X a b) (m : Nat) : Fx X a (b.drewN m) := ⟨h.os, h.tape, h.output, h.size, h.block⟩
theorem Fx.drew {X : Nat} {a b : World} (h : Fx X a b) : Fx X a b.drew := ⟨h.os, h.tape, h.output, h.size, h.block⟩
theorem Fx.alloc {X : Nat} {a b : World} (h : Fx X a b) (o : Obj) : Fx X a (b.alloc o) := h.trans (Fx.of ((Below.refl b.heap.size b).alloc (Nat.le_refl _) o) (Nat.le_refl _))
theorem Fx.below {X : Nat} {a b : World} (h : Fx X a b) {B : Nat} (hB : B ≤ X) (hs : B ≤ a.heap.size) : Below B a b := ⟨h.os, h.tape, h.output, h.size, fun k hk => h.block k (by omega) (fun e => by have : k = X := Option.some.inj e; omega)⟩
/-- A new block's cells, written. -/
theorem Fx.setN {X N i : Nat} {a b : World} (h : Fx X a b) (hN : a.heap.size ≤ N) (u : Value) : Fx X a (b.setCell ⟨N, i, none⟩ u) :=
  ⟨h.os, h.tape, h.output, by simpa using h.size, fun k hk hne => (Below.heap_setCell _ _ _ _ (fun e => by have : k = N := e; omega)).trans (h.block k hk hne)⟩
/-- The words, in memory apart from X. -/
def RdL (w : World) (X : Nat) (a : Option Addr) (ws : List Wd) : Prop := ∀ (i : Nat) (hi : i < ws.length), ∃ g off, a = some ⟨g, off, none⟩ ∧ g < X ∧ w.cell? ⟨g, off + i * 4, none⟩ = some (.int .i64 ((ws[i]).1 : Int)) ∧ w.cell? ⟨g, off + i * 4 + 1, none⟩ = some (.string (txt (ws[i]).2.1)) ∧ w.cell? ⟨g, off + i * 4 + 2, none⟩ = some (.int .i64 (ws[i]).2.2.1) ∧ w.cell? ⟨g, off + i * 4 + 3, none⟩ = some (.int .i64 (ws[i]).2.2.2)
theorem RdL.fx {w w' : World} {X : Nat} {a : Option Addr} {ws : List Wd} (h : RdL w X a ws) (hX : X < w.heap.size) (hf : Fx X w w') : RdL w' X a ws := fun i hi => by
  obtain ⟨g, off, h1, h3, c0, c1, c2, c3⟩ := h i hi
  have hb : w'.heap[g]? = w.heap[g]? := hf.block g (by omega) (fun e => by have : g = X := Option.some.inj e; omega)
  have hc : ∀ j, w'.cell? ⟨g, j, none⟩ = w.cell? ⟨g, j, none⟩ := fun j => World.cell?_of_block (w := w) (a := ⟨g, j, none⟩) hb
  exact ⟨g, off, h1, h3, (hc _).trans c0, (hc _).trans c1, (hc _).trans c2, (hc _).trans c3⟩
/-- The reader in block X. -/
structure Rr (w : World) (X : Nat) (a : Option Addr) (cap : Nat) (ws : List Wd) (n : Nat) (b : Int) : Prop where
  c0 : w.cell? ⟨X, 0, none⟩ = some (.slice a ws.length cap)
  c1 : w.cell? ⟨X, 1, none⟩ = some (.int .i64 (n : Int))
  c2 : w.cell? ⟨X, 2, none⟩ = some (.int .i64 b)
  f1 : w.frozen? ⟨X, 1, none⟩ = false
  f2 : w.frozen? ⟨X, 2, none⟩ = false
  l : RdL w X a ws
theorem Rr.lt {w : World} {X : Nat} {a : Option Addr} {cap : Nat} {ws : List Wd} {n : Nat} {b : Int} (h : Rr w X a cap ws n b) : X < w.heap.size := World.block_lt_of_cell? w _ h.c0
theorem Rr.on {w w' : World} {X : Nat} {a : Option Addr} {cap : Nat} {ws : List Wd} {n : Nat} {b : Int} (h : Rr w X a cap ws n b) (hb : Below w.heap.size w w') : Rr w' X a cap ws n b := by
  have hX := h.lt
  have hc : ∀ i, w'.cell? ⟨X, i, none⟩ = w.cell? ⟨X, i, none⟩ := fun i => hb.cell (p := ⟨X, i, none⟩) hX
  have hf : ∀ i, w'.frozen? ⟨X, i, none⟩ = w.frozen? ⟨X, i, none⟩ := fun i => hb.frozen (p := ⟨X, i, none⟩) hX
  exact ⟨(hc 0).trans h.c0, (hc 1).trans h.c1, (hc 2).trans h.c2, (hf 1).trans h.f1, (hf 2).trans h.f2, h.l.fx hX (Fx.of hb (Nat.le_refl _))⟩
theorem Rr.set1 {w : World} {X : Nat} {a : Option Addr} {cap : Nat} {ws : List Wd} {n : Nat} {b : Int} (h : Rr w X a cap ws n b) (n' : Nat) : Rr (w.setCell ⟨X, 1, none⟩ (.int .i64 (n' : Int))) X a cap ws n' b :=
  ⟨cell_far4 (by omega) h.c0, cell_same4 h.c1, cell_far4 (by omega) h.c2, (World.frozen?_setCell _ _ _ _).trans h.f1, (World.frozen?_setCell _ _ _ _).trans h.f2, h.l.fx h.lt ((Fx.refl X w).setX _)⟩
theorem Rr.set2 {w : World} {X : Nat} {a : Option Addr} {cap : Nat} {ws : List Wd} {n : Nat} {b : Int} (h : Rr w X a cap ws n b) (b' : Int) : Rr (w.setCell ⟨X, 2, none⟩ (.int .i64 b')) X a cap ws n b' :=
  ⟨cell_far4 (by omega) h.c0, cell_far4 (by omega) h.c1, cell_same4 h.c2, (World.frozen?_setCell _ _ _ _).trans h.f1, (World.frozen?_setCell _ _ _ _).trans h.f2, h.l.fx h.lt ((Fx.refl X w).setX _)⟩
theorem draws (w : World) (m : Nat) : Below w.heap.size w (w.drewN m) := ⟨rfl, rfl, rfl, Nat.le_refl _, fun _ _ => rfl⟩
structure Wk (ws : List Wd) (cap : Nat) : Prop where
  l : ws.length ≤ 3000
  c : ws.length ≤ cap
  m : cap ≤ maxLen
  o : ∀ x ∈ ws, OneW x.1 x.2.1
theorem Rr.far {w : World} {X N i : Nat} {a : Option Addr} {cap : Nat} {ws : List Wd} {n : Nat} {b : Int} (h : Rr w X a cap ws n b) (hN : X < N) (u : Value) : Rr (w.setCell ⟨N, i, none⟩ u) X a cap ws n b := by
  refine ⟨cell_far4 (by omega) h.c0, cell_far4 (by omega) h.c1, cell_far4 (by omega) h.c2, (World.frozen?_setCell _ _ _ _).trans h.f1, (World.frozen?_setCell _ _ _ _).trans h.f2, fun j hj => ?_⟩
  obtain ⟨g, off, h1, h3, d0, d1, d2, d3⟩ := h.l j hj
  exact ⟨g, off, h1, h3, cell_far4 (by omega) d0, cell_far4 (by omega) d1, cell_far4 (by omega) d2, cell_far4 (by omega) d3⟩

/-- A block of cells that may be written. -/
def Bn (w : World) (Y : Nat) (cs : List Value) : Prop := ∀ j u, cs[j]? = some u → w.cell? ⟨Y, j, none⟩ = some u ∧ w.frozen? ⟨Y, j, none⟩ = false
theorem Bn.lt {w : World} {Y : Nat} {c : Value} {cs : List Value} (h : Bn w Y (c :: cs)) : Y < w.heap.size := World.block_lt_of_cell? w _ (h 0 c rfl).1
theorem frozen_of_block {w w' : World} {Y j : Nat} (h : w'.heap[Y]? = w.heap[Y]?) : w'.frozen? ⟨Y, j, none⟩ = w.frozen? ⟨Y, j, none⟩ := by
  unfold World.frozen?
  rw [h]
theorem Bn.blk {w w' : World} {Y : Nat} {cs : List Value} (h : Bn w Y cs) (hb : w'.heap[Y]? = w.heap[Y]?) : Bn w' Y cs := fun j u hu =>
  ⟨keep_cell (p := ⟨Y, j, none⟩) hb (h j u hu).1, (frozen_of_block hb).trans (h j u hu).2⟩
theorem Bn.on {w w' : World} {Y : Nat} {c : Value} {cs : List Value} (h : Bn w Y (c :: cs)) (hb : Below w.heap.size w w') : Bn w' Y (c :: cs) := h.blk (hb.block Y h.lt)
theorem Bn.fx {w w' : World} {X Y : Nat} {c : Value} {cs : List Value} (h : Bn w Y (c :: cs)) (hf : Fx X w w') (hne : Y ≠ X) : Bn w' Y (c :: cs) := h.blk (hf.block Y h.lt (fun e => hne (Option.some.inj e)))
theorem Bn.far {w : World} {Y X i : Nat} {cs : List Value} (h : Bn w Y cs) (hne : X ≠ Y) (v : Value) : Bn (w.setCell ⟨X, i, none⟩ v) Y cs := h.blk (Below.heap_setCell _ _ _ _ (fun e => hne e.symm))
theorem Bn.set {w : World} {Y i : Nat} {cs : List Value} (h : Bn w Y cs) (hi : i < cs.length) (v : Value) : Bn (w.setCell ⟨Y, i, none⟩ v) Y (cs.set i v) := fun j u hu => by
  refine ⟨?_, (World.frozen?_setCell _ _ _ _).trans ?_⟩
  · by_cases hj : i = j
    · subst hj
      rw [List.getElem?_set_self hi] at hu
      obtain rfl := Option.some.inj hu
      exact cell_same4 (h i _ (List.getElem?_eq_getElem hi)).1
    · rw [List.getElem?_set_ne hj] at hu
      exact cell_far4 (by omega) (h j u hu).1
  · have hl : j < cs.length := by
      have := (List.getElem?_eq_some_iff.1 hu).1
      rwa [List.length_set] at this
    exact (h j _ (List.getElem?_eq_getElem hl)).2
theorem Bn.drew {w : World} {Y : Nat} {cs : List Value} (h : Bn w Y cs) : Bn w.drew Y cs := h
theorem Bn.new (w : World) (cs : List Value) (t : TypeId) (n : Nat) (hn : n = w.heap.size) : Bn (w.alloc (.cells cs.toArray t)) n cs := by
  subst hn
  intro j u hu
  refine ⟨?_, by simp⟩
  rw [World.cell?_alloc_new]
  simpa using hu

/-- The slice v reads as the list l, k cells an element. -/
def RdK {α : Type} (ok : Nat → Prop) (w : World) (k : Nat) (R : α → List Value → Prop) (l : List α) (v : Value) : Prop :=
  ∃ a cap, v = .slice a l.length cap ∧ l.length ≤ cap ∧ cap ≤ maxLen ∧
    ∀ (i : Nat) (hi : i < l.length), ∃ b off cs, a = some ⟨b, off, none⟩ ∧ ok b ∧ b < w.heap.size ∧ cs.length = k ∧ R l[i] cs ∧ ∀ j u, cs[j]? = some u → w.cell? ⟨b, off + i * k + j, none⟩ = some u
theorem rdK_none {α : Type} (ok : Nat → Prop) (w : World) (k : Nat) (R : α → List Value → Prop) : RdK ok w k R [] (.slice none 0 0) := ⟨none, 0, rfl, by simp, by simp [maxLen], fun i hi => absurd hi (by simp)⟩
theorem RdK.keep {α : Type} {ok ok' : Nat → Prop} {w w' : World} {k : Nat} {R R' : α → List Value → Prop} {l : List α} {v : Value} (h : RdK ok w k R l v) (hR : ∀ x ∈ l, ∀ u, R x u → R' x u) (hk : ∀ b, ok b → b < w.heap.size → ok' b ∧ w'.heap[b]? = w.heap[b]?) : RdK ok' w' k R' l v := by
  obtain ⟨a, cap, rfl, hc, hm, hcell⟩ := h
  refine ⟨a, cap, rfl, hc, hm, fun i hi => ?_⟩
  obtain ⟨b, off, cs, ha, ho, hb, hl, hr, hcs⟩ := hcell i hi
  obtain ⟨ho', hs⟩ := hk _ ho hb
  refine ⟨b, off, cs, ha, ho', ?_, hl, hR _ (List.getElem_mem hi) _ hr, fun j u hu => keep_cell (p := ⟨b, off + i * k + j, none⟩) hs (hcs j u hu)⟩
  rcases Nat.lt_or_ge b w'.heap.size with h | h
  · exact h
  · rw [Array.getElem?_eq_none h, Array.getElem?_eq_getElem hb] at hs
    cases hs
theorem RdK.form {α : Type} {ok : Nat → Prop} {w : World} {k : Nat} {R : α → List Value → Prop} {l : List α} {v : Value} (h : RdK ok w k R l v) : ∃ a cap, v = .slice a l.length cap ∧ l.length ≤ cap ∧ cap ≤ maxLen := by
  obtain ⟨a, cap, h1, h2, h3, _⟩ := h
  exact ⟨a, cap, h1, h2, h3⟩
/-- A reading that stays where its blocks stay. -/
def Kp {α : Type} (R : (Nat → Prop) → World → α → List Value → Prop) : Prop := ∀ ⦃ok ok' : Nat → Prop⦄ ⦃w w' : World⦄ ⦃x : α⦄ ⦃cs : List Value⦄, R ok w x cs → (∀ b, ok b → b < w.heap.size → ok' b ∧ w'.heap[b]? = w.heap[b]?) → R ok' w' x cs
/-- The slice v is the call's own, from block base on, of k cells an element, and holds l; what lies behind its cells lies apart. -/
def OwnK {α : Type} (w : World) (base e k : Nat) (R : (Nat → Prop) → World → α → List Value → Prop) (v : Value) (l : List α) : Prop :=
  ∃ qs : List (List Value), w.ownsRow base e k v l.length qs.flatten ∧ qs.length = l.length ∧ ∀ (i : Nat) (h : i < l.length) (h' : i < qs.length), (qs[i]).length = k ∧ R (fun b => base ≤ b ∧ v.ownBlock ≠ some b) w l[i] qs[i]
theorem OwnK.keep {α : Type} {w w' : World} {base e k : Nat} {R : (Nat → Prop) → World → α → List Value → Prop} {v : Value} {l : List α} (hR : Kp R) (h : OwnK w base e k R v l) (hk : ∀ b, base ≤ b → b < w.heap.size → w'.heap[b]? = w.heap[b]?) : OwnK w' base e k R v l := by
  obtain ⟨qs, ho, hl, hr⟩ := h
  refine ⟨qs, ownsRow_keep ho (fun g hg => ?_), hl, fun i h h' => ⟨(hr i h h').1, hR (hr i h h').2 (fun b hb hlt => ⟨hb, hk b hb.1 hlt⟩)⟩⟩
  obtain ⟨a, b⟩ := ownsRow_lt ho g hg
  exact hk g a b
theorem OwnK.on {α : Type} {w w' : World} {base e k : Nat} {R : (Nat → Prop) → World → α → List Value → Prop} {v : Value} {l : List α} (hR : Kp R) (h : OwnK w base e k R v l) (hb : Below w.heap.size w w') : OwnK w' base e k R v l := h.keep hR (fun b _ hlt => hb.block b hlt)
theorem OwnK.fx {α : Type} {w w' : World} {base e k X : Nat} {R : (Nat → Prop) → World → α → List Value → Prop} {v : Value} {l : List α} (hR : Kp R) (h : OwnK w base e k R v l) (hf : Fx X w w') (hX : X < base) : OwnK w' base e k R v l :=
  h.keep hR (fun b hb hlt => hf.block b hlt (fun e => by have : b = X := Option.some.inj e; omega))
theorem OwnK.set {α : Type} {w : World} {base e k : Nat} {R : (Nat → Prop) → World → α → List Value → Prop} {v : Value} {l : List α} (hR : Kp R) (h : OwnK w base e k R v l) {X i : Nat} (hX : X < base) (u : Value) : OwnK (w.setCell ⟨X, i, none⟩ u) base e k R v l :=
  h.keep hR (fun b hb _ => Below.heap_setCell _ _ _ _ (fun e => by have : b = X := e; omega))
theorem OwnK.form {α : Type} {w : World} {base e k : Nat} {R : (Nat → Prop) → World → α → List Value → Prop} {v : Value} {l : List α} (h : OwnK w base e k R v l) : ∃ a cap, v = .slice a l.length cap ∧ l.length ≤ cap ∧ cap ≤ maxLen := by
  obtain ⟨qs, ho, _⟩ := h
  rcases ho.2 with ⟨h1, h2⟩ | ⟨g, cap, cur, h1, _, _, h3, h4, _⟩
  · exact ⟨none, 0, by rw [h1, h2], by omega, by simp [maxLen]⟩
  · exact ⟨_, _, h1, h3, h4⟩
/-- One more. The new one's memory lies from lo on, and the old row's block below. -/
theorem OwnK.snoc {α : Type} {w w' : World} {base e k lo n : Nat} {R : (Nat → Prop) → World → α → List Value → Prop} {v v' : Value} {l : List α} {p : α} {cs : List Value} {qs : List (List Value)} (hR : Kp R) (hk : cs.length = k)
    (hn : l.length = n) (ho : w.ownsRow base e k v n qs.flatten) (hl : qs.length = l.length) (hr : ∀ (i : Nat) (h : i < l.length) (h' : i < qs.length), (qs[i]).length = k ∧ R (fun b => base ≤ b ∧ v.ownBlock ≠ some b) w l[i] qs[i])
    (ho' : w'.ownsRow base e k v' (n + 1) (qs.flatten ++ cs)) (hg : w.grownBy w' v.ownBlock) (hat : v'.ownBlock = v.ownBlock ∨ v'.ownBlock = some w.heap.size)
    (hp : R (fun b => lo ≤ b) w p cs) (hlo : base ≤ lo) (hv : ∀ x, v.ownBlock = some x → x < lo) : OwnK w' base e k R v' (l ++ [p]) := by
  subst hn
  have key : ∀ b, base ≤ b ∧ v.ownBlock ≠ some b → b < w.heap.size → (base ≤ b ∧ v'.ownBlock ≠ some b) ∧ w'.heap[b]? = w.heap[b]? := fun b hb hlt => by
    refine ⟨⟨hb.1, fun e => ?_⟩, hg.block b hlt (fun e => hb.2 e.symm)⟩
    rcases hat with h | h
    · exact hb.2 (h ▸ e)
    · rw [h] at e; have : w.heap.size = b := Option.some.inj e; omega
  refine ⟨qs ++ [cs], ?_, by simp [hl], fun i h h' => ?_⟩
  · rw [List.flatten_append, List.length_append]
    simpa using ho'
  · rcases Nat.lt_or_ge i l.length with hi | hi
    · rw [List.getElem_append_left hi, List.getElem_append_left (by omega)]
      exact ⟨(hr i hi (by omega)).1, hR (hr i hi (by omega)).2 key⟩
    · have : i = l.length := by simp at h; omega
      subst this
      have e1 : (l ++ [p])[l.length] = p := by simp
      have e2 : (qs ++ [cs])[l.length]'h' = cs := by simp [← hl]
      rw [e1, e2]
      exact ⟨hk, hR hp (fun b hb hlt => key b ⟨by omega, fun e => by have := hv b e; omega⟩ hlt)⟩
theorem flat_at {k : Nat} : ∀ (qs : List (List Value)) (i j : Nat) (h : i < qs.length) (u : Value), (∀ (i : Nat) (h : i < qs.length), (qs[i]).length = k) → (qs[i])[j]? = some u → qs.flatten[i * k + j]? = some u
  | [], i, j, h, u, _, _ => by simp at h
  | x :: t, 0, j, h, u, hk, hu => by
    have hu' : x[j]? = some u := hu
    have hj := (List.getElem?_eq_some_iff.1 hu').1
    rw [List.flatten_cons, Nat.zero_mul, Nat.zero_add, List.getElem?_append_left hj]
    exact hu'
  | x :: t, i + 1, j, h, u, hk, hu => by
    have hx : x.length = k := hk 0 (by simp)
    have e : (i + 1) * k + j = x.length + (i * k + j) := by rw [hx, Nat.succ_mul]; omega
    rw [List.flatten_cons, e, List.getElem?_append_right (by omega), Nat.add_sub_cancel_left]
    exact flat_at t i j (by simpa using h) u (fun i h => hk (i + 1) (by simpa using h)) hu
/-- It reads as the list. -/
theorem OwnK.rd {α : Type} {w : World} {base e k : Nat} {R : (Nat → Prop) → World → α → List Value → Prop} {v : Value} {l : List α} (hR : Kp R) (h : OwnK w base e k R v l) : RdK (fun b => base ≤ b) w k (R (fun b => base ≤ b) w) l v := by
  obtain ⟨qs, ho, hl, hr⟩ := h
  have hc := fun g => World.ownsRow.cells ho (g := g)
  rcases ho.2 with ⟨rfl, hn⟩ | ⟨g, cap, cur, rfl, hb, hg, hnc, hcm, hcs, htake⟩
  · have hx : l = [] := List.eq_nil_of_length_eq_zero hn
    subst hx
    exact rdK_none _ w k _
  · refine ⟨some ⟨g, 0, none⟩, cap, rfl, hnc, hcm, fun i hi => ⟨g, 0, qs[i], rfl, hb, (Array.getElem?_eq_some_iff.1 hg).1, (hr i hi (by omega)).1, hR (hr i hi (by omega)).2 (fun b hb _ => ⟨hb.1, rfl⟩), fun j u hu => ?_⟩⟩
    have := hc g rfl (i * k + j) u (flat_at qs i j (by omega) u (fun i h => (hr i (by omega) h).1) hu)
    rw [add_plain] at this
    rw [Nat.zero_add]
    rwa [Nat.zero_add] at this
/-- Read from a lower block on. -/
theorem RdK.low {α : Type} {w : World} {base lo k : Nat} {R : (Nat → Prop) → World → α → List Value → Prop} {v : Value} {l : List α} (hR : Kp R) (h : RdK (fun b => base ≤ b) w k (R (fun b => base ≤ b) w) l v) (hlo : lo ≤ base) : RdK (fun b => lo ≤ b) w k (R (fun b => lo ≤ b) w) l v :=
  h.keep (fun x _ u hu => hR hu (fun b hb _ => ⟨by omega, rfl⟩)) (fun b hb _ => ⟨by omega, rfl⟩)
theorem RdK.stay {α : Type} {ok ok' : Nat → Prop} {w w' : World} {k : Nat} {R : (Nat → Prop) → World → α → List Value → Prop} {v : Value} {l : List α} (hR : Kp R) (h : RdK ok w k (R ok w) l v) (hk : ∀ b, ok b → b < w.heap.size → ok' b ∧ w'.heap[b]? = w.heap[b]?) : RdK ok' w' k (R ok' w') l v :=
  h.keep (fun x _ u hu => hR hu hk) hk

section
variable {nb : List UInt8 → Int} {rsv : List UInt8 → Bool} {l : List Tk}
end

end Go.Proofs.Ytbccdkhbplmknaa

/- Charts, and how they are read of words, as the document's reader does. Math alone. -/
namespace Go.Proofs.Ytbccdkhbplmknaa
open Go.RowKit Go.Lib
set_option linter.unusedVariables false

abbrev Pl := Int × Int
/-- An on: event, guard (is there one, and which), target, sets, place. -/
abbrev OnC := List UInt8 × (Bool × Sx) × List UInt8 × List (List UInt8 × Sx) × Pl
/-- A state but for what lies in it: name, place, all, end, do, undo, where, retries, ons. -/
abbrev HdC := (List UInt8 × Pl) × (Bool × Bool) × (List UInt8 × List UInt8) × (Int × Int) × List OnC
/-- States that lie less than d deep in one another. -/
def St : Nat → Type
  | 0 => Empty
  | d + 1 => HdC × List (St d)
/-- The reader: the words that are left, the place of the first error, the error. -/
abbrev RsC := List Wd × Pl × Int
def wPl (w : Wd) : Pl := (w.2.2.1, w.2.2.2)
section
variable (fin : Pl)
def hereR (r : RsC) : Pl := match r.1 with | [] => fin | w :: _ => wPl w
def failC (e : Int) (p : Pl) (r : RsC) : RsC := if r.2.2 = 0 then (r.1, p, e) else r
end
/-- No words more; without an error behind it there was none ahead. -/
def Goes (r r' : RsC) : Prop := r'.1.length ≤ r.1.length ∧ (r'.2.2 = 0 → r.2.2 = 0)
theorem Goes.refl (r : RsC) : Goes r r := ⟨Nat.le_refl _, id⟩
theorem Goes.trans {a b c : RsC} (h : Goes a b) (k : Goes b c) : Goes a c := ⟨Nat.le_trans k.1 h.1, fun e => h.2 (k.2 e)⟩
section
variable (fin : Pl)
end
end Go.Proofs.Ytbccdkhbplmknaa

/- What the program's levelOf and Reserved do. -/
namespace Go.Proofs.Ytbccdkhbplmknaa
open Go.RowKit Go.Lib
set_option linter.unusedSimpArgs false
set_option linter.unusedVariables false
attribute [local go_sem ↓] Go.wp_at_zero Go.wp_at_succ

end Go.Proofs.Ytbccdkhbplmknaa

/- The expression of a tree. -/
namespace Go.Proofs.Ytbccdkhbplmknaa
open Go.RowKit
set_option linter.unusedSimpArgs false
set_option linter.unusedVariables false

/-- The expression of a tree. -/
def exV : (d : Nat) → T d → Value := fold (fun k n s l =>
  if k = 1 then .iface 132 (.agg #[.int .i64 n]) else if k = 2 then .iface 134 (.agg #[.string s]) else if k = 3 then .iface 136 (.agg #[l.getD 0 .nilIface]) else if k = 4 then .iface 137 (.agg #[l.getD 0 .nilIface])
  else if k = 5 then .iface 139 (.agg #[.string s, l.getD 0 .nilIface, l.getD 1 .nilIface]) else .nilIface)
def exP {d : Nat} (ps : List (T d)) (i : Nat) : Value := (ps.map (exV d)).getD i .nilIface
theorem exV_mk {d : Nat} (k n : Int) (s : ByteArray) (ps : List (T d)) : exV (d + 1) (mkT k n s ps) =
    if k = 1 then .iface 132 (.agg #[.int .i64 n]) else if k = 2 then .iface 134 (.agg #[.string s]) else if k = 3 then .iface 136 (.agg #[exP ps 0]) else if k = 4 then .iface 137 (.agg #[exP ps 0])
    else if k = 5 then .iface 139 (.agg #[.string s, exP ps 0, exP ps 1]) else .nilIface := rfl
theorem exV_form : ∀ (d : Nat) (t : T d), exV d t = .nilIface ∨ ∃ u x, exV d t = .iface u x
  | 0, t => Empty.elim t
  | d + 1, t => by
    obtain ⟨k, n, s, ps, rfl⟩ := T.open t
    rw [exV_mk]
    repeat' split
    all_goals first | exact .inl rfl | exact .inr ⟨_, _, rfl⟩
theorem exP_form {d : Nat} (ps : List (T d)) (i : Nat) : exP ps i = .nilIface ∨ ∃ u x, exP ps i = .iface u x := by
  unfold exP
  rw [List.getD_eq_getElem?_getD, List.getElem?_map]
  cases ps[i]? with
  | none => exact .inl rfl
  | some p => exact exV_form d p
end Go.Proofs.Ytbccdkhbplmknaa

/- What an expression is by itself: topOf. -/
namespace Go.Proofs.Ytbccdkhbplmknaa
open Go.RowKit Go.Lib
set_option linter.unusedSimpArgs false
set_option linter.unusedVariables false
attribute [local go_sem ↓] Go.wp_at_zero Go.wp_at_succ

/-- The slice v holds the values l, from a block's first cell on. -/
def Kids (w : World) (v : Value) (l : List Value) : Prop :=
  (v = .slice none 0 0 ∧ l = []) ∨ ∃ g, v = .slice (some ⟨g, 0, none⟩) l.length l.length ∧ ∀ (i : Nat) (h : i < l.length), w.cell? ⟨g, i, none⟩ = some l[i]
def Ifc (x : Value) : Prop := x = .nilIface ∨ ∃ u y, x = .iface u y

theorem as_lit_lit (v : Value) (w : World) : (Instr.typeAssert (.iface 132 v) 116 132 true).run Try.prog w = .ok (.tuple #[v, .bool true]) w := by kernel_rfl
theorem as_ref_lit (v : Value) (w : World) : (Instr.typeAssert (.iface 134 v) 116 132 true).run Try.prog w = .ok (.tuple #[.agg #[.int .i64 0], .bool false]) w := by kernel_rfl
theorem as_ref_ref (v : Value) (w : World) : (Instr.typeAssert (.iface 134 v) 116 134 true).run Try.prog w = .ok (.tuple #[v, .bool true]) w := by kernel_rfl
theorem as_not_lit (v : Value) (w : World) : (Instr.typeAssert (.iface 136 v) 116 132 true).run Try.prog w = .ok (.tuple #[.agg #[.int .i64 0], .bool false]) w := by kernel_rfl
theorem as_not_ref (v : Value) (w : World) : (Instr.typeAssert (.iface 136 v) 116 134 true).run Try.prog w = .ok (.tuple #[.agg #[.string ⟨#[]⟩], .bool false]) w := by kernel_rfl
theorem as_not_not (v : Value) (w : World) : (Instr.typeAssert (.iface 136 v) 116 136 true).run Try.prog w = .ok (.tuple #[v, .bool true]) w := by kernel_rfl
theorem as_neg_lit (v : Value) (w : World) : (Instr.typeAssert (.iface 137 v) 116 132 true).run Try.prog w = .ok (.tuple #[.agg #[.int .i64 0], .bool false]) w := by kernel_rfl
theorem as_neg_ref (v : Value) (w : World) : (Instr.typeAssert (.iface 137 v) 116 134 true).run Try.prog w = .ok (.tuple #[.agg #[.string ⟨#[]⟩], .bool false]) w := by kernel_rfl
theorem as_neg_not (v : Value) (w : World) : (Instr.typeAssert (.iface 137 v) 116 136 true).run Try.prog w = .ok (.tuple #[.agg #[.nilIface], .bool false]) w := by kernel_rfl
theorem as_neg_neg (v : Value) (w : World) : (Instr.typeAssert (.iface 137 v) 116 137 true).run Try.prog w = .ok (.tuple #[v, .bool true]) w := by kernel_rfl
theorem as_bin_lit (v : Value) (w : World) : (Instr.typeAssert (.iface 139 v) 116 132 true).run Try.prog w = .ok (.tuple #[.agg #[.int .i64 0], .bool false]) w := by kernel_rfl
theorem as_bin_ref (v : Value) (w : World) : (Instr.typeAssert (.iface 139 v) 116 134 true).run Try.prog w = .ok (.tuple #[.agg #[.string ⟨#[]⟩], .bool false]) w := by kernel_rfl
theorem as_bin_not (v : Value) (w : World) : (Instr.typeAssert (.iface 139 v) 116 136 true).run Try.prog w = .ok (.tuple #[.agg #[.nilIface], .bool false]) w := by kernel_rfl
theorem as_bin_neg (v : Value) (w : World) : (Instr.typeAssert (.iface 139 v) 116 137 true).run Try.prog w = .ok (.tuple #[.agg #[.nilIface], .bool false]) w := by kernel_rfl
theorem as_bin_bin (v : Value) (w : World) : (Instr.typeAssert (.iface 139 v) 116 139 true).run Try.prog w = .ok (.tuple #[v, .bool true]) w := by kernel_rfl
attribute [local go_sem] as_lit_lit as_ref_lit as_ref_ref as_not_lit as_not_ref as_not_not as_neg_lit as_neg_ref as_neg_not as_neg_neg as_bin_lit as_bin_ref as_bin_not as_bin_neg as_bin_bin

theorem Kids.below {w w' : World} {v : Value} {l : List Value} {B : Nat} (h : Kids w v l) (hb : Below B w w') (hB : w.heap.size ≤ B) : Kids w' v l := by
  rcases h with h | ⟨g, hv, hc⟩
  · exact .inl h
  · exact .inr ⟨g, hv, fun i hi => by rw [hb.cell (p := ⟨g, i, none⟩) (Nat.lt_of_lt_of_le (World.block_lt_of_cell? w _ (hc i hi)) hB)]; exact hc i hi⟩

end Go.Proofs.Ytbccdkhbplmknaa

/- Rows of expressions that are left to be asked: in memory, popped, grown. -/
namespace Go.Proofs.Ytbccdkhbplmknaa
open Go.RowKit Go.Lib
set_option linter.unusedSimpArgs false
set_option linter.unusedVariables false

theorem fld_i (a b c e : Value) (w : World) : (Instr.field 159 (.agg #[a, b, c, e]) 3).run Try.prog w = .ok e w := by kernel_rfl
abbrev Sg := (d : Nat) × T d
def exS (x : Sg) : Value := exV x.1 x.2
/-- The slice v, of the call's own from block base on, holds the expressions st. -/
def Stk (w : World) (base : Nat) (v : Value) (st : List Sg) : Prop := w.ownsRow base 116 1 v st.length (st.map exS)
theorem own_on {w w' : World} {base e size : Nat} {v : Value} {n : Nat} {xs : List Value} {B : Nat} (h : w.ownsRow base e size v n xs) (hb : Below B w w') (hB : w.heap.size ≤ B) : w'.ownsRow base e size v n xs := by
  refine ⟨h.1, ?_⟩
  rcases h.2 with hn | ⟨g, cap, cur, rfl, hbg, hg, rest⟩
  · exact .inl hn
  · exact .inr ⟨g, cap, cur, rfl, hbg, by rw [hb.block g (by have := (Array.getElem?_eq_some_iff.1 hg).1; omega)]; exact hg, rest⟩
theorem Stk.on {w w' : World} {base : Nat} {v : Value} {st : List Sg} {B : Nat} (h : Stk w base v st) (hb : Below B w w') (hB : w.heap.size ≤ B) : Stk w' base v st := own_on h hb hB
theorem Stk.nil {w : World} {base : Nat} {v : Value} (h : Stk w base v []) : ∃ a cap, v = .slice a 0 cap := by
  rcases h.2 with ⟨h1, _⟩ | ⟨g, cap, cur, rfl, _⟩
  · exact ⟨_, _, h1⟩
  · exact ⟨_, _, rfl⟩
theorem Kids.form {w : World} {sl : Value} {l : List Value} (h : Kids w sl l) : ∃ a, sl = .slice a l.length l.length := by
  rcases h with ⟨rfl, rfl⟩ | ⟨g, rfl, _⟩
  · exact ⟨_, rfl⟩
  · exact ⟨_, rfl⟩
theorem Kids.at {w : World} {a : Option Addr} {m c j : Nat} {l : List Value} (h : Kids w (.slice a m c) l) (hj : j < l.length) : ∃ g, a = some ⟨g, 0, none⟩ ∧ w.cell? ⟨g, j, none⟩ = some l[j] := by
  rcases h with ⟨h1, rfl⟩ | ⟨g, h1, hc⟩
  · simp at hj
  · simp only [Value.slice.injEq] at h1
    exact ⟨g, h1.1, hc j hj⟩
theorem Kids.src {w : World} {sl : Value} {l : List Value} (h : Kids w sl l) (hf : ∀ v ∈ l, Ifc v) : Src Try.prog 1 157 sl l.length l w := by
  rcases h with ⟨rfl, rfl⟩ | ⟨g, rfl, hc⟩
  · exact Src.ofNil w Try.underlying157 0
  · refine Src.ofSlice w Try.underlying157 _ _ _ l (by simp) (fun j u hu => ?_) (fun u hu => ?_)
    · have hj : j < l.length := (List.getElem?_eq_some_iff.1 hu).1
      rw [List.getElem?_eq_getElem hj] at hu
      rw [show (⟨g, 0, none⟩ : Addr).add j = ⟨g, j, none⟩ by unfold Addr.add; split <;> simp_all, hc j hj, hu]
    · rcases hf u hu with rfl | ⟨t, y, rfl⟩ <;> rfl
/-- What is asked of a tree's parts. -/
theorem Cl.parts {d : Nat} {k n : Int} {s : ByteArray} {ps : List (T d)} (h : Cl (d + 1) (mkT k n s ps)) : ps.length ≤ 2 ∧ ∀ p ∈ ps, Cl d p := by
  rcases h with ⟨_, _, h3⟩ | ⟨_, _, h3⟩ | ⟨_, _, _, p, h4, h5⟩ | ⟨_, _, p, q, h3, h4, h5⟩ | ⟨_, _, _, h4⟩
  · simp only at h3; subst h3; simp
  · simp only at h3; subst h3; simp
  · simp only at h4; subst h4; simpa using h5
  · simp only at h3; subst h3; simp [h4, h5]
  · simp only at h4; subst h4; simp
end Go.Proofs.Ytbccdkhbplmknaa

/- The program's reader in memory: its operands, and the signs that wait; what is small. -/
namespace Go.Proofs.Ytbccdkhbplmknaa
open Go.RowKit Go.Lib
set_option linter.unusedSimpArgs false
set_option linter.unusedVariables false
attribute [local go_sem ↓] Go.wp_at_zero Go.wp_at_succ

def exX (x : Sx) : Value := exV x.1 x.2
theorem exX_form (x : Sx) : exX x = .nilIface ∨ ∃ u y, exX x = .iface u y := exV_form x.1 x.2
/-- Nothing has turned but the reader, its two rows, and new blocks; the rows are where they were, or new. -/
structure Fr2 (X : Nat) (vv ww : Value) (w w' : World) (vv' ww' : Value) : Prop where
  size : w.heap.size ≤ w'.heap.size
  block : ∀ k, k < w.heap.size → k ≠ X → vv.ownBlock ≠ some k → ww.ownBlock ≠ some k → w'.heap[k]? = w.heap[k]?
  lv : ∀ g, vv'.ownBlock = some g → vv.ownBlock = some g ∨ w.heap.size ≤ g
  lw : ∀ g, ww'.ownBlock = some g → ww.ownBlock = some g ∨ w.heap.size ≤ g
theorem Fr2.refl (X : Nat) (vv ww : Value) (w : World) : Fr2 X vv ww w w vv ww := ⟨Nat.le_refl _, fun _ _ _ _ _ => rfl, fun _ h => .inl h, fun _ h => .inl h⟩
theorem Fr2.on {X : Nat} {vv ww vv' ww' : Value} {w w1 w2 : World} (h : Fr2 X vv ww w w1 vv' ww') (hb : Below w1.heap.size w1 w2) : Fr2 X vv ww w w2 vv' ww' :=
  ⟨Nat.le_trans h.size hb.size, fun k hk a b c => (hb.block k (Nat.lt_of_lt_of_le hk h.size)).trans (h.block k hk a b c), h.lv, h.lw⟩
theorem Fr2.setX {X : Nat} {vv ww vv' ww' : Value} {w w1 : World} (h : Fr2 X vv ww w w1 vv' ww') (i : Nat) (u : Value) : Fr2 X vv ww w (w1.setCell ⟨X, i, none⟩ u) vv' ww' :=
  ⟨by simpa using h.size, fun k hk a b c => (Below.heap_setCell _ _ _ _ (fun e => a e)).trans (h.block k hk a b c), h.lv, h.lw⟩
theorem Fr2.rows {X : Nat} {vv ww vv' ww' vv2 ww2 : Value} {w w1 : World} (h : Fr2 X vv ww w w1 vv' ww') (hv : vv2.ownBlock = vv'.ownBlock) (hw : ww2.ownBlock = ww'.ownBlock) : Fr2 X vv ww w w1 vv2 ww2 :=
  ⟨h.size, h.block, fun g hg => h.lv g (hv ▸ hg), fun g hg => h.lw g (hw ▸ hg)⟩
theorem Fr2.trans {X : Nat} {vv ww v1 u1 v2 u2 : Value} {w w1 w2 : World} (h : Fr2 X vv ww w w1 v1 u1) (k : Fr2 X v1 u1 w1 w2 v2 u2) : Fr2 X vv ww w w2 v2 u2 := by
  refine ⟨Nat.le_trans h.size k.size, fun j hj a b c => ?_, fun g hg => ?_, fun g hg => ?_⟩
  · rw [k.block j (Nat.lt_of_lt_of_le hj h.size) a (fun e => ?_) (fun e => ?_), h.block j hj a b c]
    · rcases h.lv j e with q | q
      · exact b q
      · omega
    · rcases h.lw j e with q | q
      · exact c q
      · omega
  · rcases k.lv g hg with q | q
    · exact h.lv g q
    · exact .inr (Nat.le_trans h.size q)
  · rcases k.lw g hg with q | q
    · exact h.lw g q
    · exact .inr (Nat.le_trans h.size q)
end Go.Proofs.Ytbccdkhbplmknaa

/- Charts in the program's memory. -/
namespace Go.Proofs.Ytbccdkhbplmknaa
open Go.RowKit Go.Lib
set_option linter.unusedSimpArgs false
set_option linter.unusedVariables false

/-- A text of bytes as a value. -/
def sV (l : List UInt8) : Value := .string ⟨l.toArray⟩
def rSet (ok : Nat → Prop) (w : World) (x : List UInt8 × Sx) (cs : List Value) : Prop := cs = [sV x.1, exX x.2]
theorem kp_set : Kp rSet := fun _ _ _ _ _ _ h _ => h
/-- The guard: nil where there is none. -/
def gdV (g : Bool × Sx) : Value := if g.1 = true then exX g.2 else .nilIface
def onV (o : OnC) (sl : Value) : List Value := [sV o.1, gdV o.2.1, sV o.2.2.1, sl, .int .i64 o.2.2.2.2.1, .int .i64 o.2.2.2.2.2]
def rOn (ok : Nat → Prop) (w : World) (o : OnC) (cs : List Value) : Prop := ∃ sl, cs = onV o sl ∧ RdK ok w 2 (rSet ok w) o.2.2.2.1 sl
theorem kp_on : Kp rOn := fun _ _ _ _ _ _ ⟨sl, h, hr⟩ hk => ⟨sl, h, hr.stay kp_set hk⟩
def hdV (h : HdC) (so si : Value) : List Value := [sV h.1.1, .int .i64 h.1.2.1, .int .i64 h.1.2.2, .bool h.2.1.1, .bool h.2.1.2, sV h.2.2.1.1, sV h.2.2.1.2, .int .i64 h.2.2.2.1.1, .int .i64 h.2.2.2.1.2, so, si]
def rSt : (d : Nat) → (Nat → Prop) → World → St d → List Value → Prop
  | 0, _, _, t, _ => Empty.elim t
  | d + 1, ok, w, t, cs => ∃ so si, cs = hdV t.1 so si ∧ RdK ok w 6 (rOn ok w) t.1.2.2.2.2 so ∧ RdK ok w 11 (rSt d ok w) t.2 si
theorem kp_st : ∀ d, Kp (rSt d)
  | 0 => fun _ _ _ _ x _ _ _ => Empty.elim x
  | d + 1 => fun _ _ _ _ _ _ ⟨so, si, h, h1, h2⟩ hk => ⟨so, si, h, h1.stay kp_on hk, h2.stay (kp_st d) hk⟩
def varV (x : List UInt8 × Int × Pl) : List Value := [sV x.1, .int .i64 x.2.1, .int .i64 x.2.2.1, .int .i64 x.2.2.2]
def rVar (ok : Nat → Prop) (w : World) (x : List UInt8 × Int × Pl) (cs : List Value) : Prop := cs = varV x
theorem kp_var : Kp rVar := fun _ _ _ _ _ _ h _ => h
/-- A chart whose states lie less than d deep. -/
abbrev ChG (d : Nat) := (List UInt8 × Pl) × Int × List (List UInt8 × Int × Pl) × List (St d)
def RdC (ok : Nat → Prop) (w : World) (d : Nat) (c : ChG d) (v : Value) : Prop :=
  ∃ sv ss, v = .agg #[sV c.1.1, .int .i64 c.2.1, .int .i64 c.1.2.1, .int .i64 c.1.2.2, sv, ss] ∧ RdK ok w 4 (rVar ok w) c.2.2.1 sv ∧ RdK ok w 11 (rSt d ok w) c.2.2.2 ss
theorem RdC.keep {ok ok' : Nat → Prop} {w w' : World} {d : Nat} {c : ChG d} {v : Value} (h : RdC ok w d c v) (hk : ∀ b, ok b → b < w.heap.size → ok' b ∧ w'.heap[b]? = w.heap[b]?) : RdC ok' w' d c v := by
  obtain ⟨sv, ss, h1, h2, h3⟩ := h
  exact ⟨sv, ss, h1, h2.stay kp_var hk, h3.stay (kp_st d) hk⟩

abbrev SgS := (d : Nat) × St d
/-- How deep a state lies, the state, its cells. -/
abbrev Fx3 := Nat × SgS × List Value
def rdc (w : World) (b off : Nat) : List Value := (List.range 11).map (fun j => (w.cell? ⟨b, off + j, none⟩).getD .nilIface)
def vB : Value → Nat
  | .slice (some a) _ _ => a.block
  | _ => 0
def vO : Value → Nat
  | .slice (some a) _ _ => a.off
  | _ => 0
def flN (w : World) (d k b : Nat) (rc : List (St d) → Value → List Fx3) : List (St (d + 1)) → Nat → List Fx3
  | [], _ => []
  | t :: r, off => (k, ⟨d + 1, t⟩, rdc w b off) :: (rc t.2 ((rdc w b off).getD 10 .nilIface) ++ flN w d k b rc r (off + 11))
def flX (w : World) : (d : Nat) → Nat → List (St d) → Value → List Fx3
  | 0, _, _, _ => []
  | d + 1, k, l, v => flN w d k (vB v) (flX w d (k + 1)) l (vO v)
theorem flX_nil (w : World) (d k : Nat) (v : Value) : flX w d k [] v = [] := by cases d <;> rfl
/-- The same without memory. -/
def flM : (d : Nat) → Nat → List (St d) → List (Nat × SgS)
  | 0, _, _ => []
  | d + 1, k, l => l.flatMap (fun t => (k, ⟨d + 1, t⟩) :: flM d (k + 1) t.2)
theorem flN_map (w : World) (d k b : Nat) (rc : List (St d) → Value → List Fx3) (h : ∀ l v, (rc l v).map (fun x => (x.1, x.2.1)) = flM d (k + 1) l) : ∀ (l : List (St (d + 1))) (off : Nat), (flN w d k b rc l off).map (fun x => (x.1, x.2.1)) = flM (d + 1) k l
  | [], _ => rfl
  | t :: r, off => by
    have h2 := flN_map w d k b rc h r (off + 11)
    simp only [flN, List.map_cons, List.map_append, h, h2]
    simp [flM]
theorem flX_map (w : World) : ∀ (d k : Nat) (l : List (St d)) (v : Value), (flX w d k l v).map (fun x => (x.1, x.2.1)) = flM d k l
  | 0, _, _, _ => rfl
  | d + 1, k, l, v => flN_map w d k _ _ (flX_map w d (k + 1)) l _
/-- What a row of states that is read has ahead: its first one's cells, and the rest. -/
theorem rdK_head {ok : Nat → Prop} {w : World} {d : Nat} {t : St (d + 1)} {r : List (St (d + 1))} {v : Value} (h : RdK ok w 11 (rSt (d + 1) ok w) (t :: r) v) : ∃ b off cap, v = .slice (some ⟨b, off, none⟩) (r.length + 1) cap ∧ r.length + 1 ≤ cap ∧ cap ≤ maxLen ∧ ok b ∧ b < w.heap.size ∧
    (∃ so si, rdc w b off = hdV t.1 so si ∧ RdK ok w 6 (rOn ok w) t.1.2.2.2.2 so ∧ RdK ok w 11 (rSt d ok w) t.2 si) ∧ (∀ j u, (rdc w b off)[j]? = some u → w.cell? ⟨b, off + j, none⟩ = some u) ∧
    (∀ a', (r ≠ [] → a' = some ⟨b, off + 11, none⟩) → RdK ok w 11 (rSt (d + 1) ok w) r (.slice a' r.length (cap - 1))) := by
  obtain ⟨a, cap, rfl, hc, hm, hcell⟩ := h
  obtain ⟨b, off, cs, rfl, hob, hb, hl, hr, hcs⟩ := hcell 0 (by simp)
  have e : rdc w b off = cs := by
    apply List.ext_getElem?
    intro j
    by_cases hj : j < 11
    · have hj' : j < cs.length := by omega
      have h1 := hcs j _ (List.getElem?_eq_getElem hj')
      simp only [Nat.zero_mul, Nat.add_zero] at h1
      rw [List.getElem?_eq_getElem hj']
      simp only [rdc, List.getElem?_map]
      rw [List.getElem?_range hj]
      simp [h1]
    · rw [List.getElem?_eq_none (show (rdc w b off).length ≤ j by simp [rdc]; omega), List.getElem?_eq_none (show cs.length ≤ j by omega)]
  refine ⟨b, off, cap, by simp, by simpa using hc, hm, hob, hb, ?_, ?_, ?_⟩
  · obtain ⟨so, si, h1, h2, h3⟩ := hr
    exact ⟨so, si, e.trans h1, h2, h3⟩
  · intro j u hu
    rw [e] at hu
    have := hcs j u hu
    simpa using this
  · intro a' ha'
    simp only [List.length_cons] at hc
    refine ⟨a', cap - 1, rfl, by omega, by omega, fun i hi => ?_⟩
    obtain ⟨b', off', cs', h1, h2, h3, h4, h5, h6⟩ := hcell (i + 1) (by simpa using hi)
    simp only [Option.some.injEq, Addr.mk.injEq, and_true] at h1
    obtain ⟨rfl, rfl⟩ := h1
    refine ⟨b, off + 11, cs', ha' (fun e => by subst e; simp at hi), h2, h3, h4, by simpa using h5, fun j u hu => ?_⟩
    have := h6 j u hu
    rw [show off + 11 + i * 11 + j = off + (i + 1) * 11 + j by omega]
    exact this
/-- Each of them is read by its cells. -/
theorem flX_rd {ok : Nat → Prop} {w : World} : ∀ (d k : Nat) (l : List (St d)) (v : Value), RdK ok w 11 (rSt d ok w) l v → ∀ x ∈ flX w d k l v, rSt x.2.1.1 ok w x.2.1.2 x.2.2
  | 0, _, _, _, _ => fun x hx => by simp [flX] at hx
  | d + 1, k, l, v, h => by
    have key : ∀ (l : List (St (d + 1))) (v : Value) (b off : Nat), RdK ok w 11 (rSt (d + 1) ok w) l v → (l ≠ [] → vB v = b ∧ vO v = off) → ∀ x ∈ flN w d k b (flX w d (k + 1)) l off, rSt x.2.1.1 ok w x.2.1.2 x.2.2 := by
      intro l
      induction l with
      | nil => intro v b off _ _ x hx; simp [flN] at hx
      | cons t r ih =>
        intro v b off h hv x hx
        obtain ⟨b', off', cap, rfl, _, _, _, _, ⟨so, si, e1, h1, h2⟩, _, ht⟩ := rdK_head h
        obtain ⟨rfl, rfl⟩ := hv (by simp)
        simp only [vB, vO] at hx
        simp only [flN, List.mem_cons, List.mem_append] at hx
        rcases hx with rfl | hx | hx
        · exact ⟨so, si, e1, h1, h2⟩
        · rw [e1] at hx
          exact flX_rd d (k + 1) t.2 si h2 x hx
        · exact ih (.slice (some ⟨b', off' + 11, none⟩) r.length (cap - 1)) b' (off' + 11) (ht _ (fun _ => rfl)) (fun _ => ⟨rfl, rfl⟩) x hx
    exact key l v _ _ h (fun _ => ⟨rfl, rfl⟩)
/-- What is left of each list that is gone through, the innermost first. -/
abbrev Ent := (d : Nat) × List (St d) × Value
def remT (w : World) : List Ent → List Fx3
  | [] => []
  | e :: r => flX w e.1 r.length e.2.1 e.2.2 ++ remT w r
def EntOk (ok : Nat → Prop) (w : World) (e : Ent) : Prop := RdK ok w 11 (rSt e.1 ok w) e.2.1 e.2.2
theorem remT_nil (w : World) (d : Nat) (v : Value) (r : List Ent) : remT w (⟨d, [], v⟩ :: r) = remT w r := by simp [remT, flX_nil]
theorem remT_cons {ok : Nat → Prop} {w : World} {d : Nat} {t : St (d + 1)} {l : List (St (d + 1))} {b off n cap : Nat} {a' : Option Addr} {n' c' : Nat} (r : List Ent) (ha : l ≠ [] → a' = some ⟨b, off + 11, none⟩) :
    remT w (⟨d + 1, t :: l, .slice (some ⟨b, off, none⟩) n cap⟩ :: r) = (r.length, ⟨d + 1, t⟩, rdc w b off) :: remT w (⟨d, t.2, (rdc w b off).getD 10 .nilIface⟩ :: ⟨d + 1, l, .slice a' n' c'⟩ :: r) := by
  simp only [remT, flX, vB, vO, flN, List.length_cons, List.cons_append, List.append_assoc]
  cases l with
  | nil => simp [flN]
  | cons x l => rw [ha (by simp)]
end Go.Proofs.Ytbccdkhbplmknaa

/- A range over a function whose iterator keeps cells of its own: what the caller's side owns and what the iterator owns lie apart. -/
namespace Go.Proofs.Ytbccdkhbplmknaa
open Go.RowKit
set_option linter.unusedSimpArgs false
set_option linter.unusedVariables false

/-- The blocks of K that lay in A lie in B as they lay. -/
structure Sm (K : Nat → Prop) (A B : World) : Prop where
  os : B.os = A.os
  tape : B.tape = A.tape
  output : B.output = A.output
  size : A.heap.size ≤ B.heap.size
  block : ∀ k, k < A.heap.size → K k → B.heap[k]? = A.heap[k]?
theorem Sm.refl (K : Nat → Prop) (A : World) : Sm K A A := ⟨rfl, rfl, rfl, Nat.le_refl _, fun _ _ _ => rfl⟩
theorem Sm.trans {K K' : Nat → Prop} {A B C : World} (h : Sm K A B) (k : Sm K' B C) (hk : ∀ i, i < A.heap.size → K i → K' i) : Sm K A C :=
  ⟨k.os.trans h.os, k.tape.trans h.tape, k.output.trans h.output, Nat.le_trans h.size k.size, fun i hi hK => (k.block i (Nat.lt_of_lt_of_le hi h.size) (hk i hi hK)).trans (h.block i hi hK)⟩
theorem Sm.mono {K K' : Nat → Prop} {A B : World} (h : Sm K A B) (hk : ∀ i, i < A.heap.size → K' i → K i) : Sm K' A B :=
  ⟨h.os, h.tape, h.output, h.size, fun i hi hK => h.block i hi (hk i hi hK)⟩
theorem Sm.below {K : Nat → Prop} {A B : World} {n : Nat} (h : Sm K A B) (hn : n ≤ A.heap.size) (hk : ∀ i, i < n → K i) : Below n A B :=
  ⟨h.os, h.tape, h.output, h.size, fun i hi => h.block i (by omega) (hk i hi)⟩
theorem Sm.of_below {K : Nat → Prop} {A B : World} {n : Nat} (h : Below n A B) (hk : ∀ i, i < A.heap.size → K i → i < n) : Sm K A B :=
  ⟨h.os, h.tape, h.output, h.size, fun i hi hK => h.block i (hk i hi hK)⟩
theorem Sm.of_grown {K : Nat → Prop} {A B : World} {row : Option Nat} (h : A.grownBy B row) (hk : ∀ i, i < A.heap.size → K i → some i ≠ row) : Sm K A B :=
  ⟨h.os, h.tape, h.output, h.size, fun i hi hK => h.block i hi (hk i hi hK)⟩
theorem Sm.putObj (K : Nat → Prop) (A : World) (l : Nat) (o : Obj) (hl : ¬ K l) : Sm K A (A.putObj l o) :=
  Sm.of_grown (grownBy_putObj' A l o) (fun i _ hK e => hl (by cases e; exact hK))
theorem Sm.alloc (K : Nat → Prop) (A : World) (o : Obj) : Sm K A (A.alloc o) := Sm.of_grown (World.grownBy_alloc A o none) (fun i _ _ e => by cases e)
theorem Sm.setCell (K : Nat → Prop) (A : World) (p : Addr) (u : Value) (hl : ¬ K p.block) : Sm K A (A.setCell p u) :=
  ⟨rfl, rfl, rfl, by simp [World.setCell], fun k _ hk => Below.heap_setCell _ _ _ _ (fun e => hl (e ▸ hk))⟩
theorem Sm.drew {K : Nat → Prop} {A B : World} (h : Sm K A B) : Sm K A B.drew := ⟨h.os, h.tape, h.output, h.size, h.block⟩

/-- What is said of the blocks below m and those of o alone. -/
def Stb {β : Type} (m : Nat) (I : β → (Nat → Prop) → World → Prop) : Prop := ∀ s o A B, I s o A → Sm (fun k => k < m ∨ o k) A B → I s o B
/-- A step that writes blocks of o alone, and new ones. -/
def Fp (m : Nat) (o o' : Nat → Prop) (W W' : World) : Prop := Sm (fun k => k < m ∨ ¬ o k) W W' ∧ ∀ k, o' k → o k ∨ W.heap.size ≤ k
theorem Fp.refl (m : Nat) (o : Nat → Prop) (W : World) : Fp m o o W W := ⟨Sm.refl _ _, fun _ h => .inl h⟩
theorem Fp.trans {m : Nat} {o o' o'' : Nat → Prop} {A B C : World} (h : Fp m o o' A B) (k : Fp m o' o'' B C) : Fp m o o'' A C :=
  ⟨h.1.trans k.1 (fun i hi hK => by
    rcases hK with hK | hK
    · exact .inl hK
    · exact .inr (fun e => by rcases h.2 i e with h' | h'; exact hK h'; omega)),
   fun i hi => by
    rcases k.2 i hi with h' | h'
    · exact h.2 i h'
    · exact .inr (Nat.le_trans h.1.size h')⟩

/-- The contract of an iterator that keeps memory of its own: all of xs come, one by one; or a part, where a round has said 'no more'. -/
def SeqOwns {α : Type} (F : Fence) (n : Nat) (P : Program) (g : Nat) (lb : Array Value) (encs : α → Array Value) (m : Nat) (xs : List α) (w : World) : Prop :=
  ∀ (l : Nat) (J Jx : List α → (Nat → Prop) → World → Prop) (o : Nat → Prop) (W : World), Below w.heap.size w W →
    (∀ s o A, J s o A → ∀ k, o k → k < A.heap.size ∧ m ≤ k) → Stb m J → Stb m Jx →
    (∀ pre x rest o W1, xs = pre ++ x :: rest → J pre o W1 → YieldAt F (n - 1) P l (encs x) W1 fun e W' =>
      (e = .returned (.bool true) ∧ ∃ o', J (pre ++ [x]) o' W' ∧ Fp m o o' W1 W') ∨ (e = .returned (.bool false) ∧ ∃ o', Jx (pre ++ [x]) o' W')) →
    J [] o W →
    CallsIn F n P g (#[.func (.yield l) #[] #[]] ++ lb) W fun e W' => (∃ v, e = .returned v) ∧ ((∃ o, J xs o W') ∨ (∃ pre o, pre <+: xs ∧ Jx pre o W'))

/-- How the body of a round may be left. -/
def stPost {α : Type} (m : Nat) (I : List α → (Nat → Prop) → World → Prop) (Ix : Code → List α → (Nat → Prop) → World → Prop) (xs : List α) (o : Nat → Prop) (W : World) : Exit → Act → World → Prop
  | .normal, _, W' => ∃ o', Fp m o o' W W' ∧ I xs o' W'
  | .ret, _, W' => ∃ o', Fp m o o' W W' ∧ Ix .ret xs o' W'
  | .exit id, _, W' => ∃ o', Fp m o o' W W' ∧ Ix (.exit id) xs o' W'
  | .goto t, _, W' => ∃ o', Fp m o o' W W' ∧ Ix (.goto t) xs o' W'
  | .panic _, _, _ => False
  | .outgrown, _, _ => False

theorem wpIn_rangeFunc_st {F : Fence} {n : Nat} {P : Program} {α : Type} {g : Operand} {ps : Array Tmp} {assign body : Code} {Q : Exit → Act → World → Prop} {a : Act} {w : World}
    (hro : F.round = none) (h1 : 1 ≤ n) {gf : Nat} {lb : Array Value} (hg : a.eval g = .func (.func gf) #[] lb) (hFg : F.fn gf) (eg : ∀ args w, (callFunc gf args).run P w = .ok (.enter gf args) w)
    {encs : α → Array Value} {m : Nat} {xs : List α} {w0 : World} (hseq : SeqOwns F (n - 1) P gf lb encs m xs w0) (hb0 : Below w0.heap.size w0 w) (hm : m ≤ w.heap.size) (hps : ∀ x, (encs x).size = ps.size)
    (I : List α → (Nat → Prop) → World → Prop) (IA : List α → α → Act → (Nat → Prop) → World → Prop) (Ix : Code → List α → (Nat → Prop) → World → Prop)
    (hIl : ∀ s o A, I s o A → ∀ k, o k → k < A.heap.size ∧ m ≤ k) (hI : Stb m I) (hIA : ∀ pre x a', Stb m (fun (_ : Unit) => IA pre x a')) (hIx : ∀ c, Stb m (Ix c)) (o0 : Nat → Prop) (h0 : I [] o0 w)
    (hassign : ∀ (l : Nat) (pre : List α) (x : α) (rest : List α) (o : Nat → Prop) (W : World) (K : Act → World → Prop), xs = pre ++ x :: rest → I pre o W → (∀ a' o' W', Fp m o o' W W' → IA pre x a' o' W' → K a' W') →
      assign.wpIn (F.inRound l) (n - 1 - 1) P (Exit.then K (fun _ _ _ => False)) { tmps := (ps.zip (encs x)).foldl (fun t (p, v) => t.setIfInBounds p v) a.tmps, defers := [] } W)
    (hbody : ∀ (l : Nat) (pre : List α) (x : α) (rest : List α) (a' : Act) (o : Nat → Prop) (W : World), xs = pre ++ x :: rest → IA pre x a' o W → body.wpIn (F.inRound l) (n - 1 - 1) P (stPost m I Ix (pre ++ [x]) o W) a' W)
    (hdone : ∀ (D : Nat) (o : Nat → Prop) (W : World), w.heap.size ≤ D → I xs o W → ¬ o D → W.heap[D]? = some (.deferred (some [])) → Q .normal { a with defers := { target := .collected D, args := #[] } :: a.defers } W)
    (hstop : ∀ (D : Nat) (c : Code) (pre : List α) (o : Nat → Prop) (W : World), w.heap.size ≤ D → pre <+: xs → Ix c pre o W → ¬ o D → W.heap[D]? = some (.deferred (some [])) → c.wpIn F n P Q { a with defers := { target := .collected D, args := #[] } :: a.defers } W) :
    (Code.rangeFunc g ps assign body).wpIn F n P Q a w := by
  refine wpIn_rangeFunc ?_
  intro fn hfn
  rw [hro]
  obtain ⟨rec, hrec⟩ : ∃ rec : LoopState → Option Code → Loop, rec = fun st pe => { state := st, pending := pe, fn, tmps := a.tmps, params := ps, assign, body, defers := w.heap.size } := ⟨_, rfl⟩
  obtain ⟨W1, hW1⟩ : ∃ W1, (w.alloc (.deferred (some []))).alloc (.loop (rec .ready none)) = W1 := ⟨_, rfl⟩
  have hL1 : W1.heap[w.heap.size + 1]? = some (.loop (rec .ready none)) := by
    rw [← hW1]; have := World.alloc_heap_new (w.alloc (.deferred (some []))) (.loop (rec .ready none)); rwa [World.size_alloc] at this
  have hK1 : W1.heap[w.heap.size]? = some (.deferred (some [])) := by
    rw [← hW1]; exact (Below.heap_alloc _ _ _ (by simp)).trans (World.alloc_heap_new w _)
  have hI1 : I [] o0 W1 := by rw [← hW1]; exact hI _ _ _ _ (hI _ _ _ _ h0 (Sm.alloc _ _ _)) (Sm.alloc _ _ _)
  have hb1 : Below w0.heap.size w0 W1 := by
    rw [← hW1]; exact hb0.trans ((((Below.refl _ w).alloc (Nat.le_refl _) _).alloc (by simp) _).mono hb0.size)
  refine ⟨w.heap.size + 1, [{ target := .collected w.heap.size, args := #[] }], W1, { target := .fn (.func gf) lb, args := #[.func (.yield (w.heap.size + 1)) #[] #[]] }, W1, gf,
    #[.func (.yield (w.heap.size + 1)) #[] #[]] ++ lb, W1, ?_, ?_, ?_, ?_, fun _ => h1, ?_⟩
  · rw [← hW1, hrec]; exact run_enterLoop_outer _ _ _ _ _
  · simp only [resolve, hg]
    simp [go_sem]
  · intro f' hf'; simp [Target.leads] at hf'; subst hf'; exact hFg
  · simp [invoke, go_sem, eg]
  · obtain ⟨D, hD⟩ : ∃ D, w.heap.size = D := ⟨_, rfl⟩
    rw [hD] at hL1 hK1 hm hdone hstop ⊢
    have hsz : D + 2 = W1.heap.size := by rw [← hW1, ← hD]; simp
    have hno : ∀ k, o0 k → k < D := fun k hk => by have := (hIl _ _ _ h0 k hk).1; omega
    clear hW1
    refine (hseq (D + 1)
      (fun pre oj W => ∃ o, I pre o W ∧ (∀ k, oj k ↔ (o k ∨ k = D ∨ k = D + 1)) ∧ ¬ o D ∧ ¬ o (D + 1) ∧ W.heap[D + 1]? = some (.loop (rec .ready none)) ∧ W.heap[D]? = some (.deferred (some [])))
      (fun pre oj W => ∃ c o, Ix c pre o W ∧ (∀ k, oj k ↔ (o k ∨ k = D ∨ k = D + 1)) ∧ ¬ o D ∧ ¬ o (D + 1) ∧ W.heap[D + 1]? = some (.loop (rec .done (some c))) ∧ W.heap[D]? = some (.deferred (some [])))
      (fun k => o0 k ∨ k = D ∨ k = D + 1) W1 hb1 ?hl ?hJ ?hJx ?hY ⟨o0, hI1, fun _ => Iff.rfl, fun h => by have := hno _ h; omega, fun h => by have := hno _ h; omega, hL1, hK1⟩).mono ?_
    case hl =>
      rintro s oj A ⟨o, hi, hoj, _, _, hl, hk⟩ k hk'
      rcases (hoj k).1 hk' with h | rfl | rfl
      · exact hIl _ _ _ hi k h
      · exact ⟨(Array.getElem?_eq_some_iff.1 hk).1, hm⟩
      · exact ⟨(Array.getElem?_eq_some_iff.1 hl).1, by omega⟩
    case hJ =>
      rintro s oj A B ⟨o, hi, hoj, n1, n2, hl, hk⟩ hs
      refine ⟨o, hI _ _ _ _ hi (hs.mono (fun i _ h => h.imp id (fun h => (hoj i).2 (.inl h)))), hoj, n1, n2, ?_, ?_⟩
      · exact (hs.block _ (Array.getElem?_eq_some_iff.1 hl).1 (.inr ((hoj _).2 (.inr (.inr rfl))))).trans hl
      · exact (hs.block _ (Array.getElem?_eq_some_iff.1 hk).1 (.inr ((hoj _).2 (.inr (.inl rfl))))).trans hk
    case hJx =>
      rintro s oj A B ⟨c, o, hi, hoj, n1, n2, hl, hk⟩ hs
      refine ⟨c, o, hIx c _ _ _ _ hi (hs.mono (fun i _ h => h.imp id (fun h => (hoj i).2 (.inl h)))), hoj, n1, n2, ?_, ?_⟩
      · exact (hs.block _ (Array.getElem?_eq_some_iff.1 hl).1 (.inr ((hoj _).2 (.inr (.inr rfl))))).trans hl
      · exact (hs.block _ (Array.getElem?_eq_some_iff.1 hk).1 (.inr ((hoj _).2 (.inr (.inl rfl))))).trans hk
    case hY =>
      rintro pre x rest oj W hx ⟨o, hi, hoj, n1, n2, hl, hk⟩
      have hlt : D + 1 < W.heap.size := (Array.getElem?_eq_some_iff.1 hl).1
      have hy := run_yield (P := P) (args := encs x) hl (by rw [hrec]; exact hps x)
      rw [hrec] at hy
      refine ⟨fn, _, assign, body, hy, roundIn_of_wpIn hfn (hassign _ pre x rest o W _ hx hi ?_)⟩
      clear hy
      intro a' oa Wa hfa hia
      have nD : ∀ {o o' : Nat → Prop} {A B : World}, Fp m o o' A B → D + 1 < A.heap.size → ¬ o D → ¬ o (D + 1) → B.heap[D + 1]? = A.heap[D + 1]? ∧ B.heap[D]? = A.heap[D]? ∧ ¬ o' D ∧ ¬ o' (D + 1) := fun hf hs h1 h2 =>
        ⟨hf.1.block _ hs (.inr h2), hf.1.block _ (by omega) (.inr h1), fun h => by rcases hf.2 _ h with h | h; exact h1 h; omega, fun h => by rcases hf.2 _ h with h | h; exact h2 h; omega⟩
      obtain ⟨e1, e2, m1, m2⟩ := nD hfa hlt n1 n2
      have hla := e1.trans hl
      have hka := e2.trans hk
      have hlta : D + 1 < Wa.heap.size := (Array.getElem?_eq_some_iff.1 hla).1
      refine ⟨_, run_beginRound hla (by rw [hrec]), ?_⟩
      obtain ⟨Wb, hWb⟩ : ∃ Wb, Wa.putObj (D + 1) (.loop { rec .ready none with state := .busy }) = Wb := ⟨_, rfl⟩
      have hlb : Wb.heap[D + 1]? = some (.loop { rec .ready none with state := .busy }) := by rw [← hWb]; exact World.putObj_heap_same hlta
      have hkb : Wb.heap[D]? = some (.deferred (some [])) := by rw [← hWb]; exact (World.putObj_heap_other (by omega)).trans hka
      have hsb : Sm (fun k => k < m ∨ k ≠ D + 1) Wa Wb := by rw [← hWb]; exact Sm.putObj _ _ _ _ (fun h => by rcases h with h | h; omega; exact h rfl)
      have hib : IA pre x a' oa Wb := hIA pre x a' () _ _ _ hia (hsb.mono (fun i _ h => h.imp id (fun h e => m2 (e ▸ h))))
      rw [hWb]
      have hltb : D + 1 < Wb.heap.size := (Array.getElem?_eq_some_iff.1 hlb).1
      refine wpIn_mono (hbody _ pre x rest a' oa _ hx hib) ?_
      have fin : ∀ (jump : Option Code) (W3 : World) (o3 : Nat → Prop), Fp m oa o3 Wb W3 →
          (Instr.endRound (D + 1) jump).run P W3 = .ok (.bool jump.isNone) (W3.putObj (D + 1) (.loop (rec (if jump.isNone then .ready else .done) jump))) ∧
          (W3.putObj (D + 1) (.loop (rec (if jump.isNone then .ready else .done) jump))).heap[D + 1]? = some (.loop (rec (if jump.isNone then .ready else .done) jump)) ∧
          (W3.putObj (D + 1) (.loop (rec (if jump.isNone then .ready else .done) jump))).heap[D]? = some (.deferred (some [])) ∧ ¬ o3 D ∧ ¬ o3 (D + 1) ∧
          Sm (fun k => k < m ∨ o3 k) W3 (W3.putObj (D + 1) (.loop (rec (if jump.isNone then .ready else .done) jump))) ∧
          Fp m oj (fun k => o3 k ∨ k = D ∨ k = D + 1) W (W3.putObj (D + 1) (.loop (rec (if jump.isNone then .ready else .done) jump))) := fun jump W3 o3 hk3 => by
        obtain ⟨e3, e4, m3, m4⟩ := nD hk3 hltb m1 m2
        have hl3 := e3.trans hlb
        have hkk3 := e4.trans hkb
        have hr := run_endRound (P := P) jump hl3
        have hlt3 : D + 1 < W3.heap.size := (Array.getElem?_eq_some_iff.1 hl3).1
        have hsm : ∀ K : Nat → Prop, ¬ K (D + 1) → Sm K W3 (W3.putObj (D + 1) (.loop (rec (if jump.isNone then .ready else .done) jump))) := fun K hK => Sm.putObj _ _ _ _ hK
        refine ⟨by rw [hrec] at hr ⊢; exact hr, World.putObj_heap_same hlt3, (World.putObj_heap_other (by omega)).trans hkk3, m3, m4, hsm _ (fun h => by rcases h with h | h; omega; exact m4 h), ?_, ?_⟩
        · have hoa : ∀ i, i < W.heap.size → ¬ oj i → ¬ oa i := fun i hi h e => by rcases hfa.2 i e with h' | h'; exact h ((hoj i).2 (.inl h')); omega
          refine ((hfa.1.mono (K' := fun k => k < m ∨ ¬ oj k) (fun i _ h => h.imp id (fun h e => h ((hoj i).2 (.inl e))))).trans hsb (fun i _ h => h.imp id (fun h e => h ((hoj i).2 (.inr (.inr e)))))).trans hk3.1 (fun i hi h => h.imp id (hoa i hi)) |>.trans (hsm (fun k => k ≠ D + 1) (fun h => h rfl)) (fun i _ h e => ?_)
          rcases h with h | h
          · omega
          · exact h ((hoj i).2 (.inr (.inr e)))
        · rintro k (h | rfl | rfl)
          · rcases hk3.2 k h with h' | h'
            · rcases hfa.2 k h' with h'' | h''
              · exact .inl ((hoj k).2 (.inl h''))
              · exact .inr h''
            · exact .inr (Nat.le_trans hfa.1.size (Nat.le_trans hsb.size h'))
          · exact .inl ((hoj _).2 (.inr (.inl rfl)))
          · exact .inl ((hoj _).2 (.inr (.inr rfl)))
      rintro e a3 W3 hp
      cases e with
      | normal =>
        obtain ⟨o3, hf3, hi3⟩ := hp
        obtain ⟨hr, hl4, hk4, q1, q2, hs, hff⟩ := fin none W3 o3 hf3
        exact ⟨_, _, hr, .inl ⟨rfl, _, ⟨o3, hI _ _ _ _ hi3 hs, fun _ => Iff.rfl, q1, q2, hl4, hk4⟩, hff⟩⟩
      | ret =>
        obtain ⟨o3, hf3, hi3⟩ := hp
        obtain ⟨hr, hl4, hk4, q1, q2, hs, hff⟩ := fin (some .ret) W3 o3 hf3
        exact ⟨_, _, hr, .inr ⟨rfl, _, .ret, o3, hIx _ _ _ _ _ hi3 hs, fun _ => Iff.rfl, q1, q2, hl4, hk4⟩⟩
      | exit id =>
        obtain ⟨o3, hf3, hi3⟩ := hp
        obtain ⟨hr, hl4, hk4, q1, q2, hs, hff⟩ := fin (some (.exit id)) W3 o3 hf3
        exact ⟨_, _, hr, .inr ⟨rfl, _, .exit id, o3, hIx _ _ _ _ _ hi3 hs, fun _ => Iff.rfl, q1, q2, hl4, hk4⟩⟩
      | goto t =>
        obtain ⟨o3, hf3, hi3⟩ := hp
        obtain ⟨hr, hl4, hk4, q1, q2, hs, hff⟩ := fin (some (.goto t)) W3 o3 hf3
        exact ⟨_, _, hr, .inr ⟨rfl, _, .goto t, o3, hIx _ _ _ _ _ hi3 hs, fun _ => Iff.rfl, q1, q2, hl4, hk4⟩⟩
      | panic ch => exact hp.elim
      | outgrown => exact hp.elim
    · rintro e W2 ⟨⟨v, rfl⟩, (⟨oj, o, hi, hoj, n1, n2, hl, hk⟩ | ⟨pre, oj, hSp, c, o, hi, hoj, n1, n2, hl, hk⟩)⟩
      · exact ⟨none, _, by have := run_endLoop (P := P) hl (by rw [hrec]; simp); rw [hrec] at this; exact this, hdone _ o _ (Nat.le_refl _) (hI _ _ _ _ hi (Sm.putObj _ _ _ _ (fun h => by rcases h with h | h; omega; exact n2 h))) n1 ((World.putObj_heap_other (by omega)).trans hk)⟩
      · exact ⟨some c, _, by have := run_endLoop (P := P) hl (by rw [hrec]; simp); rw [hrec] at this; exact this, hstop _ c pre o _ (Nat.le_refl _) hSp (hIx c _ _ _ _ hi (Sm.putObj _ _ _ _ (fun h => by rcases h with h | h; omega; exact n2 h))) n1 ((World.putObj_heap_other (by omega)).trans hk)⟩
end Go.Proofs.Ytbccdkhbplmknaa

/- Nodes: which one lies in which, by how deep they lie, and by their parents. Math alone. -/
namespace Go.Proofs.Ytbccdkhbplmknaa
set_option linter.unusedVariables false

/-- The last one ahead of k that lies less than d deep. -/
def ppar (D : Nat → Int) (d : Int) : Nat → Int
  | 0 => -1
  | k + 1 => if D k < d then (k : Int) else ppar D d k
theorem ppar_lt (D : Nat → Int) (d : Int) : ∀ k : Nat, -1 ≤ ppar D d k ∧ ppar D d k < k
  | 0 => by unfold ppar; omega
  | k + 1 => by
    have := ppar_lt D d k
    unfold ppar
    split <;> omega
theorem ppar_mid (D : Nat → Int) (d : Int) : ∀ (k m : Nat), ppar D d k < m → m < k → d ≤ D m
  | 0, m, h, hm => by omega
  | k + 1, m, h, hm => by
    unfold ppar at h
    split at h
    · omega
    · rcases Nat.lt_or_ge m k with h2 | h2
      · exact ppar_mid D d k m h h2
      · have : m = k := by omega
        subst this; omega
theorem ppar_in (D : Nat → Int) (d : Int) : ∀ (k p : Nat), ppar D d k = p → D p < d
  | 0, p, h => by unfold ppar at h; omega
  | k + 1, p, h => by
    unfold ppar at h
    split at h
    · have : k = p := by omega
      subst this; assumption
    · exact ppar_in D d k p h
/-- The first one from j on, of f, that lies no more than d deep. -/
def pbeh (D : Nat → Int) (d : Int) : Nat → Nat → Nat
  | 0, j => j
  | f + 1, j => if d < D j then pbeh D d f (j + 1) else j
theorem pbeh_le (D : Nat → Int) (d : Int) : ∀ f j : Nat, j ≤ pbeh D d f j ∧ pbeh D d f j ≤ j + f
  | 0, j => by unfold pbeh; omega
  | f + 1, j => by
    have := pbeh_le D d f (j + 1)
    unfold pbeh
    split <;> omega
theorem pbeh_mid (D : Nat → Int) (d : Int) : ∀ f j m : Nat, j ≤ m → m < pbeh D d f j → d < D m
  | 0, j, m, h1, h2 => by unfold pbeh at h2; omega
  | f + 1, j, m, h1, h2 => by
    unfold pbeh at h2
    split at h2
    · rcases Nat.lt_or_ge j m with h | h
      · exact pbeh_mid D d f (j + 1) m h h2
      · have : m = j := by omega
        subst this; assumption
    · omega
theorem pbeh_end (D : Nat → Int) (d : Int) : ∀ f j : Nat, pbeh D d f j < j + f → D (pbeh D d f j) ≤ d
  | 0, j, h => by unfold pbeh at h; omega
  | f + 1, j, h => by
    unfold pbeh at h ⊢
    split at h
    · rename_i hd
      rw [if_pos hd]
      exact pbeh_end D d f (j + 1) (by omega)
    · rename_i hd
      rw [if_neg hd]; omega
/-- Each lies at most 1 deeper than the one ahead. -/
def nst (D : Nat → Int) (n : Nat) : Prop := ∀ i < n, 0 ≤ D i ∧ (i = 0 → D i ≤ 0) ∧ (0 < i → D i ≤ D (i - 1) + 1)
/-- What is told of the nodes follows of how deep they lie. -/
def FmP (n : Nat) (D P B : Nat → Int) (L : Nat → Bool) : Prop :=
  n ≤ 40 ∧ nst D n ∧ ∀ i < n, P i = ppar D (D i) i ∧ B i = (pbeh D (D i) (n - (i + 1)) (i + 1) : Nat) ∧ L i = decide (B i = (i : Int) + 1)
/-- Parents are as the depths have it, below n. -/
def Prn (n : Nat) (D P : Nat → Int) : Prop := ∀ i < n, P i = ppar D (D i) i
/-- p is c, or c lies in it, by depths. -/
def Anc (D : Nat → Int) (p c : Int) : Prop := 0 ≤ p ∧ p ≤ c ∧ ∀ m : Nat, p < m → m ≤ c → D p.toNat < D m
theorem anc_up {n : Nat} {D P : Nat → Int} (hP : Prn n D P) {c : Nat} (hc : c < n) {p : Int} (hp : p < c) : Anc D p c ↔ Anc D p (P c) := by
  have e := hP c hc
  have hl := ppar_lt D (D c) c
  rw [← e] at hl
  constructor
  · rintro ⟨h1, h2, h3⟩
    have hle : p ≤ P c := by
      rcases Int.lt_or_le (P c) p with h | h
      · have := ppar_mid D (D c) c p.toNat (by rw [← e]; omega) (by omega)
        have := h3 c (by omega) (by omega)
        omega
      · exact h
    exact ⟨h1, hle, fun m a b => h3 m a (by omega)⟩
  · rintro ⟨h1, h2, h3⟩
    refine ⟨h1, by omega, fun m a b => ?_⟩
    have hin := ppar_in D (D c) c (P c).toNat (by rw [← e]; omega)
    have hpc : D p.toNat ≤ D (P c).toNat := by
      rcases Int.lt_or_le p (P c) with h | h
      · have := h3 (P c).toNat (by omega) (by omega)
        omega
      · have : p = P c := by omega
        rw [this]; exact Int.le_refl _
    rcases Int.lt_or_le (P c) m with h | h
    · rcases Nat.lt_or_ge m c with h5 | h5
      · have := ppar_mid D (D c) c m (by rw [← e]; exact h) h5
        omega
      · have : m = c := by omega
        subst this; omega
    · have := h3 m a h
      exact this
/-- Does i lie in j, as the program asks it? -/
def lsP (B : Nat → Int) (i j : Int) : Bool := decide (j < i) && decide (i < B j.toNat)
theorem FmP.par {n : Nat} {D P B : Nat → Int} {L : Nat → Bool} (h : FmP n D P B L) : Prn n D P := fun i hi => (h.2.2 i hi).1
theorem FmP.plt {n : Nat} {D P B : Nat → Int} {L : Nat → Bool} (h : FmP n D P B L) {i : Nat} (hi : i < n) : -1 ≤ P i ∧ P i < i := by
  rw [(h.2.2 i hi).1]; exact ppar_lt _ _ _
theorem lsP_anc {n : Nat} {D P B : Nat → Int} {L : Nat → Bool} (h : FmP n D P B L) {i j : Nat} (hi : i < n) (hj : j < n) : lsP B i j = true ↔ ((j : Int) < i ∧ Anc D j i) := by
  have e := (h.2.2 j hj).2.1
  have hle := pbeh_le D (D j) (n - (j + 1)) (j + 1)
  unfold lsP
  rw [Bool.and_eq_true, decide_eq_true_eq, decide_eq_true_eq, Int.toNat_natCast, e]
  constructor
  · rintro ⟨h1, h2⟩
    refine ⟨h1, by omega, by omega, fun m a b => ?_⟩
    rw [Int.toNat_natCast]
    exact pbeh_mid D (D j) (n - (j + 1)) (j + 1) m (by omega) (by omega)
  · rintro ⟨h1, _, _, h3⟩
    refine ⟨h1, ?_⟩
    rcases Nat.lt_or_ge i (pbeh D (D j) (n - (j + 1)) (j + 1)) with h5 | h5
    · omega
    · have := pbeh_end D (D j) (n - (j + 1)) (j + 1) (by omega)
      have := h3 (pbeh D (D j) (n - (j + 1)) (j + 1)) (by omega) (by omega)
      rw [Int.toNat_natCast] at this
      omega
/-- Up from k: the first one that j lies in. -/
def mtC (P B : Nat → Int) (j : Int) : Nat → Int → Int
  | 0, _ => -1
  | f + 1, k => if k < 0 then -1 else if lsP B j k then k else mtC P B j f (P k.toNat)
theorem mtC_more {n : Nat} {D P B : Nat → Int} {L : Nat → Bool} (h : FmP n D P B L) (j : Int) : ∀ (f : Nat) (k : Int), k < f → k < n → -1 ≤ k → mtC P B j f k = mtC P B j (k + 1).toNat k
  | 0, k, h1, h2, h3 => by
    have : k = -1 := by omega
    subst this; rfl
  | f + 1, k, h1, h2, h3 => by
    by_cases h0 : k < 0
    · have : k = -1 := by omega
      subst this
      unfold mtC; rw [if_pos (by omega)]; rfl
    have e : (k + 1).toNat = k.toNat + 1 := by omega
    rw [e]
    unfold mtC
    rw [if_neg h0, if_neg h0]
    have hl := h.plt (i := k.toNat) (by omega)
    rw [mtC_more h j f (P k.toNat) (by omega) (by omega) (by omega), mtC_more h j k.toNat (P k.toNat) (by omega) (by omega) (by omega)]
end Go.Proofs.Ytbccdkhbplmknaa

/- One more element behind a row of the call's own: as a step of a region. -/
namespace Go.Proofs.Ytbccdkhbplmknaa
open Go.RowKit Go.Lib
set_option linter.unusedSimpArgs false
set_option linter.unusedVariables false

theorem cells_new {w : World} {cs : List Value} {e : TypeId} : ∀ j u, cs[j]? = some u → (w.alloc (.cells cs.toArray e)).cell? ((⟨w.heap.size, 0, none⟩ : Addr).add j) = some u := fun j u hu => by
  rw [add_plain, Nat.zero_add]
  exact (Bn.new w cs e _ rfl j u hu).1
theorem src_row {P : Program} {t e : TypeId} (ht : P.underlying t = some (.slice e)) (w : World) {k : Nat} (cs : List Value) (hk : cs.length = k) (h1 : ∀ u ∈ cs, u.oneCell' = true) : Src P k t (.slice (some ⟨w.heap.size, 0, none⟩) 1 1) 1 cs (w.alloc (.cells cs.toArray e)) :=
  Src.ofSlice _ ht _ 1 1 _ (by rw [Nat.one_mul]; exact hk) cells_new h1
/-- Nothing but two blocks has turned, and new blocks. -/
structure Fy (X Y : Nat) (w w' : World) : Prop where
  os : w'.os = w.os
  tape : w'.tape = w.tape
  output : w'.output = w.output
  size : w.heap.size ≤ w'.heap.size
  block : ∀ k, k < w.heap.size → k ≠ X → k ≠ Y → w'.heap[k]? = w.heap[k]?
theorem Fy.of {X Y : Nat} {a b : World} (h : Fx X a b) : Fy X Y a b := ⟨h.os, h.tape, h.output, h.size, fun k hk h1 _ => h.block k hk (fun e => h1 (Option.some.inj e))⟩
theorem Fy.trans {X Y : Nat} {a b c : World} (h : Fy X Y a b) (k : Fy X Y b c) : Fy X Y a c :=
  ⟨k.os.trans h.os, k.tape.trans h.tape, k.output.trans h.output, Nat.le_trans h.size k.size, fun j hj h1 h2 => (k.block j (Nat.lt_of_lt_of_le hj h.size) h1 h2).trans (h.block j hj h1 h2)⟩
end Go.Proofs.Ytbccdkhbplmknaa
