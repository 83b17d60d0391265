import Derived.Test.YtgpgbingmeehdaaXlc01
import Derived.Lib.ItoaNum
import Derived.BigQuiet
import Derived.Deep.QuietTactic
import Derived.BigRegion
import Derived.Maps.OwnSet
import Derived.Maps.Views
import Derived.Carry
import Derived.WalkSmall
import Derived.Test.YtgpgbingmeehdaaProg
import Derived.Deep.RegionHeldLaw
import Derived.Deep.DrawnRows
import Derived.Lib.SlBytesConst
import Derived.Deep.DeepCutAuto

/- The words of a printed expression's text. Math alone. -/
namespace Go.Proofs.Ytgpgbingmeehdaa
open Go.RowKit Go.Lib
set_option linter.unusedSimpArgs false
set_option linter.unusedVariables false

/-- What stands behind: nothing, a blank or a bracket. -/
def Post (post : List UInt8) : Prop := post = [] ∨ ∃ c r, post = c :: r ∧ (c = 32 ∨ c = 41 ∨ c = 10)
theorem Post.fst {a post : List UInt8} (ha : a ≠ []) (h : Post post) : runes (a ++ post) = runes a ++ runes post ∧ fst1 (runes a ++ runes post) = fst1 (runes a) := by
  rcases h with rfl | ⟨c, r, rfl, hc⟩
  · rw [List.append_nil, runes_nil, List.append_nil]; exact ⟨rfl, rfl⟩
  · have hc8 : c.toNat < 128 := by rcases hc with rfl | rfl | rfl <;> decide
    have hr := runes_stop a.length a (Nat.le_refl _) hc8 r
    have hne : runes a ≠ [] := by rw [runes_cons ha]; simp
    refine ⟨hr, ?_⟩
    rw [runes_ascii hc8]
    refine fst1_stop ?_ _ _ hne
    rcases hc with rfl | rfl | rfl
    · exact ⟨by decide, by decide, by decide, by decide⟩
    · exact ⟨by decide, by decide, by decide, by decide⟩
    · exact ⟨by decide, by decide, by decide, by decide⟩



/-- The runes are one word of this kind, and no more. -/
structure OneW (K : Nat) (seg : List Ru) : Prop where
  k : K ≠ 0
  f : fst1 seg = (K, seg.length)
  g : ∀ v ∈ seg, Good v
  h : ∃ v t, seg = v :: t ∧ v.1 ≠ 10 ∧ v.1 ≠ 32 ∧ v.1 ≠ 9 ∧ v.1 ≠ 35
  l : (byt seg).length ≤ 12000
theorem OneW.runes {K : Nat} {seg : List Ru} (h : OneW K seg) : runes (byt seg) = seg := by
  have := runes_goods seg [] h.g
  rw [List.append_nil, runes_nil, List.append_nil] at this
  exact this
/-- A word's text has that word alone. -/
theorem OneW.words {K : Nat} {seg : List Ru} (h : OneW K seg) : wordsS (byt seg) = ([(K, seg, 1, 1)], (0, 0), 0) := by
  have hr := h.runes
  have hl := h.l
  have hf := h.f
  have hk := h.k
  unfold wordsS
  rw [if_neg (by omega), hr]
  obtain ⟨v, t, e, h1, h2, h3, h4⟩ := h.h
  rw [e] at hf ⊢
  rw [wrds_cons, if_neg h1, if_neg (fun q => q.elim h2 h3), if_neg h4, hf, if_neg hk, if_neg (by decide), List.take_length, List.drop_length, wrds_nil]
  rfl
theorem OneW.kind {K : Nat} {seg : List Ru} (h : OneW K seg) : (K = 1 ∧ nameS (byt seg) = true) ∨ (K = 2 ∧ numB (byt seg) = true) ∨ (K = 3 ∧ ∃ v t, seg = v :: t ∧ letter v.1 = false ∧ dgt v.1 = false) := by
  have hr := h.runes
  have hf := h.f
  have hk := h.k
  obtain ⟨v, t, e, _⟩ := h.h
  have hbne : byt seg ≠ [] := fun e0 => by rw [e0, runes_nil] at hr; rw [← hr] at e; cases e
  have hnx : (nx (byt seg)).1 = v.1 := by
    have := runes_cons hbne
    rw [hr, e] at this
    injection this with h1 _
    rw [e]
    exact (congrArg Prod.fst h1).symm
  rw [e, fst1_cons, ← e] at hf
  by_cases a : letter v.1 = true
  · rw [if_pos a] at hf
    by_cases b : spn seg ≤ 24
    · rw [if_pos b] at hf
      injection hf with h1 h2
      left
      refine ⟨h1.symm, ?_⟩
      unfold nameS
      have hs : spb (byt seg) = (byt seg).length := by unfold spb; rw [hr, h2, List.take_length]
      rw [hnx, a, hs, hr, decide_eq_true b]; simp
    · rw [if_neg b] at hf
      injection hf with h1 _
      exact absurd h1.symm hk
  · rw [if_neg a] at hf
    by_cases d : dgt v.1 = true
    · rw [if_pos d] at hf
      by_cases b : numb (seg.take (spn seg)) = true
      · rw [if_pos b] at hf
        injection hf with h1 h2
        right; left
        refine ⟨h1.symm, ?_⟩
        rw [h2, List.take_length] at b
        rw [numB_numb (l := byt seg) seg (fun v hv => by rw [hr]; exact hv)]
        exact b
      · rw [if_neg b] at hf
        injection hf with h1 _
        exact absurd h1.symm hk
    · rw [if_neg d] at hf
      by_cases b : sgn seg = 0
      · rw [if_pos b] at hf
        injection hf with h1 _
        exact absurd h1.symm hk
      · rw [if_neg b] at hf
        injection hf with h1 _
        right; right
        exact ⟨h1.symm, v, t, e, by simpa using a, by simpa using d⟩
section
variable {nb : List UInt8 → Int} {rsv : List UInt8 → Bool} {l : List Tk} {Q : Nat → Nat → Sx → Prop}
end

/-- Nothing but block X has turned, and new blocks. -/
abbrev Fx (X : Nat) (w w' : World) : Prop := w.grownBy w' (some X)
theorem Fx.refl (X : Nat) (w : World) : Fx X w w := ⟨rfl, rfl, rfl, Nat.le_refl _, fun _ _ _ => rfl⟩
theorem Fx.trans {X : Nat} {a b c : World} (h : Fx X a b) (k : Fx X b c) : Fx X a c :=
  ⟨k.os.trans h.os, k.tape.trans h.tape, k.output.trans h.output, Nat.le_trans h.size k.size, fun j hj hne => (k.block j (Nat.lt_of_lt_of_le hj h.size) hne).trans (h.block j hj hne)⟩
theorem Fx.of {X B : Nat} {a b : World} (h : Below B a b) (hB : a.heap.size ≤ B) : Fx X a b := ⟨h.os, h.tape, h.output, h.size, fun k hk _ => h.block k (by omega)⟩
theorem Fx.setX {X i : Nat} {a b : World} (h : Fx X a b) (u : Value) : Fx X a (b.setCell ⟨X, i, none⟩ u) :=
  ⟨h.os, h.tape, h.output, by simpa using h.size, fun k hk hne => (Below.heap_setCell _ _ _ _ (fun e => hne (congrArg some e))).trans (h.block k hk hne)⟩
theorem Fx.drewN {X : Nat} {a b : World} (h : Fx X a b) (m : Nat) : Fx X a (b.drewN m) := ⟨h.os, h.tape, h.output, h.size, h.block⟩
theorem Fx.drew {X : Nat} {a b : World} (h : Fx X a b) : Fx X a b.drew := ⟨h.os, h.tape, h.output, h.size, h.block⟩
theorem Fx.alloc {X : Nat} {a b : World} (h : Fx X a b) (o : Obj) : Fx X a (b.alloc o) := h.trans (Fx.of ((Below.refl b.heap.size b).alloc (Nat.le_refl _) o) (Nat.le_refl _))
theorem Fx.below {X : Nat} {a b : World} (h : Fx X a b) {B : Nat} (hB : B ≤ X) (hs : B ≤ a.heap.size) : Below B a b := ⟨h.os, h.tape, h.output, h.size, fun k hk => h.block k (by omega) (fun e => by have : k = X := Option.some.inj e; omega)⟩
/-- A new block's cells, written. -/
theorem Fx.setN {X N i : Nat} {a b : World} (h : Fx X a b) (hN : a.heap.size ≤ N) (u : Value) : Fx X a (b.setCell ⟨N, i, none⟩ u) :=
  ⟨h.os, h.tape, h.output, by simpa using h.size, fun k hk hne => (Below.heap_setCell _ _ _ _ (fun e => by have : k = N := e; omega)).trans (h.block k hk hne)⟩
/-- The words, in memory apart from X. -/
def RdL (w : World) (X : Nat) (a : Option Addr) (ws : List Wd) : Prop := ∀ (i : Nat) (hi : i < ws.length), ∃ g off, a = some ⟨g, off, none⟩ ∧ g < X ∧ w.cell? ⟨g, off + i * 4, none⟩ = some (.int .i64 ((ws[i]).1 : Int)) ∧ w.cell? ⟨g, off + i * 4 + 1, none⟩ = some (.string (txt (ws[i]).2.1)) ∧ w.cell? ⟨g, off + i * 4 + 2, none⟩ = some (.int .i64 (ws[i]).2.2.1) ∧ w.cell? ⟨g, off + i * 4 + 3, none⟩ = some (.int .i64 (ws[i]).2.2.2)
theorem RdL.fx {w w' : World} {X : Nat} {a : Option Addr} {ws : List Wd} (h : RdL w X a ws) (hX : X < w.heap.size) (hf : Fx X w w') : RdL w' X a ws := fun i hi => by
  obtain ⟨g, off, h1, h3, c0, c1, c2, c3⟩ := h i hi
  have hb : w'.heap[g]? = w.heap[g]? := hf.block g (by omega) (fun e => by have : g = X := Option.some.inj e; omega)
  have hc : ∀ j, w'.cell? ⟨g, j, none⟩ = w.cell? ⟨g, j, none⟩ := fun j => World.cell?_of_block (w := w) (a := ⟨g, j, none⟩) hb
  exact ⟨g, off, h1, h3, (hc _).trans c0, (hc _).trans c1, (hc _).trans c2, (hc _).trans c3⟩
/-- The reader in block X. -/
structure Rr (w : World) (X : Nat) (a : Option Addr) (cap : Nat) (ws : List Wd) (n : Nat) (b : Int) : Prop where
  c0 : w.cell? ⟨X, 0, none⟩ = some (.slice a ws.length cap)
  c1 : w.cell? ⟨X, 1, none⟩ = some (.int .i64 (n : Int))
  c2 : w.cell? ⟨X, 2, none⟩ = some (.int .i64 b)
  f1 : w.frozen? ⟨X, 1, none⟩ = false
  f2 : w.frozen? ⟨X, 2, none⟩ = false
  l : RdL w X a ws
theorem Rr.lt {w : World} {X : Nat} {a : Option Addr} {cap : Nat} {ws : List Wd} {n : Nat} {b : Int} (h : Rr w X a cap ws n b) : X < w.heap.size := World.block_lt_of_cell? w _ h.c0
theorem Rr.on {w w' : World} {X : Nat} {a : Option Addr} {cap : Nat} {ws : List Wd} {n : Nat} {b : Int} (h : Rr w X a cap ws n b) (hb : Below w.heap.size w w') : Rr w' X a cap ws n b := by
  have hX := h.lt
  have hc : ∀ i, w'.cell? ⟨X, i, none⟩ = w.cell? ⟨X, i, none⟩ := fun i => hb.cell (p := ⟨X, i, none⟩) hX
  have hf : ∀ i, w'.frozen? ⟨X, i, none⟩ = w.frozen? ⟨X, i, none⟩ := fun i => hb.frozen (p := ⟨X, i, none⟩) hX
  exact ⟨(hc 0).trans h.c0, (hc 1).trans h.c1, (hc 2).trans h.c2, (hf 1).trans h.f1, (hf 2).trans h.f2, h.l.fx hX (Fx.of hb (Nat.le_refl _))⟩
theorem Rr.set1 {w : World} {X : Nat} {a : Option Addr} {cap : Nat} {ws : List Wd} {n : Nat} {b : Int} (h : Rr w X a cap ws n b) (n' : Nat) : Rr (w.setCell ⟨X, 1, none⟩ (.int .i64 (n' : Int))) X a cap ws n' b :=
  ⟨cell_far4 (by omega) h.c0, cell_same4 h.c1, cell_far4 (by omega) h.c2, (World.frozen?_setCell _ _ _ _).trans h.f1, (World.frozen?_setCell _ _ _ _).trans h.f2, h.l.fx h.lt ((Fx.refl X w).setX _)⟩
theorem Rr.set2 {w : World} {X : Nat} {a : Option Addr} {cap : Nat} {ws : List Wd} {n : Nat} {b : Int} (h : Rr w X a cap ws n b) (b' : Int) : Rr (w.setCell ⟨X, 2, none⟩ (.int .i64 b')) X a cap ws n b' :=
  ⟨cell_far4 (by omega) h.c0, cell_far4 (by omega) h.c1, cell_same4 h.c2, (World.frozen?_setCell _ _ _ _).trans h.f1, (World.frozen?_setCell _ _ _ _).trans h.f2, h.l.fx h.lt ((Fx.refl X w).setX _)⟩
theorem draws (w : World) (m : Nat) : Below w.heap.size w (w.drewN m) := ⟨rfl, rfl, rfl, Nat.le_refl _, fun _ _ => rfl⟩
theorem Rr.far {w : World} {X N i : Nat} {a : Option Addr} {cap : Nat} {ws : List Wd} {n : Nat} {b : Int} (h : Rr w X a cap ws n b) (hN : X < N) (u : Value) : Rr (w.setCell ⟨N, i, none⟩ u) X a cap ws n b := by
  refine ⟨cell_far4 (by omega) h.c0, cell_far4 (by omega) h.c1, cell_far4 (by omega) h.c2, (World.frozen?_setCell _ _ _ _).trans h.f1, (World.frozen?_setCell _ _ _ _).trans h.f2, fun j hj => ?_⟩
  obtain ⟨g, off, h1, h3, d0, d1, d2, d3⟩ := h.l j hj
  exact ⟨g, off, h1, h3, cell_far4 (by omega) d0, cell_far4 (by omega) d1, cell_far4 (by omega) d2, cell_far4 (by omega) d3⟩

/-- A block of cells that may be written. -/
def Bn (w : World) (Y : Nat) (cs : List Value) : Prop := ∀ j u, cs[j]? = some u → w.cell? ⟨Y, j, none⟩ = some u ∧ w.frozen? ⟨Y, j, none⟩ = false
theorem Bn.lt {w : World} {Y : Nat} {c : Value} {cs : List Value} (h : Bn w Y (c :: cs)) : Y < w.heap.size := World.block_lt_of_cell? w _ (h 0 c rfl).1
theorem frozen_of_block {w w' : World} {Y j : Nat} (h : w'.heap[Y]? = w.heap[Y]?) : w'.frozen? ⟨Y, j, none⟩ = w.frozen? ⟨Y, j, none⟩ := by
  unfold World.frozen?
  rw [h]
theorem Bn.blk {w w' : World} {Y : Nat} {cs : List Value} (h : Bn w Y cs) (hb : w'.heap[Y]? = w.heap[Y]?) : Bn w' Y cs := fun j u hu =>
  ⟨keep_cell (p := ⟨Y, j, none⟩) hb (h j u hu).1, (frozen_of_block hb).trans (h j u hu).2⟩
theorem Bn.on {w w' : World} {Y : Nat} {c : Value} {cs : List Value} (h : Bn w Y (c :: cs)) (hb : Below w.heap.size w w') : Bn w' Y (c :: cs) := h.blk (hb.block Y h.lt)
theorem Bn.fx {w w' : World} {X Y : Nat} {c : Value} {cs : List Value} (h : Bn w Y (c :: cs)) (hf : Fx X w w') (hne : Y ≠ X) : Bn w' Y (c :: cs) := h.blk (hf.block Y h.lt (fun e => hne (Option.some.inj e)))
theorem Bn.far {w : World} {Y X i : Nat} {cs : List Value} (h : Bn w Y cs) (hne : X ≠ Y) (v : Value) : Bn (w.setCell ⟨X, i, none⟩ v) Y cs := h.blk (Below.heap_setCell _ _ _ _ (fun e => hne e.symm))
theorem Bn.set {w : World} {Y i : Nat} {cs : List Value} (h : Bn w Y cs) (hi : i < cs.length) (v : Value) : Bn (w.setCell ⟨Y, i, none⟩ v) Y (cs.set i v) := fun j u hu => by
  refine ⟨?_, (World.frozen?_setCell _ _ _ _).trans ?_⟩
  · by_cases hj : i = j
    · subst hj
      rw [List.getElem?_set_self hi] at hu
      obtain rfl := Option.some.inj hu
      exact cell_same4 (h i _ (List.getElem?_eq_getElem hi)).1
    · rw [List.getElem?_set_ne hj] at hu
      exact cell_far4 (by omega) (h j u hu).1
  · have hl : j < cs.length := by
      have := (List.getElem?_eq_some_iff.1 hu).1
      rwa [List.length_set] at this
    exact (h j _ (List.getElem?_eq_getElem hl)).2
theorem Bn.drew {w : World} {Y : Nat} {cs : List Value} (h : Bn w Y cs) : Bn w.drew Y cs := h
theorem Bn.new (w : World) (cs : List Value) (t : TypeId) (n : Nat) (hn : n = w.heap.size) : Bn (w.alloc (.cells cs.toArray t)) n cs := by
  subst hn
  intro j u hu
  refine ⟨?_, by simp⟩
  rw [World.cell?_alloc_new]
  simpa using hu

/-- The slice v reads as the list l, k cells an element. -/
def RdK {α : Type} (ok : Nat → Prop) (w : World) (k : Nat) (R : α → List Value → Prop) (l : List α) (v : Value) : Prop :=
  ∃ a cap, v = .slice a l.length cap ∧ l.length ≤ cap ∧ cap ≤ maxLen ∧
    ∀ (i : Nat) (hi : i < l.length), ∃ b off cs, a = some ⟨b, off, none⟩ ∧ ok b ∧ b < w.heap.size ∧ cs.length = k ∧ R l[i] cs ∧ ∀ j u, cs[j]? = some u → w.cell? ⟨b, off + i * k + j, none⟩ = some u
theorem rdK_none {α : Type} (ok : Nat → Prop) (w : World) (k : Nat) (R : α → List Value → Prop) : RdK ok w k R [] (.slice none 0 0) := ⟨none, 0, rfl, by simp, by simp [maxLen], fun i hi => absurd hi (by simp)⟩
theorem RdK.keep {α : Type} {ok ok' : Nat → Prop} {w w' : World} {k : Nat} {R R' : α → List Value → Prop} {l : List α} {v : Value} (h : RdK ok w k R l v) (hR : ∀ x ∈ l, ∀ u, R x u → R' x u) (hk : ∀ b, ok b → b < w.heap.size → ok' b ∧ w'.heap[b]? = w.heap[b]?) : RdK ok' w' k R' l v := by
  obtain ⟨a, cap, rfl, hc, hm, hcell⟩ := h
  refine ⟨a, cap, rfl, hc, hm, fun i hi => ?_⟩
  obtain ⟨b, off, cs, ha, ho, hb, hl, hr, hcs⟩ := hcell i hi
  obtain ⟨ho', hs⟩ := hk _ ho hb
  refine ⟨b, off, cs, ha, ho', ?_, hl, hR _ (List.getElem_mem hi) _ hr, fun j u hu => keep_cell (p := ⟨b, off + i * k + j, none⟩) hs (hcs j u hu)⟩
  rcases Nat.lt_or_ge b w'.heap.size with h | h
  · exact h
  · rw [Array.getElem?_eq_none h, Array.getElem?_eq_getElem hb] at hs
    cases hs
theorem RdK.form {α : Type} {ok : Nat → Prop} {w : World} {k : Nat} {R : α → List Value → Prop} {l : List α} {v : Value} (h : RdK ok w k R l v) : ∃ a cap, v = .slice a l.length cap ∧ l.length ≤ cap ∧ cap ≤ maxLen := by
  obtain ⟨a, cap, h1, h2, h3, _⟩ := h
  exact ⟨a, cap, h1, h2, h3⟩
/-- A reading that stays where its blocks stay. -/
def Kp {α : Type} (R : (Nat → Prop) → World → α → List Value → Prop) : Prop := ∀ ⦃ok ok' : Nat → Prop⦄ ⦃w w' : World⦄ ⦃x : α⦄ ⦃cs : List Value⦄, R ok w x cs → (∀ b, ok b → b < w.heap.size → ok' b ∧ w'.heap[b]? = w.heap[b]?) → R ok' w' x cs
/-- The slice v is the call's own, from block base on, of k cells an element, and holds l; what lies behind its cells lies apart. -/
def OwnK {α : Type} (w : World) (base e k : Nat) (R : (Nat → Prop) → World → α → List Value → Prop) (v : Value) (l : List α) : Prop :=
  ∃ qs : List (List Value), w.ownsRow base e k v l.length qs.flatten ∧ qs.length = l.length ∧ ∀ (i : Nat) (h : i < l.length) (h' : i < qs.length), (qs[i]).length = k ∧ R (fun b => base ≤ b ∧ v.ownBlock ≠ some b) w l[i] qs[i]
theorem OwnK.keep {α : Type} {w w' : World} {base e k : Nat} {R : (Nat → Prop) → World → α → List Value → Prop} {v : Value} {l : List α} (hR : Kp R) (h : OwnK w base e k R v l) (hk : ∀ b, base ≤ b → b < w.heap.size → w'.heap[b]? = w.heap[b]?) : OwnK w' base e k R v l := by
  obtain ⟨qs, ho, hl, hr⟩ := h
  refine ⟨qs, ownsRow_keep ho (fun g hg => ?_), hl, fun i h h' => ⟨(hr i h h').1, hR (hr i h h').2 (fun b hb hlt => ⟨hb, hk b hb.1 hlt⟩)⟩⟩
  obtain ⟨a, b⟩ := ownsRow_lt ho g hg
  exact hk g a b
theorem OwnK.on {α : Type} {w w' : World} {base e k : Nat} {R : (Nat → Prop) → World → α → List Value → Prop} {v : Value} {l : List α} (hR : Kp R) (h : OwnK w base e k R v l) (hb : Below w.heap.size w w') : OwnK w' base e k R v l := h.keep hR (fun b _ hlt => hb.block b hlt)
theorem OwnK.fx {α : Type} {w w' : World} {base e k X : Nat} {R : (Nat → Prop) → World → α → List Value → Prop} {v : Value} {l : List α} (hR : Kp R) (h : OwnK w base e k R v l) (hf : Fx X w w') (hX : X < base) : OwnK w' base e k R v l :=
  h.keep hR (fun b hb hlt => hf.block b hlt (fun e => by have : b = X := Option.some.inj e; omega))
theorem OwnK.set {α : Type} {w : World} {base e k : Nat} {R : (Nat → Prop) → World → α → List Value → Prop} {v : Value} {l : List α} (hR : Kp R) (h : OwnK w base e k R v l) {X i : Nat} (hX : X < base) (u : Value) : OwnK (w.setCell ⟨X, i, none⟩ u) base e k R v l :=
  h.keep hR (fun b hb _ => Below.heap_setCell _ _ _ _ (fun e => by have : b = X := e; omega))
theorem OwnK.form {α : Type} {w : World} {base e k : Nat} {R : (Nat → Prop) → World → α → List Value → Prop} {v : Value} {l : List α} (h : OwnK w base e k R v l) : ∃ a cap, v = .slice a l.length cap ∧ l.length ≤ cap ∧ cap ≤ maxLen := by
  obtain ⟨qs, ho, _⟩ := h
  rcases ho.2 with ⟨h1, h2⟩ | ⟨g, cap, cur, h1, _, _, h3, h4, _⟩
  · exact ⟨none, 0, by rw [h1, h2], by omega, by simp [maxLen]⟩
  · exact ⟨_, _, h1, h3, h4⟩
/-- One more. The new one's memory lies from lo on, and the old row's block below. -/
theorem OwnK.snoc {α : Type} {w w' : World} {base e k lo n : Nat} {R : (Nat → Prop) → World → α → List Value → Prop} {v v' : Value} {l : List α} {p : α} {cs : List Value} {qs : List (List Value)} (hR : Kp R) (hk : cs.length = k)
    (hn : l.length = n) (ho : w.ownsRow base e k v n qs.flatten) (hl : qs.length = l.length) (hr : ∀ (i : Nat) (h : i < l.length) (h' : i < qs.length), (qs[i]).length = k ∧ R (fun b => base ≤ b ∧ v.ownBlock ≠ some b) w l[i] qs[i])
    (ho' : w'.ownsRow base e k v' (n + 1) (qs.flatten ++ cs)) (hg : w.grownBy w' v.ownBlock) (hat : v'.ownBlock = v.ownBlock ∨ v'.ownBlock = some w.heap.size)
    (hp : R (fun b => lo ≤ b) w p cs) (hlo : base ≤ lo) (hv : ∀ x, v.ownBlock = some x → x < lo) : OwnK w' base e k R v' (l ++ [p]) := by
  subst hn
  have key : ∀ b, base ≤ b ∧ v.ownBlock ≠ some b → b < w.heap.size → (base ≤ b ∧ v'.ownBlock ≠ some b) ∧ w'.heap[b]? = w.heap[b]? := fun b hb hlt => by
    refine ⟨⟨hb.1, fun e => ?_⟩, hg.block b hlt (fun e => hb.2 e.symm)⟩
    rcases hat with h | h
    · exact hb.2 (h ▸ e)
    · rw [h] at e; have : w.heap.size = b := Option.some.inj e; omega
  refine ⟨qs ++ [cs], ?_, by simp [hl], fun i h h' => ?_⟩
  · rw [List.flatten_append, List.length_append]
    simpa using ho'
  · rcases Nat.lt_or_ge i l.length with hi | hi
    · rw [List.getElem_append_left hi, List.getElem_append_left (by omega)]
      exact ⟨(hr i hi (by omega)).1, hR (hr i hi (by omega)).2 key⟩
    · have : i = l.length := by simp at h; omega
      subst this
      have e1 : (l ++ [p])[l.length] = p := by simp
      have e2 : (qs ++ [cs])[l.length]'h' = cs := by simp [← hl]
      rw [e1, e2]
      exact ⟨hk, hR hp (fun b hb hlt => key b ⟨by omega, fun e => by have := hv b e; omega⟩ hlt)⟩
theorem flat_at {k : Nat} : ∀ (qs : List (List Value)) (i j : Nat) (h : i < qs.length) (u : Value), (∀ (i : Nat) (h : i < qs.length), (qs[i]).length = k) → (qs[i])[j]? = some u → qs.flatten[i * k + j]? = some u
  | [], i, j, h, u, _, _ => by simp at h
  | x :: t, 0, j, h, u, hk, hu => by
    have hu' : x[j]? = some u := hu
    have hj := (List.getElem?_eq_some_iff.1 hu').1
    rw [List.flatten_cons, Nat.zero_mul, Nat.zero_add, List.getElem?_append_left hj]
    exact hu'
  | x :: t, i + 1, j, h, u, hk, hu => by
    have hx : x.length = k := hk 0 (by simp)
    have e : (i + 1) * k + j = x.length + (i * k + j) := by rw [hx, Nat.succ_mul]; omega
    rw [List.flatten_cons, e, List.getElem?_append_right (by omega), Nat.add_sub_cancel_left]
    exact flat_at t i j (by simpa using h) u (fun i h => hk (i + 1) (by simpa using h)) hu
/-- It reads as the list. -/
theorem OwnK.rd {α : Type} {w : World} {base e k : Nat} {R : (Nat → Prop) → World → α → List Value → Prop} {v : Value} {l : List α} (hR : Kp R) (h : OwnK w base e k R v l) : RdK (fun b => base ≤ b) w k (R (fun b => base ≤ b) w) l v := by
  obtain ⟨qs, ho, hl, hr⟩ := h
  have hc := fun g => World.ownsRow.cells ho (g := g)
  rcases ho.2 with ⟨rfl, hn⟩ | ⟨g, cap, cur, rfl, hb, hg, hnc, hcm, hcs, htake⟩
  · have hx : l = [] := List.eq_nil_of_length_eq_zero hn
    subst hx
    exact rdK_none _ w k _
  · refine ⟨some ⟨g, 0, none⟩, cap, rfl, hnc, hcm, fun i hi => ⟨g, 0, qs[i], rfl, hb, (Array.getElem?_eq_some_iff.1 hg).1, (hr i hi (by omega)).1, hR (hr i hi (by omega)).2 (fun b hb _ => ⟨hb.1, rfl⟩), fun j u hu => ?_⟩⟩
    have := hc g rfl (i * k + j) u (flat_at qs i j (by omega) u (fun i h => (hr i (by omega) h).1) hu)
    rw [add_plain] at this
    rw [Nat.zero_add]
    rwa [Nat.zero_add] at this
theorem RdK.stay {α : Type} {ok ok' : Nat → Prop} {w w' : World} {k : Nat} {R : (Nat → Prop) → World → α → List Value → Prop} {v : Value} {l : List α} (hR : Kp R) (h : RdK ok w k (R ok w) l v) (hk : ∀ b, ok b → b < w.heap.size → ok' b ∧ w'.heap[b]? = w.heap[b]?) : RdK ok' w' k (R ok' w') l v :=
  h.keep (fun x _ u hu => hR hu hk) hk

/-- Nothing but two blocks has turned, and new blocks. -/
structure Fy (X Y : Nat) (w w' : World) : Prop where
  os : w'.os = w.os
  tape : w'.tape = w.tape
  output : w'.output = w.output
  size : w.heap.size ≤ w'.heap.size
  block : ∀ k, k < w.heap.size → k ≠ X → k ≠ Y → w'.heap[k]? = w.heap[k]?
theorem Fy.of {X Y : Nat} {a b : World} (h : Fx X a b) : Fy X Y a b := ⟨h.os, h.tape, h.output, h.size, fun k hk h1 _ => h.block k hk (fun e => h1 (Option.some.inj e))⟩
theorem Fy.trans {X Y : Nat} {a b c : World} (h : Fy X Y a b) (k : Fy X Y b c) : Fy X Y a c :=
  ⟨k.os.trans h.os, k.tape.trans h.tape, k.output.trans h.output, Nat.le_trans h.size k.size, fun j hj h1 h2 => (k.block j (Nat.lt_of_lt_of_le hj h.size) h1 h2).trans (h.block j hj h1 h2)⟩
end Go.Proofs.Ytgpgbingmeehdaa

/- A disk as math: rows of numbered things, rising; what is put into them and taken out of them; a map of the program that holds such a row. -/
namespace Go.Proofs.Ytgpgbingmeehdaa
open Go.RowKit Go.Lib Go.Maps
set_option linter.unusedSimpArgs false
set_option linter.unusedVariables false

abbrev Ris {β : Type} (l : List (Int × β)) : Prop := l.Pairwise fun x y => x.1 < y.1
/-- The datum of a map, of numbers' things as they lie. -/
def esD (l : List (Int × Value)) : List (Lit × DataW Value) := l.map fun x => (.int .i64 x.1, .held x.2)
def hR (v : Value) : Option (DataW Value × List MemPlace) := some (.held v, [])

/-- Nothing but blocks of F has turned, and new blocks. -/
structure Kf (F : Nat → Prop) (w w' : World) : Prop where
  os : w'.os = w.os
  tape : w'.tape = w.tape
  output : w'.output = w.output
  size : w.heap.size ≤ w'.heap.size
  block : ∀ k, k < w.heap.size → ¬ F k → w'.heap[k]? = w.heap[k]?
theorem Kf.refl (F : Nat → Prop) (w : World) : Kf F w w := ⟨rfl, rfl, rfl, Nat.le_refl _, fun _ _ _ => rfl⟩
/-- What is there of F, and what is new since w. -/
def nF (F : Nat → Prop) (w : World) : Nat → Prop := fun j => F j ∨ w.heap.size ≤ j
theorem Kf.trans {F : Nat → Prop} {a b c : World} (h : Kf F a b) (k : Kf F b c) : Kf F a c :=
  ⟨k.os.trans h.os, k.tape.trans h.tape, k.output.trans h.output, Nat.le_trans h.size k.size, fun j hj hn => (k.block j (Nat.lt_of_lt_of_le hj h.size) hn).trans (h.block j hj hn)⟩
theorem Kf.transN {F : Nat → Prop} {a b c : World} (h : Kf F a b) (k : Kf (nF F a) b c) : Kf F a c :=
  ⟨k.os.trans h.os, k.tape.trans h.tape, k.output.trans h.output, Nat.le_trans h.size k.size, fun j hj hn => (k.block j (Nat.lt_of_lt_of_le hj h.size) (fun e => e.elim hn (fun e => by omega))).trans (h.block j hj hn)⟩
theorem Kf.of {F : Nat → Prop} {B : Nat} {a b : World} (h : Below B a b) (hB : a.heap.size ≤ B) : Kf F a b := ⟨h.os, h.tape, h.output, h.size, fun k hk _ => h.block k (by omega)⟩
theorem Kf.grown {F : Nat → Prop} {a b : World} {row : Option Nat} (h : a.grownBy b row) (hr : ∀ k, row = some k → F k) : Kf F a b := ⟨h.os, h.tape, h.output, h.size, fun k hk hn => h.block k hk (fun e => hn (hr k e.symm))⟩
theorem Kf.set {F : Nat → Prop} {X i : Nat} {a b : World} (h : Kf F a b) (hX : F X) (u : Value) : Kf F a (b.setCell ⟨X, i, none⟩ u) :=
  ⟨h.os, h.tape, h.output, by simpa using h.size, fun k hk hn => (Below.heap_setCell _ _ _ _ (fun e => hn (by have : k = X := e; rw [this]; exact hX))).trans (h.block k hk hn)⟩
theorem Kf.alloc {F : Nat → Prop} {a b : World} (h : Kf F a b) (o : Obj) : Kf F a (b.alloc o) := h.trans (Kf.of ((Below.refl b.heap.size b).alloc (Nat.le_refl _) o) (Nat.le_refl _))
theorem Kf.drew {F : Nat → Prop} {a b : World} (h : Kf F a b) : Kf F a b.drew := ⟨h.os, h.tape, h.output, h.size, h.block⟩
theorem Kf.drewN {F : Nat → Prop} {a b : World} (h : Kf F a b) (m : Nat) : Kf F a (b.drewN m) := ⟨h.os, h.tape, h.output, h.size, h.block⟩
theorem Kf.mono {F G : Nat → Prop} {a b : World} (h : Kf F a b) (hs : ∀ j, F j → G j) : Kf G a b := ⟨h.os, h.tape, h.output, h.size, fun k hk hn => h.block k hk (fun e => hn (hs k e))⟩
theorem Kf.below {F : Nat → Prop} {B : Nat} {a b : World} (h : Kf F a b) (hF : ∀ j, F j → B ≤ j) (hB : B ≤ a.heap.size) : Below B a b := ⟨h.os, h.tape, h.output, h.size, fun k hk => h.block k (by omega) (fun e => by have := hF k e; omega)⟩

/-- A segment as the program has it: the slice of its bytes, its bytes, how many of them are synced. -/
abbrev Sv := Value × List Int × Nat
abbrev Sm := List Int × Nat
def cv (x : Sv) : Value := .agg #[x.1, .int .i64 (x.2.2 : Int)]
def esV (E : List (Int × Sv)) : List (Int × Value) := E.map fun x => (x.1, cv x.2)
def mmE (E : List (Int × Sv)) : List (Int × Sm) := E.map fun x => (x.1, x.2.2)
/-- The map's value in memory. -/
def MapO (w : World) (mv : Option Nat) (l : List (Int × Value)) : Prop := (mv = none ∧ l = []) ∨ ∃ b, mv = some b ∧ w.ownsMap Try.prog 3 hR b l.length (.map (esD l))
theorem MapO.keep {w w' : World} {mv : Option Nat} {l : List (Int × Value)} (h : MapO w mv l) (hk : ∀ b, mv = some b → b < w.heap.size → w'.heap[b]? = w.heap[b]?) : MapO w' mv l := by
  rcases h with h | ⟨b, rfl, ho⟩
  · exact .inl h
  · have hlt := ho.lt
    obtain ⟨es, clock, hb, F, hs, hD⟩ := ho
    exact .inr ⟨b, rfl, es, clock, (hk b rfl hlt).trans hb, F, hs, hD⟩
/-- The map, and the segments' bytes: all in blocks of F, but not in X. -/
structure PR (w : World) (X : Nat) (F : Nat → Prop) (mv : Option Nat) (E : List (Int × Sv)) : Prop where
  r : Ris E
  m : MapO w mv (esV E)
  fm : ∀ b, mv = some b → F b ∧ b ≠ X
  s : ∀ x ∈ E, Own w 0 5 x.2.1 x.2.2.1 ∧ ∀ g, x.2.1.ownBlock = some g → F g ∧ g ≠ X
  a : E.Pairwise fun x y => ∀ g, x.2.1.ownBlock = some g → y.2.1.ownBlock ≠ some g
theorem ownD_keep {w w' : World} {base e : Nat} {v : Value} {xs : List Int} (h : Own w base e v xs) (hk : ∀ g, v.ownBlock = some g → w'.heap[g]? = w.heap[g]?) : Own w' base e v xs := ownsRow_keep h hk
theorem PR.keep {w w' : World} {X : Nat} {F : Nat → Prop} {mv : Option Nat} {E : List (Int × Sv)} (h : PR w X F mv E) (hk : ∀ b, F b → b ≠ X → b < w.heap.size → w'.heap[b]? = w.heap[b]?) : PR w' X F mv E :=
  ⟨h.r, h.m.keep (fun b hb hlt => hk b (h.fm b hb).1 (h.fm b hb).2 hlt), h.fm, fun x hx => ⟨ownD_keep (h.s x hx).1 (fun g hg => hk g ((h.s x hx).2 g hg).1 ((h.s x hx).2 g hg).2 (ownsRow_lt (h.s x hx).1 g hg).2), (h.s x hx).2⟩, h.a⟩
theorem PR.mono {w : World} {X : Nat} {F G : Nat → Prop} {mv : Option Nat} {E : List (Int × Sv)} (h : PR w X F mv E) (hs : ∀ j, j < w.heap.size → F j → G j) : PR w X G mv E :=
  ⟨h.r, h.m, fun b hb => ⟨hs b (by rcases h.m with ⟨e, _⟩ | ⟨b', e, ho⟩ <;> rw [e] at hb <;> cases hb; exact ho.lt) (h.fm b hb).1, (h.fm b hb).2⟩, fun x hx => ⟨(h.s x hx).1, fun g hg => ⟨hs g (ownsRow_lt (h.s x hx).1 g hg).2 ((h.s x hx).2 g hg).1, ((h.s x hx).2 g hg).2⟩⟩, h.a⟩
theorem PR.on {w w' : World} {X : Nat} {F : Nat → Prop} {mv : Option Nat} {E : List (Int × Sv)} (h : PR w X F mv E) (hb : Below w.heap.size w w') : PR w' X F mv E := h.keep (fun b _ _ hlt => hb.block b hlt)
theorem PR.setX {w : World} {X i : Nat} {F : Nat → Prop} {mv : Option Nat} {E : List (Int × Sv)} (h : PR w X F mv E) (u : Value) : PR (w.setCell ⟨X, i, none⟩ u) X F mv E := h.keep (fun b _ hne _ => Below.heap_setCell _ _ _ _ (fun e => hne e))
/-- A new block's cells, written. -/
theorem PR.setN {w : World} {X N i : Nat} {F : Nat → Prop} {mv : Option Nat} {E : List (Int × Sv)} (h : PR w X F mv E) (hN : ∀ j, F j → j ≠ N) (u : Value) : PR (w.setCell ⟨N, i, none⟩ u) X F mv E := h.keep (fun b hF _ _ => Below.heap_setCell _ _ _ _ (fun e => hN b hF e))

/-- As it is but for the segment n. -/
structure PRx (w : World) (X : Nat) (F : Nat → Prop) (mv : Option Nat) (E : List (Int × Sv)) (n : Int) : Prop where
  r : Ris E
  m : MapO w mv (esV E)
  fm : ∀ b, mv = some b → F b ∧ b ≠ X
  s : ∀ x ∈ E, x.1 ≠ n → Own w 0 5 x.2.1 x.2.2.1 ∧ ∀ g, x.2.1.ownBlock = some g → F g ∧ g ≠ X
  a : E.Pairwise fun x y => x.1 ≠ n → y.1 ≠ n → ∀ g, x.2.1.ownBlock = some g → y.2.1.ownBlock ≠ some g
theorem PR.x {w : World} {X : Nat} {F : Nat → Prop} {mv : Option Nat} {E : List (Int × Sv)} (h : PR w X F mv E) (n : Int) : PRx w X F mv E n :=
  ⟨h.r, h.m, h.fm, fun x hx _ => h.s x hx, h.a.imp (fun h _ _ => h)⟩
theorem PRx.keep {w w' : World} {X : Nat} {F G : Nat → Prop} {mv : Option Nat} {E : List (Int × Sv)} {n : Int} (h : PRx w X F mv E n) (hFG : ∀ j, j < w.heap.size → F j → G j) (hm : ∀ b, mv = some b → b < w.heap.size → w'.heap[b]? = w.heap[b]?)
    (hs : ∀ x ∈ E, x.1 ≠ n → ∀ g, x.2.1.ownBlock = some g → g < w.heap.size → w'.heap[g]? = w.heap[g]?) : PRx w' X G mv E n :=
  ⟨h.r, h.m.keep hm, fun b hb => ⟨hFG b (by rcases h.m with ⟨e, _⟩ | ⟨b', e, ho⟩ <;> rw [e] at hb <;> cases hb; exact ho.lt) (h.fm b hb).1, (h.fm b hb).2⟩, fun x hx hne => ⟨ownD_keep (h.s x hx hne).1 (fun g hg => hs x hx hne g hg (ownsRow_lt (h.s x hx hne).1 g hg).2), fun g hg => ⟨hFG g (ownsRow_lt (h.s x hx hne).1 g hg).2 ((h.s x hx hne).2 g hg).1, ((h.s x hx hne).2 g hg).2⟩⟩, h.a⟩
theorem PRx.on {w w' : World} {X : Nat} {F G : Nat → Prop} {mv : Option Nat} {E : List (Int × Sv)} {n : Int} (h : PRx w X F mv E n) (hb : Below w.heap.size w w') (hFG : ∀ j, j < w.heap.size → F j → G j) : PRx w' X G mv E n := h.keep hFG (fun b _ hlt => hb.block b hlt) (fun _ _ _ g _ hlt => hb.block g hlt)
structure Dk where
  L : List (Int × Sm)
  room : Int
  fuse : Int
  dead : Bool
def usM (L : List (Int × Sm)) : Nat := (L.map fun x => x.2.1.length).sum
/-- The program's disk in block X, its memory in blocks of F, its map's value and its segments as they lie. -/
def PDE (w : World) (X : Nat) (F : Nat → Prop) (d : Dk) (mv : Option Nat) (E : List (Int × Sv)) : Prop :=
  ∃ fz, F X ∧ mmE E = d.L ∧ PR w X F mv E ∧ Bn w X [.map mv, .int .i64 (usM d.L : Int), .int .i64 d.room, .bool d.dead, .bool (decide (0 ≤ d.fuse)), .int .i64 fz] ∧ (0 ≤ d.fuse → fz = d.fuse)
def PD (w : World) (X : Nat) (F : Nat → Prop) (d : Dk) : Prop := ∃ mv E, PDE w X F d mv E
theorem PDE.lt {w : World} {X : Nat} {F : Nat → Prop} {d : Dk} {mv : Option Nat} {E : List (Int × Sv)} (h : PDE w X F d mv E) : X < w.heap.size := by
  obtain ⟨fz, h1, h2, h3, h4, h5⟩ := h
  exact h4.lt
theorem PDE.keep {w w' : World} {X : Nat} {F : Nat → Prop} {d : Dk} {mv : Option Nat} {E : List (Int × Sv)} (h : PDE w X F d mv E) (hk : ∀ b, F b → b < w.heap.size → w'.heap[b]? = w.heap[b]?) : PDE w' X F d mv E := by
  obtain ⟨fz, h1, h2, h3, h4, h5⟩ := h
  exact ⟨fz, h1, h2, h3.keep (fun b hb _ hlt => hk b hb hlt), h4.blk (hk X h1 h4.lt), h5⟩
theorem PDE.mono {w : World} {X : Nat} {F G : Nat → Prop} {d : Dk} {mv : Option Nat} {E : List (Int × Sv)} (h : PDE w X F d mv E) (hs : ∀ j, j < w.heap.size → F j → G j) : PDE w X G d mv E := by
  obtain ⟨fz, h1, h2, h3, h4, h5⟩ := h
  exact ⟨fz, hs X h4.lt h1, h2, h3.mono hs, h4, h5⟩
theorem PDE.on {w w' : World} {X : Nat} {F : Nat → Prop} {d : Dk} {mv : Option Nat} {E : List (Int × Sv)} (h : PDE w X F d mv E) (hb : Below w.heap.size w w') : PDE w' X F d mv E := h.keep (fun b _ hlt => hb.block b hlt)
theorem PD.lt {w : World} {X : Nat} {F : Nat → Prop} {d : Dk} (h : PD w X F d) : X < w.heap.size := by
  obtain ⟨mv, E, h⟩ := h
  exact h.lt
theorem PD.keep {w w' : World} {X : Nat} {F : Nat → Prop} {d : Dk} (h : PD w X F d) (hk : ∀ b, F b → b < w.heap.size → w'.heap[b]? = w.heap[b]?) : PD w' X F d := by
  obtain ⟨mv, E, h⟩ := h
  exact ⟨mv, E, h.keep hk⟩
theorem PD.mono {w : World} {X : Nat} {F G : Nat → Prop} {d : Dk} (h : PD w X F d) (hs : ∀ j, j < w.heap.size → F j → G j) : PD w X G d := by
  obtain ⟨mv, E, h⟩ := h
  exact ⟨mv, E, h.mono hs⟩
theorem PD.on {w w' : World} {X : Nat} {F : Nat → Prop} {d : Dk} (h : PD w X F d) (hb : Below w.heap.size w w') : PD w' X F d := h.keep (fun b _ hlt => hb.block b hlt)

section
variable {α : Type}
/-- What lies at places f, t. -/
def sel (f t : Int) : List (Int × Int × α) → List α
  | [] => []
  | x :: r => if x.1 = f ∧ x.2.1 = t then x.2.2 :: sel f t r else sel f t r
theorem sel_cons (f t : Int) (x : Int × Int × α) (r : List (Int × Int × α)) : sel f t (x :: r) = if x.1 = f ∧ x.2.1 = t then x.2.2 :: sel f t r else sel f t r := rfl
theorem sel_app (f t : Int) : ∀ a b : List (Int × Int × α), sel f t (a ++ b) = sel f t a ++ sel f t b
  | [], b => rfl
  | x :: r, b => by
    show sel f t (x :: (r ++ b)) = _
    rw [sel_cons, sel_cons, sel_app f t r b]
    split <;> rfl
theorem sel_len (f t : Int) : ∀ L : List (Int × Int × α), (sel f t L).length ≤ L.length
  | [] => Nat.le_refl _
  | x :: r => by
    have := sel_len f t r
    unfold sel
    split <;> simp only [List.length_cons] <;> omega
theorem sel_none (f t : Int) : ∀ L : List (Int × Int × α), (∀ x ∈ L, ¬ (x.1 = f ∧ x.2.1 = t)) → sel f t L = []
  | [], _ => rfl
  | x :: r, h => by
    unfold sel
    rw [if_neg (h x (by simp))]
    exact sel_none f t r (fun y hy => h y (by simp [hy]))
/-- The place of the letter c of those: from place p on, n of them met. -/
def fd (f t c : Int) : Nat → Nat → List (Int × Int × α) → Option Nat
  | _, _, [] => none
  | p, n, x :: r => if x.1 = f ∧ x.2.1 = t then (if (n : Int) = c then some p else fd f t c (p + 1) (n + 1) r) else fd f t c (p + 1) n r
theorem fd_spec (f t c : Int) : ∀ (L : List (Int × Int × α)) (p n : Nat),
    (∃ i k x, fd f t c p n L = some (p + i) ∧ c = ((n + k : Nat) : Int) ∧ i < L.length ∧ L[i]? = some x ∧ x.1 = f ∧ x.2.1 = t ∧ (sel f t L)[k]? = some x.2.2 ∧ sel f t (L.take i ++ L.drop (i + 1)) = (sel f t L).take k ++ (sel f t L).drop (k + 1)) ∨
    (fd f t c p n L = none ∧ ¬ ((n : Int) ≤ c ∧ c < ((n + (sel f t L).length : Nat) : Int)))
  | [], p, n => .inr ⟨rfl, by simp only [sel, List.length_nil]; omega⟩
  | y :: r, p, n => by
    by_cases hm : y.1 = f ∧ y.2.1 = t
    · have es : sel f t (y :: r) = y.2.2 :: sel f t r := by conv => lhs; unfold sel; rw [if_pos hm]
      have ef : fd f t c p n (y :: r) = if (n : Int) = c then some p else fd f t c (p + 1) (n + 1) r := by conv => lhs; unfold fd; rw [if_pos hm]
      by_cases hc : (n : Int) = c
      · rw [if_pos hc] at ef
        refine .inl ⟨0, 0, y, by rw [ef]; rfl, by omega, by simp, rfl, hm.1, hm.2, by rw [es]; rfl, ?_⟩
        rw [es]
        simp
      · rw [if_neg hc] at ef
        rcases fd_spec f t c r (p + 1) (n + 1) with ⟨i, k, x, h1, h2, h3, h4, h5, h6, h7, h8⟩ | ⟨h1, h2⟩
        · refine .inl ⟨i + 1, k + 1, x, by rw [ef, h1]; congr 1; omega, by omega, by simp; omega, by simpa using h4, h5, h6, by rw [es]; simpa using h7, ?_⟩
          have e1 : (y :: r).take (i + 1) ++ (y :: r).drop (i + 1 + 1) = y :: (r.take i ++ r.drop (i + 1)) := by simp
          rw [e1, es]
          conv => lhs; unfold sel
          rw [if_pos hm, h8]
          simp
        · refine .inr ⟨by rw [ef, h1], ?_⟩
          rw [es, List.length_cons]
          omega
    · have es : sel f t (y :: r) = sel f t r := by conv => lhs; unfold sel; rw [if_neg hm]
      have ef : fd f t c p n (y :: r) = fd f t c (p + 1) n r := by conv => lhs; unfold fd; rw [if_neg hm]
      rcases fd_spec f t c r (p + 1) n with ⟨i, k, x, h1, h2, h3, h4, h5, h6, h7, h8⟩ | ⟨h1, h2⟩
      · refine .inl ⟨i + 1, k, x, by rw [ef, h1]; congr 1; omega, by omega, by simp; omega, by simpa using h4, h5, h6, by rw [es]; exact h7, ?_⟩
        have e1 : (y :: r).take (i + 1) ++ (y :: r).drop (i + 1 + 1) = y :: (r.take i ++ r.drop (i + 1)) := by simp
        rw [e1, es]
        conv => lhs; unfold sel
        rw [if_neg hm, h8]
      · exact .inr ⟨by rw [ef, h1], by rw [es]; exact h2⟩
/-- One is gone: those of other places stay. -/
theorem sel_gone {f t : Int} {L : List (Int × Int × α)} {i : Nat} {x : Int × Int × α} (hx : L[i]? = some x) (hn : ¬ (x.1 = f ∧ x.2.1 = t)) : sel f t (L.take i ++ L.drop (i + 1)) = sel f t L := by
  obtain ⟨hi, e⟩ := List.getElem?_eq_some_iff.1 hx
  have e1 : L = L.take i ++ x :: L.drop (i + 1) := by
    rw [← e, ← List.drop_eq_getElem_cons hi, List.take_append_drop]
  conv => rhs; rw [e1]
  rw [sel_app, sel_app]
  conv => rhs; arg 2; unfold sel
  rw [if_neg hn]

/-- Links: each with its letters. -/
abbrev Lk := Int × Int × List (List Int)
def gt (f t : Int) : List Lk → List (List Int)
  | [] => []
  | x :: r => if x.1 = f ∧ x.2.1 = t then x.2.2 else gt f t r
def ix (f t : Int) : Nat → List Lk → Option Nat
  | _, [] => none
  | p, x :: r => if x.1 = f ∧ x.2.1 = t then some p else ix f t (p + 1) r
def tot (D : List Lk) : Nat := (D.map fun x => x.2.2.length).sum
theorem tot_cons (x : Lk) (D : List Lk) : tot (x :: D) = x.2.2.length + tot D := by simp [tot]
theorem tot_app (a b : List Lk) : tot (a ++ b) = tot a + tot b := by simp [tot]
/-- The first link of f, t is at i, and has l. -/
def Lat (f t : Int) (D : List Lk) (i : Nat) (l : List (List Int)) : Prop := ix f t 0 D = some i ∧ i < D.length ∧ D[i]? = some (f, t, l)
theorem ix_spec (f t : Int) : ∀ (D : List Lk) (p : Nat),
    (∃ i, ix f t p D = some (p + i) ∧ i < D.length ∧ D[i]? = some (f, t, gt f t D) ∧ (∀ q b, ix f t q (D.set i (f, t, b)) = some (q + i)) ∧ (∀ b, gt f t (D.set i (f, t, b)) = b) ∧ (∀ f' t' b, ¬ (f' = f ∧ t' = t) → gt f' t' (D.set i (f, t, b)) = gt f' t' D) ∧ ∀ b, tot (D.set i (f, t, b)) + (gt f t D).length = tot D + b.length) ∨
    (ix f t p D = none ∧ gt f t D = [] ∧ (∀ q b, ix f t q (D ++ [(f, t, b)]) = some (q + D.length)) ∧ (∀ b, gt f t (D ++ [(f, t, b)]) = b) ∧ ∀ f' t', gt f' t' (D ++ [(f, t, [])]) = gt f' t' D)
  | [], p => .inr ⟨rfl, rfl, fun q b => by simp [ix], fun b => by simp [gt], fun f' t' => by simp only [List.nil_append, gt]; split <;> rfl⟩
  | y :: r, p => by
    by_cases hm : y.1 = f ∧ y.2.1 = t
    · have eg : gt f t (y :: r) = y.2.2 := by conv => lhs; unfold gt; rw [if_pos hm]
      obtain ⟨y1, y2, y3⟩ := y
      obtain ⟨e1, e2⟩ := hm
      simp only at e1 e2
      subst e1
      subst e2
      refine .inl ⟨0, by simp [ix], by simp, by rw [eg]; rfl, fun q b => by simp [ix], fun b => by simp [gt], fun f' t' b hn => ?_, fun b => ?_⟩
      · have hn' : ¬ (y1 = f' ∧ y2 = t') := fun e => hn ⟨e.1.symm, e.2.symm⟩
        simp [gt, hn']
      · rw [eg, List.set_cons_zero, tot_cons, tot_cons]
        simp only
        omega
    · have eg : gt f t (y :: r) = gt f t r := by conv => lhs; unfold gt; rw [if_neg hm]
      have ei : ∀ q s, ix f t q (y :: s) = ix f t (q + 1) s := fun q s => by conv => lhs; unfold ix; rw [if_neg hm]
      have eg2 : ∀ s, gt f t (y :: s) = gt f t s := fun s => by conv => lhs; unfold gt; rw [if_neg hm]
      rcases ix_spec f t r (p + 1) with ⟨i, h1, h2, h3, h4, h5, h6, h7⟩ | ⟨h1, h2, h3, h4, h5⟩
      · refine .inl ⟨i + 1, by rw [ei, h1]; congr 1; omega, by simp; omega, by rw [eg]; simpa using h3, fun q b => ?_, fun b => ?_, fun f' t' b hn => ?_, fun b => ?_⟩
        · rw [List.set_cons_succ, ei, h4]
          congr 1
          omega
        · rw [List.set_cons_succ, eg2, h5]
        · rw [List.set_cons_succ]
          unfold gt
          rw [h6 f' t' b hn]
        · rw [eg, List.set_cons_succ, tot_cons, tot_cons]
          have := h7 b
          omega
      · refine .inr ⟨by rw [ei, h1], by rw [eg, h2], fun q b => ?_, fun b => ?_, fun f' t' => ?_⟩
        · rw [List.cons_append, ei, h3, List.length_cons]
          congr 1
          omega
        · rw [List.cons_append, eg2, h4]
        · rw [List.cons_append]
          unfold gt
          rw [h5]
/-- The links with that link, if it was not there: and its place. -/
def fnd (f t : Int) (D : List Lk) : Nat × List Lk := match ix f t 0 D with | some i => (i, D) | none => (D.length, D ++ [(f, t, [])])
theorem fnd_at (f t : Int) (D : List Lk) : Lat f t (fnd f t D).2 (fnd f t D).1 (gt f t D) ∧ (∀ f' t', gt f' t' (fnd f t D).2 = gt f' t' D) ∧ tot (fnd f t D).2 = tot D ∧ (fnd f t D).2.length ≤ D.length + 1 := by
  rcases ix_spec f t D 0 with ⟨i, h1, h2, h3, _⟩ | ⟨h1, h2, h3, h4, h5⟩
  · have e : fnd f t D = (i, D) := by unfold fnd; rw [h1]; simp
    rw [e]
    exact ⟨⟨by rw [h1]; simp, h2, h3⟩, fun _ _ => rfl, rfl, Nat.le_succ _⟩
  · have e : fnd f t D = (D.length, D ++ [(f, t, [])]) := by unfold fnd; rw [h1]
    rw [e, h2]
    refine ⟨⟨by rw [h3]; simp, by simp, by simp⟩, h5, by rw [tot_app]; simp [tot], by simp⟩
theorem fnd_of {f t : Int} {D : List Lk} {i : Nat} {l : List (List Int)} (h : Lat f t D i l) : fnd f t D = (i, D) := by unfold fnd; rw [h.1]
theorem Lat.gt {f t : Int} {D : List Lk} {i : Nat} {l : List (List Int)} (h : Lat f t D i l) : gt f t D = l := by
  rcases ix_spec f t D 0 with ⟨j, h1, h2, h3, _⟩ | ⟨h1, _⟩
  · rw [h.1] at h1
    have e : i = j := by have := Option.some.inj h1; omega
    subst e
    have := h.2.2
    rw [h3] at this
    simp only [Option.some.injEq, Prod.mk.injEq, true_and] at this
    exact this
  · rw [h.1] at h1
    cases h1
theorem Lat.set {f t : Int} {D : List Lk} {i : Nat} {l : List (List Int)} (h : Lat f t D i l) (b : List (List Int)) :
    Lat f t (D.set i (f, t, b)) i b ∧ (∀ f' t', Go.Proofs.Ytgpgbingmeehdaa.gt f' t' (D.set i (f, t, b)) = if f' = f ∧ t' = t then b else Go.Proofs.Ytgpgbingmeehdaa.gt f' t' D) ∧ tot (D.set i (f, t, b)) + l.length = tot D + b.length := by
  have hg := h.gt
  rcases ix_spec f t D 0 with ⟨j, h1, h2, h3, h4, h5, h6, h7⟩ | ⟨h1, _⟩
  · rw [h.1] at h1
    have e : i = j := by have := Option.some.inj h1; omega
    subst e
    refine ⟨⟨by rw [h4]; simp, by simpa using h2, by simp [h2]⟩, fun f' t' => ?_, by rw [← hg]; exact h7 b⟩
    split
    · rename_i e
      rw [e.1, e.2]
      exact h5 b
    · rename_i e
      exact h6 f' t' b e
  · rw [h.1] at h1
    cases h1
/-- Parties. -/
def Pty (N f t : Int) : Prop := 0 ≤ f ∧ f < N ∧ 0 ≤ t ∧ t < N ∧ f ≠ t
instance (N f t : Int) : Decidable (Pty N f t) := by unfold Pty; exact inferInstance
/-- Both tell the same. -/
structure LInv (N : Int) (L : List (Int × Int × List Int)) (D : List Lk) : Prop where
  s : ∀ f t, Pty N f t → sel f t L = gt f t D
  p : ∀ x ∈ L, Pty N x.1 x.2.1
  c : tot D = L.length
theorem LInv.nil (N : Int) : LInv N [] [] := ⟨fun _ _ _ => rfl, fun x hx => by simp at hx, rfl⟩
theorem LInv.none {N : Int} {L : List (Int × Int × List Int)} {D : List Lk} (h : LInv N L D) {f t : Int} (hn : ¬ Pty N f t) : sel f t L = [] := sel_none f t L (fun x hx e => hn (by rw [← e.1, ← e.2]; exact h.p x hx))
theorem LInv.find {N : Int} {L : List (Int × Int × List Int)} {D : List Lk} (h : LInv N L D) (f t : Int) : LInv N L (fnd f t D).2 := by
  obtain ⟨_, h2, h3, _⟩ := fnd_at f t D
  exact ⟨fun f' t' hp => by rw [h2]; exact h.s f' t' hp, h.p, by rw [h3]; exact h.c⟩
theorem LInv.send {N : Int} {L : List (Int × Int × List Int)} {D : List Lk} (h : LInv N L D) {f t : Int} (hp : Pty N f t) {i : Nat} {l : List (List Int)} (ha : Lat f t D i l) (b : List Int) : LInv N (L ++ [(f, t, b)]) (D.set i (f, t, l ++ [b])) := by
  obtain ⟨_, h2, h3⟩ := ha.set (l ++ [b])
  refine ⟨fun f' t' hp' => ?_, fun x hx => ?_, ?_⟩
  · rw [sel_app, h2, h.s f' t' hp']
    by_cases e : f' = f ∧ t' = t
    · rw [if_pos e, e.1, e.2, ha.gt]
      simp [sel]
    · rw [if_neg e]
      have e' : ¬ (f = f' ∧ t = t') := fun q => e ⟨q.1.symm, q.2.symm⟩
      simp [sel, e']
  · rcases List.mem_append.1 hx with hx | hx
    · exact h.p x hx
    · rw [List.mem_singleton.1 hx]
      exact hp
  · have := h.c
    rw [List.length_append] at h3 ⊢
    simp only [List.length_singleton] at h3 ⊢
    omega
theorem LInv.take {N : Int} {L : List (Int × Int × List Int)} {D : List Lk} (h : LInv N L D) {f t : Int} {i j k : Nat} {l : List (List Int)} (ha : Lat f t D i l) {x : Int × Int × List Int} (hj : j < L.length) (hx : L[j]? = some x) (h1 : x.1 = f) (h2 : x.2.1 = t)
    (hk : k < l.length) (hs : sel f t (L.take j ++ L.drop (j + 1)) = (sel f t L).take k ++ (sel f t L).drop (k + 1)) : LInv N (L.take j ++ L.drop (j + 1)) (D.set i (f, t, l.take k ++ l.drop (k + 1))) := by
  obtain ⟨_, h3, h4⟩ := ha.set (l.take k ++ l.drop (k + 1))
  refine ⟨fun f' t' hp' => ?_, fun y hy => ?_, ?_⟩
  · rw [h3]
    by_cases e : f' = f ∧ t' = t
    · rw [if_pos e, e.1, e.2, hs, h.s f t (by rw [← e.1, ← e.2]; exact hp'), ha.gt]
    · rw [if_neg e, sel_gone hx (fun q => e ⟨q.1.symm.trans h1, q.2.symm.trans h2⟩)]
      exact h.s f' t' hp'
  · rcases List.mem_append.1 hy with hy | hy
    · exact h.p y (List.mem_of_mem_take hy)
    · exact h.p y (List.mem_of_mem_drop hy)
  · have := h.c
    simp only [List.length_append, List.length_take, List.length_drop] at h4 ⊢
    omega
end
end Go.Proofs.Ytgpgbingmeehdaa

/- Slices of bytes in a seat: where one lies, its parts, its string; an empty one of the call's own; an append as a step of a region that draws. -/
namespace Go.Proofs.Ytgpgbingmeehdaa
open Go.RowKit
set_option linter.unusedSimpArgs false
set_option linter.unusedVariables false

theorem Try.info5 : (Try.prog.info? 5).map (fun i => (i.zero, i.size, i.bytes)) = some (some (.int .u8 0), 1, 1) := by kernel_rfl

/-- A slice of bytes that isn't empty: where it lies. -/
theorem Rd.lies {w : World} {v : Value} {bs : List Int} (h : Rd w v bs) (hn : 0 < bs.length) :
    ∃ b off cap, v = .slice (some ⟨b, off, none⟩) bs.length cap ∧ bs.length ≤ cap ∧ cap ≤ maxLen ∧ ∀ i, i < bs.length → w.cell? ⟨b, off + i, none⟩ = some (.int .u8 (bs.getD i 0)) := by
  obtain ⟨a, cap, rfl, hc, hm, hnone, hcell⟩ := h
  cases a with
  | none => have := (hnone rfl).1; subst this; simp at hn
  | some x =>
    obtain ⟨b, off, spot⟩ := x
    have h0 := hcell _ rfl 0 hn
    have hspot : spot = none := by simpa [Addr.add] using World.cell?_spot h0
    subst hspot
    refine ⟨b, off, cap, rfl, hc, hm, fun i hi => ?_⟩
    have := hcell _ rfl i hi
    have hp : (⟨b, off, none⟩ : Addr).add i = ⟨b, off + i, none⟩ := by unfold Addr.add; split <;> simp_all
    rw [hp] at this
    exact this

theorem Rd.of_lies {w : World} {b off len cap : Nat} {bs : List Int} (hl : bs.length = len) (hc : len ≤ cap) (hm : cap ≤ maxLen) (h : ∀ i, i < len → w.cell? ⟨b, off + i, none⟩ = some (.int .u8 (bs.getD i 0))) :
    Rd w (.slice (some ⟨b, off, none⟩) len cap) bs := by
  subst hl
  refine ⟨_, cap, rfl, hc, hm, by simp, fun x hx i hi => ?_⟩
  obtain rfl := Option.some.inj hx
  have hp : (⟨b, off, none⟩ : Addr).add i = ⟨b, off + i, none⟩ := by unfold Addr.add; split <;> simp_all
  rw [hp]
  exact h i hi

theorem rd_conv {w : World} {v : Value} {xs : List Int} (h : Rd w v xs) : (convert 29 9 v).run Try.prog w = .ok (.string (strOfNums xs)) w :=
  h.convert Try.underlying29 Try.underlying5 Try.underlying9

/-- A constant text as bytes: the block has its mark behind its last cell. -/
theorem rd_const (w : World) (zs : List Int) (h : zs.length ≤ maxLen) (fr : Nat × Nat) : Rd (w.alloc (.cells (zs.map (Value.int .u8)).toArray 5 fr)) (.slice (some ⟨w.heap.size, 0, none⟩) zs.length zs.length) zs := by
  refine Rd.of_lies rfl (Nat.le_refl _) h (fun i hi => ?_)
  rw [Nat.zero_add, World.cell?_alloc_mark]
  simp [List.getD, hi]
theorem conv_const (w : World) (C : Array Value) (n c : Nat) :
    (convert 29 29 (.slice (some ⟨w.heap.size, 0, none⟩) n c)).run Try.prog (w.alloc (.cells C 5)) = .ok (.slice (some ⟨w.heap.size, 0, none⟩) n c) (w.alloc (.cells C 5 (C.size, C.size + 1))) :=
  Lib.run_convert_bytes_const (P := Try.prog) w 29 5 C n c Try.underlying29 Try.underlying5

/-- A part of a slice of bytes. -/
theorem Rd.part {w : World} {b off len cap k n : Nat} {bs : List Int} (hl : bs.length = len) (h : ∀ i, i < len → w.cell? ⟨b, off + i, none⟩ = some (.int .u8 (bs.getD i 0))) (hc : len ≤ cap) (hm : cap ≤ maxLen) (hkn : k + n ≤ len) :
    Rd w (.slice (if cap = k then some ⟨b, off, none⟩ else some ⟨b, off + k, none⟩) n (cap - k)) ((bs.drop k).take n) := by
  have hln : ((bs.drop k).take n).length = n := by rw [List.length_take, List.length_drop]; omega
  by_cases h1 : cap = k
  · rw [if_pos h1]
    have : n = 0 := by omega
    subst this
    exact Rd.of_lies (by simp) (by omega) (by omega) (fun i hi => by omega)
  · rw [if_neg h1]
    refine Rd.of_lies hln (by omega) (by omega) (fun i hi => ?_)
    rw [show off + k + i = off + (k + i) by omega, h (k + i) (by omega)]
    simp [List.getD, hi]

theorem rd_nil (w : World) : Rd w (.slice none 0 0) [] := ⟨none, 0, rfl, by simp, by simp [maxLen], by simp, fun x hx => by cases hx⟩

/-- The first j bytes of a slice. -/
theorem Rd.first {w : World} {b off len cap j : Nat} {xs : List Int} (hl : xs.length = len) (h : Rd w (.slice (some ⟨b, off, none⟩) len cap) xs) (hj : j < len) : Rd w (.slice (some ⟨b, off, none⟩) j cap) (xs.take j) := by
  subst hl
  obtain ⟨b', off', cap', e, hc, hm, hcell⟩ := h.lies (by omega)
  simp only [Value.slice.injEq, Option.some.injEq, Addr.mk.injEq, and_true, true_and] at e
  obtain ⟨⟨rfl, rfl⟩, rfl⟩ := e
  have hlj : (xs.take j).length = j := by rw [List.length_take]; omega
  refine Rd.of_lies hlj (by omega) hm (fun i hi => ?_)
  rw [hcell i (by omega)]
  simp [List.getD, hi]

theorem own_nil (w : World) : (w.alloc (.cells #[] 5)).ownsRow w.heap.size 5 1 (.slice (some ⟨w.heap.size, 0, none⟩) 0 0) 0 [] := World.ownsRow_lit w #[] 0 (Nat.le_refl _) (by simp [maxLen]) (by simp)

theorem rd_src {w : World} {v : Value} {xs : List Int} {m : Nat} (h : Rd w v xs) (hm : xs.length = m) (o : Obj) : Src Try.prog 1 29 v m (xs.map (Value.int .u8)) (w.alloc o) := by
  subst hm
  exact (h.below ((Below.refl _ _).alloc (Nat.le_refl _) o) (Nat.le_refl _)).src Try.underlying29

theorem bel_first {w w' : World} (hg : (w.alloc (.cells #[] 5)).grownBy w' (Value.ownBlock (.slice (some ⟨w.heap.size, 0, none⟩) 0 0))) : Below w.heap.size w w' :=
  ((Below.refl _ _).alloc (Nat.le_refl _) _).grown hg (by simp) (fun k hk => by simp [Value.ownBlock] at hk; omega)

end Go.Proofs.Ytgpgbingmeehdaa

/- Rows of the call's own that lie apart from others; an element put in the place of a zero one. -/
namespace Go.Proofs.Ytgpgbingmeehdaa
open Go.RowKit Go.Lib
set_option linter.unusedSimpArgs false
set_option linter.unusedVariables false

/-- As OwnK; nothing of it lies in a block that is bad. -/
def OwnB {α : Type} (w : World) (base : Nat) (bad : Nat → Prop) (e k : Nat) (R : (Nat → Prop) → World → α → List Value → Prop) (v : Value) (l : List α) : Prop :=
  ∃ qs : List (List Value), w.ownsRow base e k v l.length qs.flatten ∧ qs.length = l.length ∧ (∀ (i : Nat) (h : i < l.length) (h' : i < qs.length), (qs[i]).length = k ∧ R (fun b => base ≤ b ∧ v.ownBlock ≠ some b ∧ ¬ bad b) w l[i] qs[i]) ∧ ∀ g, v.ownBlock = some g → ¬ bad g
theorem OwnB.keep {α : Type} {w w' : World} {base e k : Nat} {bad bad' : Nat → Prop} {R : (Nat → Prop) → World → α → List Value → Prop} {v : Value} {l : List α} (hR : Kp R) (h : OwnB w base bad e k R v l) (hk : ∀ b, base ≤ b → ¬ bad b → b < w.heap.size → w'.heap[b]? = w.heap[b]? ∧ ¬ bad' b) : OwnB w' base bad' e k R v l := by
  obtain ⟨qs, ho, hl, hr, hg0⟩ := h
  refine ⟨qs, ownsRow_keep ho (fun g hg => ?_), hl, fun i h h' => ⟨(hr i h h').1, hR (hr i h h').2 (fun b hb hlt => ⟨⟨hb.1, hb.2.1, (hk b hb.1 hb.2.2 hlt).2⟩, (hk b hb.1 hb.2.2 hlt).1⟩)⟩, fun g hg => ?_⟩
  · obtain ⟨a, b⟩ := ownsRow_lt ho g hg
    exact (hk g a (hg0 g hg) b).1
  · obtain ⟨a, b⟩ := ownsRow_lt ho g hg
    exact (hk g a (hg0 g hg) b).2
theorem OwnB.on {α : Type} {w w' : World} {base e k : Nat} {bad : Nat → Prop} {R : (Nat → Prop) → World → α → List Value → Prop} {v : Value} {l : List α} (hR : Kp R) (h : OwnB w base bad e k R v l) (hb : Below w.heap.size w w') : OwnB w' base bad e k R v l := h.keep hR (fun b _ hbad hlt => ⟨hb.block b hlt, hbad⟩)
theorem OwnB.fx {α : Type} {w w' : World} {base e k X : Nat} {bad : Nat → Prop} {R : (Nat → Prop) → World → α → List Value → Prop} {v : Value} {l : List α} (hR : Kp R) (h : OwnB w base bad e k R v l) (hf : Fx X w w') (hX : X < base) : OwnB w' base bad e k R v l :=
  h.keep hR (fun b hb hbad hlt => ⟨hf.block b hlt (fun e => by have : b = X := Option.some.inj e; omega), hbad⟩)
theorem OwnB.set {α : Type} {w : World} {base e k : Nat} {bad : Nat → Prop} {R : (Nat → Prop) → World → α → List Value → Prop} {v : Value} {l : List α} (hR : Kp R) (h : OwnB w base bad e k R v l) {X i : Nat} (hX : X < base) (u : Value) : OwnB (w.setCell ⟨X, i, none⟩ u) base bad e k R v l :=
  h.keep hR (fun b hb hbad _ => ⟨Below.heap_setCell _ _ _ _ (fun e => by have : b = X := e; omega), hbad⟩)
theorem OwnB.form {α : Type} {w : World} {base e k : Nat} {bad : Nat → Prop} {R : (Nat → Prop) → World → α → List Value → Prop} {v : Value} {l : List α} (h : OwnB w base bad e k R v l) : ∃ a cap, v = .slice a l.length cap ∧ l.length ≤ cap ∧ cap ≤ maxLen := by
  obtain ⟨qs, ho, _⟩ := h
  rcases ho.2 with ⟨h1, h2⟩ | ⟨g, cap, cur, h1, _, _, h3, h4, _⟩
  · exact ⟨none, 0, by rw [h1, h2], by omega, by simp [maxLen]⟩
  · exact ⟨_, _, h1, h3, h4⟩
theorem OwnB.lt {α : Type} {w : World} {base e k : Nat} {bad : Nat → Prop} {R : (Nat → Prop) → World → α → List Value → Prop} {v : Value} {l : List α} (h : OwnB w base bad e k R v l) : ∀ g, v.ownBlock = some g → base ≤ g ∧ g < w.heap.size := by
  obtain ⟨qs, ho, _⟩ := h
  exact ownsRow_lt ho
/-- The other row has grown. -/
theorem OwnB.other {α : Type} {w w' : World} {base e k : Nat} {u u' : Value} {R : (Nat → Prop) → World → α → List Value → Prop} {v : Value} {l : List α} (hR : Kp R) (h : OwnB w base (fun b => u.ownBlock = some b) e k R v l) (hg : w.grownBy w' u.ownBlock) (hat : u'.ownBlock = u.ownBlock ∨ u'.ownBlock = some w.heap.size) : OwnB w' base (fun b => u'.ownBlock = some b) e k R v l :=
  h.keep hR (fun b hb hbad hlt => ⟨hg.block b hlt (fun e => hbad e.symm), fun q => by
    rcases hat with h | h
    · exact hbad (h ▸ q)
    · rw [h] at q; have : w.heap.size = b := Option.some.inj q; omega⟩)
theorem OwnB.snoc {α : Type} {w w' : World} {base e k lo n : Nat} {bad : Nat → Prop} {R : (Nat → Prop) → World → α → List Value → Prop} {v v' : Value} {l : List α} {p : α} {cs : List Value} {qs : List (List Value)} (hR : Kp R) (hk : cs.length = k)
    (hn : l.length = n) (ho : w.ownsRow base e k v n qs.flatten) (hl : qs.length = l.length) (hr : ∀ (i : Nat) (h : i < l.length) (h' : i < qs.length), (qs[i]).length = k ∧ R (fun b => base ≤ b ∧ v.ownBlock ≠ some b ∧ ¬ bad b) w l[i] qs[i])
    (ho' : w'.ownsRow base e k v' (n + 1) (qs.flatten ++ cs)) (hg : w.grownBy w' v.ownBlock) (hat : v'.ownBlock = v.ownBlock ∨ v'.ownBlock = some w.heap.size)
    (hp : R (fun b => lo ≤ b) w p cs) (hlo : base ≤ lo) (hv : ∀ x, v.ownBlock = some x → x < lo) (hbad : ∀ b, bad b → b < lo ∧ b < w.heap.size) (hvb : ∀ g, v.ownBlock = some g → ¬ bad g) : OwnB w' base bad e k R v' (l ++ [p]) := by
  subst hn
  have key : ∀ b, base ≤ b ∧ v.ownBlock ≠ some b ∧ ¬ bad b → b < w.heap.size → (base ≤ b ∧ v'.ownBlock ≠ some b ∧ ¬ bad b) ∧ w'.heap[b]? = w.heap[b]? := fun b hb hlt => by
    refine ⟨⟨hb.1, fun e => ?_, hb.2.2⟩, hg.block b hlt (fun e => hb.2.1 e.symm)⟩
    rcases hat with h | h
    · exact hb.2.1 (h ▸ e)
    · rw [h] at e; have : w.heap.size = b := Option.some.inj e; omega
  refine ⟨qs ++ [cs], ?_, by simp [hl], fun i h h' => ?_, fun g hg' => ?_⟩
  · rw [List.flatten_append, List.length_append]
    simpa using ho'
  · rcases Nat.lt_or_ge i l.length with hi | hi
    · rw [List.getElem_append_left hi, List.getElem_append_left (by omega)]
      exact ⟨(hr i hi (by omega)).1, hR (hr i hi (by omega)).2 key⟩
    · have : i = l.length := by simp at h; omega
      subst this
      have e1 : (l ++ [p])[l.length] = p := by simp
      have e2 : (qs ++ [cs])[l.length]'h' = cs := by simp [← hl]
      rw [e1, e2]
      exact ⟨hk, hR hp (fun b hb hlt => key b ⟨by omega, fun e => by have := hv b e; omega, fun q => by have := (hbad b q).1; omega⟩ hlt)⟩
  · rcases hat with h | h
    · exact hvb g (h ▸ hg')
    · rw [h] at hg'
      have : w.heap.size = g := Option.some.inj hg'
      intro q
      have := (hbad g q).2
      omega
theorem OwnB.rd {α : Type} {w : World} {base e k : Nat} {bad : Nat → Prop} {R : (Nat → Prop) → World → α → List Value → Prop} {v : Value} {l : List α} (hR : Kp R) (h : OwnB w base bad e k R v l) : RdK (fun b => base ≤ b) w k (R (fun b => base ≤ b) w) l v := by
  obtain ⟨qs, ho, hl, hr, _⟩ := h
  exact OwnK.rd hR ⟨qs, ho, hl, fun i h h' => ⟨(hr i h h').1, hR (hr i h h').2 (fun b hb _ => ⟨⟨hb.1, hb.2.1⟩, rfl⟩)⟩⟩
end Go.Proofs.Ytgpgbingmeehdaa

/- The program's links in memory; New, party, Total, Count, find, and what nil ones answer. -/
namespace Go.Proofs.Ytgpgbingmeehdaa
open Go.RowKit Go.Lib Go.Maps
set_option linter.unusedSimpArgs false
set_option linter.unusedVariables false
attribute [local go_sem ↓] Go.wp_at_zero Go.wp_at_succ

theorem hideL {p : Prop} (h : p) : Hid p := h
/-- As it lies in a row: two numbers, a slice, and what the slice reads as. -/
abbrev L3 (α : Type) := Int × Int × Value × α
section
variable {α : Type}
def el (x : L3 α) : Int × Int × α := (x.1, x.2.1, x.2.2.2)
def cel3 (E : List (L3 α)) : List Value := E.flatMap fun x => [.int .i64 x.1, .int .i64 x.2.1, x.2.2.1]
theorem cel3_cons (x : L3 α) (r : List (L3 α)) : cel3 (x :: r) = .int .i64 x.1 :: .int .i64 x.2.1 :: x.2.2.1 :: cel3 r := rfl
theorem cel3_app (a b : List (L3 α)) : cel3 (a ++ b) = cel3 a ++ cel3 b := List.flatMap_append
theorem cel3_len : ∀ E : List (L3 α), (cel3 E).length = E.length * 3
  | [] => rfl
  | x :: r => by
    rw [cel3_cons]
    simp only [List.length_cons, cel3_len r]
    omega
theorem cel3_at : ∀ {E : List (L3 α)} {i : Nat} {x : L3 α} (h : E[i]? = some x), (cel3 E)[i * 3]? = some (.int .i64 x.1) ∧ (cel3 E)[i * 3 + 1]? = some (.int .i64 x.2.1) ∧ (cel3 E)[i * 3 + 2]? = some x.2.2.1
  | y :: r, 0, x, h => by
    simp only [List.getElem?_cons_zero, Option.some.injEq] at h
    subst h
    exact ⟨rfl, rfl, rfl⟩
  | y :: r, i + 1, x, h => by
    have := cel3_at (E := r) (i := i) (x := x) (by simpa using h)
    rw [cel3_cons]
    have e : (i + 1) * 3 = i * 3 + 3 := by omega
    rw [e]
    exact this
theorem cel3_take (E : List (L3 α)) (i : Nat) : (cel3 E).take (i * 3) = cel3 (E.take i) := by
  induction E generalizing i with
  | nil => simp [cel3]
  | cons x r ih =>
    cases i with
    | zero => simp [cel3]
    | succ i =>
      have e : (i + 1) * 3 = i * 3 + 1 + 1 + 1 := by omega
      rw [cel3_cons, e, List.take_succ_cons, List.take_succ_cons, List.take_succ_cons, ih, List.take_succ_cons, cel3_cons]
theorem cel3_drop (E : List (L3 α)) (i : Nat) : (cel3 E).drop (i * 3) = cel3 (E.drop i) := by
  induction E generalizing i with
  | nil => simp [cel3]
  | cons x r ih =>
    cases i with
    | zero => simp [cel3]
    | succ i =>
      have e : (i + 1) * 3 = i * 3 + 1 + 1 + 1 := by omega
      rw [cel3_cons, e, List.drop_succ_cons, List.drop_succ_cons, List.drop_succ_cons, ih, List.drop_succ_cons]
theorem cel3_set : ∀ {E : List (L3 α)} {i : Nat} {x : L3 α} (v : Value) (b : α), E[i]? = some x → (cel3 E).set (i * 3 + 2) v = cel3 (E.set i (x.1, x.2.1, v, b))
  | y :: r, 0, x, v, b, h => by
    simp only [List.getElem?_cons_zero, Option.some.injEq] at h
    subst h
    rfl
  | y :: r, i + 1, x, v, b, h => by
    have := cel3_set (E := r) (i := i) (x := x) v b (by simpa using h)
    have e : (i + 1) * 3 + 2 = i * 3 + 2 + 1 + 1 + 1 := by omega
    rw [e]
    show _ :: _ :: _ :: (cel3 r).set (i * 3 + 2) v = cel3 (y :: r.set i _)
    rw [cel3_cons, this]
theorem oc_3 {E : List (L3 α)} (hs : ∀ x ∈ E, x.2.2.1.oneCell' = true) : ∀ u ∈ cel3 E, u.oneCell' = true := by
  intro u hu
  unfold cel3 at hu
  obtain ⟨x, hx, hu⟩ := List.mem_flatMap.1 hu
  simp only [List.mem_cons, List.not_mem_nil, or_false] at hu
  rcases hu with rfl | rfl | rfl
  · rfl
  · rfl
  · exact hs x hx
theorem map_el_at {E : List (L3 α)} {i : Nat} {y : Int × Int × α} (h : (E.map el)[i]? = some y) : ∃ x, E[i]? = some x ∧ el x = y := by
  rw [List.getElem?_map] at h
  cases hq : E[i]? with
  | none => rw [hq] at h; cases h
  | some x =>
    rw [hq] at h
    exact ⟨x, rfl, Option.some.inj h⟩
end
/-- The slice reads as these bytes, and lies where it may. -/
structure RB (w : World) (ok : Nat → Prop) (v : Value) (b : List Int) : Prop where
  r : Rd w v b
  o : ∀ g, v.ownBlock = some g → ok g ∧ g < w.heap.size
theorem RB.keep {w w' : World} {ok ok' : Nat → Prop} {v : Value} {b : List Int} (h : RB w ok v b) (hk : ∀ g, ok g → g < w.heap.size → ok' g ∧ w'.heap[g]? = w.heap[g]?) (hs : w.heap.size ≤ w'.heap.size) : RB w' ok' v b := by
  refine ⟨?_, fun g hg => ⟨(hk g (h.o g hg).1 (h.o g hg).2).1, Nat.lt_of_lt_of_le (h.o g hg).2 hs⟩⟩
  have ho := h.o
  obtain ⟨a, cap, rfl, hc, hm, hn, hcell⟩ := h.r
  refine ⟨a, cap, rfl, hc, hm, hn, fun x hx i hi => ?_⟩
  subst hx
  have h1 := hcell x rfl i hi
  have h2 := ho x.block rfl
  have hb : (x.add i).block = x.block := by unfold Addr.add; split <;> rfl
  exact keep_cell (p := x.add i) (by rw [hb]; exact (hk _ h2.1 h2.2).2) h1
theorem RB.one {w : World} {ok : Nat → Prop} {v : Value} {b : List Int} (h : RB w ok v b) : v.oneCell' = true := by
  obtain ⟨a, cap, rfl, _⟩ := h.r
  rfl
/-- The program's links in block X: N parties, the letters' row v. All in blocks of F. -/
structure PL (w : World) (X : Nat) (F : Nat → Prop) (N : Int) (E : List (L3 (List Int))) (v : Value) : Prop where
  x : F X
  c : Bn w X [.int .i64 N, v]
  o : w.ownsRow 0 60 3 v E.length (cel3 E)
  oo : ∀ g, v.ownBlock = some g → F g ∧ g ≠ X
  s : ∀ x ∈ E, RB w (fun g => F g ∧ g ≠ X ∧ v.ownBlock ≠ some g) x.2.2.1 x.2.2.2
def PLM (w : World) (X : Nat) (F : Nat → Prop) (N : Int) (L : List (Int × Int × List Int)) : Prop := ∃ E v, PL w X F N E v ∧ E.map el = L
theorem PL.lt {w : World} {X : Nat} {F : Nat → Prop} {N : Int} {E : List (L3 (List Int))} {v : Value} (h : PL w X F N E v) : X < w.heap.size := h.c.lt
theorem PL.keep {w w' : World} {X : Nat} {F H : Nat → Prop} {N : Int} {E : List (L3 (List Int))} {v : Value} (h : PL w X F N E v) (hk : ∀ b, F b → b < w.heap.size → w'.heap[b]? = w.heap[b]?) (hFH : ∀ j, j < w.heap.size → F j → H j) (hs : w.heap.size ≤ w'.heap.size) : PL w' X H N E v :=
  ⟨hFH X h.lt h.x, h.c.blk (hk X h.x h.lt), ownsRow_keep h.o (fun g hg => hk g (h.oo g hg).1 (ownsRow_lt h.o g hg).2), fun g hg => ⟨hFH g (ownsRow_lt h.o g hg).2 (h.oo g hg).1, (h.oo g hg).2⟩,
    fun x hx => (h.s x hx).keep (fun g hg hlt => ⟨⟨hFH g hlt hg.1, hg.2⟩, hk g hg.1 hlt⟩) hs⟩
theorem PLM.keep {w w' : World} {X : Nat} {F H : Nat → Prop} {N : Int} {L : List (Int × Int × List Int)} (h : PLM w X F N L) (hk : ∀ b, F b → b < w.heap.size → w'.heap[b]? = w.heap[b]?) (hFH : ∀ j, j < w.heap.size → F j → H j) (hs : w.heap.size ≤ w'.heap.size) : PLM w' X H N L := by
  obtain ⟨E, v, h1, h2⟩ := h
  exact ⟨E, v, h1.keep hk hFH hs, h2⟩
theorem PLM.on {w w' : World} {X : Nat} {F : Nat → Prop} {N : Int} {L : List (Int × Int × List Int)} (h : PLM w X F N L) (hb : Below w.heap.size w w') : PLM w' X F N L := h.keep (fun b _ hlt => hb.block b hlt) (fun _ _ h => h) hb.size
theorem PLM.lt {w : World} {X : Nat} {F : Nat → Prop} {N : Int} {L : List (Int × Int × List Int)} (h : PLM w X F N L) : X < w.heap.size := by
  obtain ⟨E, v, h1, h2⟩ := h
  exact h1.lt
theorem own3_form {w : World} {b e n : Nat} {u : Value} {us : List Value} (h : w.ownsRow b e 3 u n us) : ∃ A C, u = .slice A n C ∧ n ≤ C ∧ C ≤ maxLen := by
  rcases h.2 with ⟨h1, h2⟩ | ⟨g, cap, cur, h1, _, _, h3, h4, _⟩
  · exact ⟨none, 0, by rw [h1, h2], by omega, by simp [maxLen]⟩
  · exact ⟨_, _, h1, h3, h4⟩
/-- Where a row of three cells an element lies. -/
theorem own3_at {α : Type} {w : World} {e : Nat} {v : Value} {E : List (L3 α)} (h : w.ownsRow 0 e 3 v E.length (cel3 E)) (hn : 0 < E.length) : ∃ g cap, v = .slice (some ⟨g, 0, none⟩) E.length cap ∧ E.length ≤ cap ∧ cap ≤ maxLen ∧ g < w.heap.size ∧
    (∀ i x, E[i]? = some x → w.cell? ⟨g, i * 3, none⟩ = some (.int .i64 x.1) ∧ w.cell? ⟨g, i * 3 + 1, none⟩ = some (.int .i64 x.2.1) ∧ w.cell? ⟨g, i * 3 + 2, none⟩ = some x.2.2.1) ∧ ∀ j, w.frozen? ⟨g, j, none⟩ = false := by
  have hc := fun g => World.ownsRow.cells h (g := g)
  rcases h.2 with ⟨_, h2⟩ | ⟨g, cap, cur, e, _, hg, h3, h4, _⟩
  · omega
  · refine ⟨g, cap, e, h3, h4, (Array.getElem?_eq_some_iff.1 hg).1, fun i x hi => ?_, fun j => ?_⟩
    · obtain ⟨c0, c1, c2⟩ := cel3_at hi
      have d0 := hc g (by rw [e]; rfl) _ _ c0
      have d1 := hc g (by rw [e]; rfl) _ _ c1
      have d2 := hc g (by rw [e]; rfl) _ _ c2
      rw [add_plain, Nat.zero_add] at d0 d1 d2
      exact ⟨d0, d1, d2⟩
    · rw [e] at h
      exact World.ownsRow.frozenAt h j
def ptN (n : Int) : Int := min (max n 0) 100
theorem lNew_any (w : World) (n : Int) : Calls Try.prog 9 #[.int .i64 n] w fun e w' => e = .returned (.pointer (some ⟨w.heap.size, 0, none⟩)) ∧ PLM w' w.heap.size (fun j => j = w.heap.size) (ptN n) [] ∧ Below w.heap.size w w' := by
  have hp : ∀ m : Int, m = ptN n → PLM (w.alloc (.cells #[.int .i64 m, .slice none 0 0] 47)) w.heap.size (fun j => j = w.heap.size) (ptN n) [] := fun m hm => by
    subst hm
    exact ⟨[], _, ⟨rfl, Bn.new w [.int .i64 (ptN n), .slice none 0 0] _ _ rfl, World.ownsRow_nil _ 0 60 3, fun g hg => (by simp [Value.ownBlock] at hg), fun x hx => (by simp at hx)⟩, rfl⟩
  have hm : min (max n 0) 100 = ptN n := rfl
  by_cases hn : n < 0
  · have hmx : max n 0 = 0 := by omega
    go_enter Try.func9, Try.ntmps9
    go_wp2
    go_ret
    exact ⟨rfl, hp _ (by unfold ptN; omega), (Below.refl _ _).alloc (Nat.le_refl _) _⟩
  · by_cases h1 : 100 < n
    · have h2 : ¬ n < 100 := by omega
      go_enter Try.func9, Try.ntmps9
      go_wp2
      go_ret
      exact ⟨rfl, hp _ (by unfold ptN; omega), (Below.refl _ _).alloc (Nat.le_refl _) _⟩
    · go_enter Try.func9, Try.ntmps9
      go_wp2
      go_ret
      exact ⟨rfl, hp _ (by unfold ptN; omega), (Below.refl _ _).alloc (Nat.le_refl _) _⟩
theorem lParty_any {w : World} {X : Nat} {F : Nat → Prop} {N : Int} {L : List (Int × Int × List Int)} (h : PLM w X F N L) (n : Int) :
    Calls Try.prog 25 #[.pointer (some ⟨X, 0, none⟩), .int .i64 n] w fun e w' => e = .returned (.bool (decide (0 ≤ n ∧ n < N))) ∧ w' = w := by
  obtain ⟨E, v, h, rfl⟩ := h
  obtain ⟨c0, f0⟩ := h.c 0 _ rfl
  clear h
  by_cases h1 : 0 ≤ n
  · have h1' : n ≥ 0 := h1
    by_cases h2 : n < N
    · rw [decide_eq_true (And.intro h1 h2)]
      go_enter Try.func25, Try.ntmps25
      go_wp2
      go_ret
      exact ⟨rfl, rfl⟩
    · rw [decide_eq_false (fun e => h2 e.2)]
      go_enter Try.func25, Try.ntmps25
      go_wp2
      go_ret
      exact ⟨rfl, rfl⟩
  · have h1' : ¬ n ≥ 0 := h1
    rw [decide_eq_false (fun e => h1 e.1)]
    go_enter Try.func25, Try.ntmps25
    go_wp2
    go_ret
    exact ⟨rfl, rfl⟩
theorem lTotal_any {w : World} {X : Nat} {F : Nat → Prop} {N : Int} {L : List (Int × Int × List Int)} (h : PLM w X F N L) :
    Calls Try.prog 21 #[.pointer (some ⟨X, 0, none⟩)] w fun e w' => e = .returned (.int .i64 (L.length : Int)) ∧ w' = w := by
  obtain ⟨E, v, h, rfl⟩ := h
  obtain ⟨c1, f1⟩ := h.c 1 _ rfl
  obtain ⟨a, cap, rfl, _, _⟩ := own3_form h.o
  rw [List.length_map]
  clear h
  go_enter Try.func21, Try.ntmps21
  go_wp2
  go_ret
  exact ⟨rfl, rfl⟩
end Go.Proofs.Ytgpgbingmeehdaa
