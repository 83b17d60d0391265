import Derived.Test.YtpblcahcpobicaaXmc02
import Derived.Maps.OwnSet
import Derived.Maps.Views
import Derived.Carry
import Derived.WalkSmall

/- Blocks of n cells; rows of k cells an element, read, and the call's own. -/
namespace Go.Proofs.Ytpblcahcpobicaa
open Go.RowKit Go.Lib
set_option linter.unusedSimpArgs false
set_option linter.unusedVariables false

/-- A block of cells that may be written. -/
def Bn (w : World) (Y : Nat) (cs : List Value) : Prop := ∀ j u, cs[j]? = some u → w.cell? ⟨Y, j, none⟩ = some u ∧ w.frozen? ⟨Y, j, none⟩ = false
theorem Bn.lt {w : World} {Y : Nat} {c : Value} {cs : List Value} (h : Bn w Y (c :: cs)) : Y < w.heap.size := World.block_lt_of_cell? w _ (h 0 c rfl).1
theorem frozen_of_block {w w' : World} {Y j : Nat} (h : w'.heap[Y]? = w.heap[Y]?) : w'.frozen? ⟨Y, j, none⟩ = w.frozen? ⟨Y, j, none⟩ := by
  unfold World.frozen?
  rw [h]
theorem Bn.blk {w w' : World} {Y : Nat} {cs : List Value} (h : Bn w Y cs) (hb : w'.heap[Y]? = w.heap[Y]?) : Bn w' Y cs := fun j u hu =>
  ⟨keep_cell (p := ⟨Y, j, none⟩) hb (h j u hu).1, (frozen_of_block hb).trans (h j u hu).2⟩
theorem Bn.on {w w' : World} {Y : Nat} {c : Value} {cs : List Value} (h : Bn w Y (c :: cs)) (hb : Below w.heap.size w w') : Bn w' Y (c :: cs) := h.blk (hb.block Y h.lt)
theorem Bn.fx {w w' : World} {X Y : Nat} {c : Value} {cs : List Value} (h : Bn w Y (c :: cs)) (hf : Fx X w w') (hne : Y ≠ X) : Bn w' Y (c :: cs) := h.blk (hf.block Y h.lt (fun e => hne (Option.some.inj e)))
theorem Bn.far {w : World} {Y X i : Nat} {cs : List Value} (h : Bn w Y cs) (hne : X ≠ Y) (v : Value) : Bn (w.setCell ⟨X, i, none⟩ v) Y cs := h.blk (Below.heap_setCell _ _ _ _ (fun e => hne e.symm))
theorem Bn.set {w : World} {Y i : Nat} {cs : List Value} (h : Bn w Y cs) (hi : i < cs.length) (v : Value) : Bn (w.setCell ⟨Y, i, none⟩ v) Y (cs.set i v) := fun j u hu => by
  refine ⟨?_, (World.frozen?_setCell _ _ _ _).trans ?_⟩
  · by_cases hj : i = j
    · subst hj
      rw [List.getElem?_set_self hi] at hu
      obtain rfl := Option.some.inj hu
      exact cell_same4 (h i _ (List.getElem?_eq_getElem hi)).1
    · rw [List.getElem?_set_ne hj] at hu
      exact cell_far4 (by omega) (h j u hu).1
  · have hl : j < cs.length := by
      have := (List.getElem?_eq_some_iff.1 hu).1
      rwa [List.length_set] at this
    exact (h j _ (List.getElem?_eq_getElem hl)).2
theorem Bn.drew {w : World} {Y : Nat} {cs : List Value} (h : Bn w Y cs) : Bn w.drew Y cs := h
theorem Bn.new (w : World) (cs : List Value) (t : TypeId) (n : Nat) (hn : n = w.heap.size) : Bn (w.alloc (.cells cs.toArray t)) n cs := by
  subst hn
  intro j u hu
  refine ⟨?_, by simp⟩
  rw [World.cell?_alloc_new]
  simpa using hu

/-- The slice v reads as the list l, k cells an element. -/
def RdK {α : Type} (ok : Nat → Prop) (w : World) (k : Nat) (R : α → List Value → Prop) (l : List α) (v : Value) : Prop :=
  ∃ a cap, v = .slice a l.length cap ∧ l.length ≤ cap ∧ cap ≤ maxLen ∧
    ∀ (i : Nat) (hi : i < l.length), ∃ b off cs, a = some ⟨b, off, none⟩ ∧ ok b ∧ b < w.heap.size ∧ cs.length = k ∧ R l[i] cs ∧ ∀ j u, cs[j]? = some u → w.cell? ⟨b, off + i * k + j, none⟩ = some u
theorem rdK_none {α : Type} (ok : Nat → Prop) (w : World) (k : Nat) (R : α → List Value → Prop) : RdK ok w k R [] (.slice none 0 0) := ⟨none, 0, rfl, by simp, by simp [maxLen], fun i hi => absurd hi (by simp)⟩
theorem RdK.keep {α : Type} {ok ok' : Nat → Prop} {w w' : World} {k : Nat} {R R' : α → List Value → Prop} {l : List α} {v : Value} (h : RdK ok w k R l v) (hR : ∀ x ∈ l, ∀ u, R x u → R' x u) (hk : ∀ b, ok b → b < w.heap.size → ok' b ∧ w'.heap[b]? = w.heap[b]?) : RdK ok' w' k R' l v := by
  obtain ⟨a, cap, rfl, hc, hm, hcell⟩ := h
  refine ⟨a, cap, rfl, hc, hm, fun i hi => ?_⟩
  obtain ⟨b, off, cs, ha, ho, hb, hl, hr, hcs⟩ := hcell i hi
  obtain ⟨ho', hs⟩ := hk _ ho hb
  refine ⟨b, off, cs, ha, ho', ?_, hl, hR _ (List.getElem_mem hi) _ hr, fun j u hu => keep_cell (p := ⟨b, off + i * k + j, none⟩) hs (hcs j u hu)⟩
  rcases Nat.lt_or_ge b w'.heap.size with h | h
  · exact h
  · rw [Array.getElem?_eq_none h, Array.getElem?_eq_getElem hb] at hs
    cases hs
theorem RdK.form {α : Type} {ok : Nat → Prop} {w : World} {k : Nat} {R : α → List Value → Prop} {l : List α} {v : Value} (h : RdK ok w k R l v) : ∃ a cap, v = .slice a l.length cap ∧ l.length ≤ cap ∧ cap ≤ maxLen := by
  obtain ⟨a, cap, h1, h2, h3, _⟩ := h
  exact ⟨a, cap, h1, h2, h3⟩
/-- A reading that stays where its blocks stay. -/
def Kp {α : Type} (R : (Nat → Prop) → World → α → List Value → Prop) : Prop := ∀ ⦃ok ok' : Nat → Prop⦄ ⦃w w' : World⦄ ⦃x : α⦄ ⦃cs : List Value⦄, R ok w x cs → (∀ b, ok b → b < w.heap.size → ok' b ∧ w'.heap[b]? = w.heap[b]?) → R ok' w' x cs
/-- The slice v is the call's own, from block base on, of k cells an element, and holds l; what lies behind its cells lies apart. -/
def OwnK {α : Type} (w : World) (base e k : Nat) (R : (Nat → Prop) → World → α → List Value → Prop) (v : Value) (l : List α) : Prop :=
  ∃ qs : List (List Value), w.ownsRow base e k v l.length qs.flatten ∧ qs.length = l.length ∧ ∀ (i : Nat) (h : i < l.length) (h' : i < qs.length), (qs[i]).length = k ∧ R (fun b => base ≤ b ∧ v.ownBlock ≠ some b) w l[i] qs[i]
theorem ownK_nil {α : Type} (w : World) (base e k : Nat) (R : (Nat → Prop) → World → α → List Value → Prop) : OwnK w base e k R (.slice none 0 0) [] := ⟨[], World.ownsRow_nil w base e k, rfl, fun i h => absurd h (by simp)⟩
theorem OwnK.keep {α : Type} {w w' : World} {base e k : Nat} {R : (Nat → Prop) → World → α → List Value → Prop} {v : Value} {l : List α} (hR : Kp R) (h : OwnK w base e k R v l) (hk : ∀ b, base ≤ b → b < w.heap.size → w'.heap[b]? = w.heap[b]?) : OwnK w' base e k R v l := by
  obtain ⟨qs, ho, hl, hr⟩ := h
  refine ⟨qs, ownsRow_keep ho (fun g hg => ?_), hl, fun i h h' => ⟨(hr i h h').1, hR (hr i h h').2 (fun b hb hlt => ⟨hb, hk b hb.1 hlt⟩)⟩⟩
  obtain ⟨a, b⟩ := ownsRow_lt ho g hg
  exact hk g a b
theorem OwnK.on {α : Type} {w w' : World} {base e k : Nat} {R : (Nat → Prop) → World → α → List Value → Prop} {v : Value} {l : List α} (hR : Kp R) (h : OwnK w base e k R v l) (hb : Below w.heap.size w w') : OwnK w' base e k R v l := h.keep hR (fun b _ hlt => hb.block b hlt)
theorem OwnK.fx {α : Type} {w w' : World} {base e k X : Nat} {R : (Nat → Prop) → World → α → List Value → Prop} {v : Value} {l : List α} (hR : Kp R) (h : OwnK w base e k R v l) (hf : Fx X w w') (hX : X < base) : OwnK w' base e k R v l :=
  h.keep hR (fun b hb hlt => hf.block b hlt (fun e => by have : b = X := Option.some.inj e; omega))
theorem OwnK.set {α : Type} {w : World} {base e k : Nat} {R : (Nat → Prop) → World → α → List Value → Prop} {v : Value} {l : List α} (hR : Kp R) (h : OwnK w base e k R v l) {X i : Nat} (hX : X < base) (u : Value) : OwnK (w.setCell ⟨X, i, none⟩ u) base e k R v l :=
  h.keep hR (fun b hb _ => Below.heap_setCell _ _ _ _ (fun e => by have : b = X := e; omega))
theorem OwnK.form {α : Type} {w : World} {base e k : Nat} {R : (Nat → Prop) → World → α → List Value → Prop} {v : Value} {l : List α} (h : OwnK w base e k R v l) : ∃ a cap, v = .slice a l.length cap ∧ l.length ≤ cap ∧ cap ≤ maxLen := by
  obtain ⟨qs, ho, _⟩ := h
  rcases ho.2 with ⟨h1, h2⟩ | ⟨g, cap, cur, h1, _, _, h3, h4, _⟩
  · exact ⟨none, 0, by rw [h1, h2], by omega, by simp [maxLen]⟩
  · exact ⟨_, _, h1, h3, h4⟩
/-- One more. The new one's memory lies from lo on, and the old row's block below. -/
theorem OwnK.snoc {α : Type} {w w' : World} {base e k lo n : Nat} {R : (Nat → Prop) → World → α → List Value → Prop} {v v' : Value} {l : List α} {p : α} {cs : List Value} {qs : List (List Value)} (hR : Kp R) (hk : cs.length = k)
    (hn : l.length = n) (ho : w.ownsRow base e k v n qs.flatten) (hl : qs.length = l.length) (hr : ∀ (i : Nat) (h : i < l.length) (h' : i < qs.length), (qs[i]).length = k ∧ R (fun b => base ≤ b ∧ v.ownBlock ≠ some b) w l[i] qs[i])
    (ho' : w'.ownsRow base e k v' (n + 1) (qs.flatten ++ cs)) (hg : w.grownBy w' v.ownBlock) (hat : v'.ownBlock = v.ownBlock ∨ v'.ownBlock = some w.heap.size)
    (hp : R (fun b => lo ≤ b) w p cs) (hlo : base ≤ lo) (hv : ∀ x, v.ownBlock = some x → x < lo) : OwnK w' base e k R v' (l ++ [p]) := by
  subst hn
  have key : ∀ b, base ≤ b ∧ v.ownBlock ≠ some b → b < w.heap.size → (base ≤ b ∧ v'.ownBlock ≠ some b) ∧ w'.heap[b]? = w.heap[b]? := fun b hb hlt => by
    refine ⟨⟨hb.1, fun e => ?_⟩, hg.block b hlt (fun e => hb.2 e.symm)⟩
    rcases hat with h | h
    · exact hb.2 (h ▸ e)
    · rw [h] at e; have : w.heap.size = b := Option.some.inj e; omega
  refine ⟨qs ++ [cs], ?_, by simp [hl], fun i h h' => ?_⟩
  · rw [List.flatten_append, List.length_append]
    simpa using ho'
  · rcases Nat.lt_or_ge i l.length with hi | hi
    · rw [List.getElem_append_left hi, List.getElem_append_left (by omega)]
      exact ⟨(hr i hi (by omega)).1, hR (hr i hi (by omega)).2 key⟩
    · have : i = l.length := by simp at h; omega
      subst this
      have e1 : (l ++ [p])[l.length] = p := by simp
      have e2 : (qs ++ [cs])[l.length]'h' = cs := by simp [← hl]
      rw [e1, e2]
      exact ⟨hk, hR hp (fun b hb hlt => key b ⟨by omega, fun e => by have := hv b e; omega⟩ hlt)⟩
theorem flat_at {k : Nat} : ∀ (qs : List (List Value)) (i j : Nat) (h : i < qs.length) (u : Value), (∀ (i : Nat) (h : i < qs.length), (qs[i]).length = k) → (qs[i])[j]? = some u → qs.flatten[i * k + j]? = some u
  | [], i, j, h, u, _, _ => by simp at h
  | x :: t, 0, j, h, u, hk, hu => by
    have hu' : x[j]? = some u := hu
    have hj := (List.getElem?_eq_some_iff.1 hu').1
    rw [List.flatten_cons, Nat.zero_mul, Nat.zero_add, List.getElem?_append_left hj]
    exact hu'
  | x :: t, i + 1, j, h, u, hk, hu => by
    have hx : x.length = k := hk 0 (by simp)
    have e : (i + 1) * k + j = x.length + (i * k + j) := by rw [hx, Nat.succ_mul]; omega
    rw [List.flatten_cons, e, List.getElem?_append_right (by omega), Nat.add_sub_cancel_left]
    exact flat_at t i j (by simpa using h) u (fun i h => hk (i + 1) (by simpa using h)) hu
/-- It reads as the list. -/
theorem OwnK.rd {α : Type} {w : World} {base e k : Nat} {R : (Nat → Prop) → World → α → List Value → Prop} {v : Value} {l : List α} (hR : Kp R) (h : OwnK w base e k R v l) : RdK (fun b => base ≤ b) w k (R (fun b => base ≤ b) w) l v := by
  obtain ⟨qs, ho, hl, hr⟩ := h
  have hc := fun g => World.ownsRow.cells ho (g := g)
  rcases ho.2 with ⟨rfl, hn⟩ | ⟨g, cap, cur, rfl, hb, hg, hnc, hcm, hcs, htake⟩
  · have hx : l = [] := List.eq_nil_of_length_eq_zero hn
    subst hx
    exact rdK_none _ w k _
  · refine ⟨some ⟨g, 0, none⟩, cap, rfl, hnc, hcm, fun i hi => ⟨g, 0, qs[i], rfl, hb, (Array.getElem?_eq_some_iff.1 hg).1, (hr i hi (by omega)).1, hR (hr i hi (by omega)).2 (fun b hb _ => ⟨hb.1, rfl⟩), fun j u hu => ?_⟩⟩
    have := hc g rfl (i * k + j) u (flat_at qs i j (by omega) u (fun i h => (hr i (by omega) h).1) hu)
    rw [add_plain] at this
    rw [Nat.zero_add]
    rwa [Nat.zero_add] at this
theorem RdK.stay {α : Type} {ok ok' : Nat → Prop} {w w' : World} {k : Nat} {R : (Nat → Prop) → World → α → List Value → Prop} {v : Value} {l : List α} (hR : Kp R) (h : RdK ok w k (R ok w) l v) (hk : ∀ b, ok b → b < w.heap.size → ok' b ∧ w'.heap[b]? = w.heap[b]?) : RdK ok' w' k (R ok' w') l v :=
  h.keep (fun x _ u hu => hR hu hk) hk

theorem cells_new {w : World} {cs : List Value} {e : TypeId} : ∀ j u, cs[j]? = some u → (w.alloc (.cells cs.toArray e)).cell? ((⟨w.heap.size, 0, none⟩ : Addr).add j) = some u := fun j u hu => by
  rw [add_plain, Nat.zero_add]
  exact (Bn.new w cs e _ rfl j u hu).1
theorem src_row {P : Program} {t e : TypeId} (ht : P.underlying t = some (.slice e)) (w : World) {k : Nat} (cs : List Value) (hk : cs.length = k) (h1 : ∀ u ∈ cs, u.oneCell' = true) : Src P k t (.slice (some ⟨w.heap.size, 0, none⟩) 1 1) 1 cs (w.alloc (.cells cs.toArray e)) :=
  Src.ofSlice _ ht _ 1 1 _ (by rw [Nat.one_mul]; exact hk) cells_new h1
theorem step_push {α : Type} {P : Program} (w : World) {ops : Array Oper} {o : Oper} {a : Act} {K : Act → World → Prop} {Q : Exit → Act → World → Prop} {E : Prop} (hgd : o.guard = none) (s x : Operand) (t : TypeId)
    (ho : o.op = .call { callee := .builtin .append, args := #[s, x], argTypes := #[t, t] })
    (base : Nat) (e : TypeId) (i : TypeInfo) (z : Value) (k bytes : Nat) (ht : P.underlying t = some (.slice e)) (hi : P.info? e = some i) (hz : i.zero = some z)
    (hsize : i.size = k) (hby : i.bytes = bytes) (hzs : z.cells.size = k) {R : (Nat → Prop) → World → α → List Value → Prop} (hR : Kp R)
    (v : Value) (l : List α) (p : α) (cs : List Value) (lo : Nat) (hs : a.eval s = v) (hx : a.eval x = .slice (some ⟨w.heap.size, 0, none⟩) 1 1) (hk : cs.length = k) (h1 : ∀ u ∈ cs, u.oneCell' = true)
    (hown : OwnK w base e k R v l) (hp : R (fun b => lo ≤ b) w p cs) (hlo : base ≤ lo) (hv : ∀ x, v.ownBlock = some x → x < lo) (hroom : (l.length + 1 + (l.length + 1) / 4 + 192) * bytes ≤ 281474976710656)
    (h63 : l.length + 1 ≤ maxLen) (hbase : base ≤ w.heap.size)
    (h : ∀ v' w', OwnK w' base e k R v' (l ++ [p]) → (w.alloc (.cells cs.toArray e)).grownBy w' v.ownBlock → Below base w w' → K (a.put o.dst v') w') :
    if Region.wanted o (yielded ops a.tmps) = true then Oper.wp P o a (w.alloc (.cells cs.toArray e)) K Q else E := by
  have hal : Below w.heap.size w (w.alloc (.cells cs.toArray e)) := (Below.refl _ _).alloc (Nat.le_refl _) _
  obtain ⟨qs, ho1, hl1, hr1⟩ := hown.on hR hal
  refine step_append_at _ hgd s x t t ho base e i z k bytes ht hi hz hsize hby hzs v l.length qs.flatten hs ho1 _ 1 cs hx (src_row ht w cs hk h1) 1 (.inr hroom) (Nat.le_refl _) h63 (Nat.le_trans hbase hal.size) ?_
  intro v' w' hown' hg hat
  refine h v' w' (OwnK.snoc hR hk rfl ho1 hl1 hr1 hown' hg hat (hR hp (fun b hb hlt => ⟨hb, hal.block b hlt⟩)) hlo hv) hg ?_
  exact ((Below.refl base w).alloc hbase _).grown hg (Nat.le_trans hbase hal.size) (fun k hk => (World.ownsRow.lt ho1 k hk).1)
/-- Nothing but two blocks has turned, and new blocks. -/
structure Fy (X Y : Nat) (w w' : World) : Prop where
  os : w'.os = w.os
  tape : w'.tape = w.tape
  output : w'.output = w.output
  size : w.heap.size ≤ w'.heap.size
  block : ∀ k, k < w.heap.size → k ≠ X → k ≠ Y → w'.heap[k]? = w.heap[k]?
theorem Fy.of {X Y : Nat} {a b : World} (h : Fx X a b) : Fy X Y a b := ⟨h.os, h.tape, h.output, h.size, fun k hk h1 _ => h.block k hk (fun e => h1 (Option.some.inj e))⟩
theorem Fy.trans {X Y : Nat} {a b c : World} (h : Fy X Y a b) (k : Fy X Y b c) : Fy X Y a c :=
  ⟨k.os.trans h.os, k.tape.trans h.tape, k.output.trans h.output, Nat.le_trans h.size k.size, fun j hj h1 h2 => (k.block j (Nat.lt_of_lt_of_le hj h.size) h1 h2).trans (h.block j hj h1 h2)⟩
theorem Fy.setY {X Y i : Nat} {a b : World} (h : Fy X Y a b) (u : Value) : Fy X Y a (b.setCell ⟨Y, i, none⟩ u) :=
  ⟨h.os, h.tape, h.output, by simpa using h.size, fun k hk h1 h2 => (Below.heap_setCell _ _ _ _ (fun e => h2 e)).trans (h.block k hk h1 h2)⟩

/-- As OwnK; nothing of it lies in a block that is bad. -/
def OwnB {α : Type} (w : World) (base : Nat) (bad : Nat → Prop) (e k : Nat) (R : (Nat → Prop) → World → α → List Value → Prop) (v : Value) (l : List α) : Prop :=
  ∃ qs : List (List Value), w.ownsRow base e k v l.length qs.flatten ∧ qs.length = l.length ∧ (∀ (i : Nat) (h : i < l.length) (h' : i < qs.length), (qs[i]).length = k ∧ R (fun b => base ≤ b ∧ v.ownBlock ≠ some b ∧ ¬ bad b) w l[i] qs[i]) ∧ ∀ g, v.ownBlock = some g → ¬ bad g
theorem OwnB.keep {α : Type} {w w' : World} {base e k : Nat} {bad bad' : Nat → Prop} {R : (Nat → Prop) → World → α → List Value → Prop} {v : Value} {l : List α} (hR : Kp R) (h : OwnB w base bad e k R v l) (hk : ∀ b, base ≤ b → ¬ bad b → b < w.heap.size → w'.heap[b]? = w.heap[b]? ∧ ¬ bad' b) : OwnB w' base bad' e k R v l := by
  obtain ⟨qs, ho, hl, hr, hg0⟩ := h
  refine ⟨qs, ownsRow_keep ho (fun g hg => ?_), hl, fun i h h' => ⟨(hr i h h').1, hR (hr i h h').2 (fun b hb hlt => ⟨⟨hb.1, hb.2.1, (hk b hb.1 hb.2.2 hlt).2⟩, (hk b hb.1 hb.2.2 hlt).1⟩)⟩, fun g hg => ?_⟩
  · obtain ⟨a, b⟩ := ownsRow_lt ho g hg
    exact (hk g a (hg0 g hg) b).1
  · obtain ⟨a, b⟩ := ownsRow_lt ho g hg
    exact (hk g a (hg0 g hg) b).2
theorem OwnB.on {α : Type} {w w' : World} {base e k : Nat} {bad : Nat → Prop} {R : (Nat → Prop) → World → α → List Value → Prop} {v : Value} {l : List α} (hR : Kp R) (h : OwnB w base bad e k R v l) (hb : Below w.heap.size w w') : OwnB w' base bad e k R v l := h.keep hR (fun b _ hbad hlt => ⟨hb.block b hlt, hbad⟩)
theorem OwnB.fx {α : Type} {w w' : World} {base e k X : Nat} {bad : Nat → Prop} {R : (Nat → Prop) → World → α → List Value → Prop} {v : Value} {l : List α} (hR : Kp R) (h : OwnB w base bad e k R v l) (hf : Fx X w w') (hX : X < base) : OwnB w' base bad e k R v l :=
  h.keep hR (fun b hb hbad hlt => ⟨hf.block b hlt (fun e => by have : b = X := Option.some.inj e; omega), hbad⟩)
theorem OwnB.set {α : Type} {w : World} {base e k : Nat} {bad : Nat → Prop} {R : (Nat → Prop) → World → α → List Value → Prop} {v : Value} {l : List α} (hR : Kp R) (h : OwnB w base bad e k R v l) {X i : Nat} (hX : X < base) (u : Value) : OwnB (w.setCell ⟨X, i, none⟩ u) base bad e k R v l :=
  h.keep hR (fun b hb hbad _ => ⟨Below.heap_setCell _ _ _ _ (fun e => by have : b = X := e; omega), hbad⟩)
theorem OwnB.form {α : Type} {w : World} {base e k : Nat} {bad : Nat → Prop} {R : (Nat → Prop) → World → α → List Value → Prop} {v : Value} {l : List α} (h : OwnB w base bad e k R v l) : ∃ a cap, v = .slice a l.length cap ∧ l.length ≤ cap ∧ cap ≤ maxLen := by
  obtain ⟨qs, ho, _⟩ := h
  rcases ho.2 with ⟨h1, h2⟩ | ⟨g, cap, cur, h1, _, _, h3, h4, _⟩
  · exact ⟨none, 0, by rw [h1, h2], by omega, by simp [maxLen]⟩
  · exact ⟨_, _, h1, h3, h4⟩
theorem OwnB.lt {α : Type} {w : World} {base e k : Nat} {bad : Nat → Prop} {R : (Nat → Prop) → World → α → List Value → Prop} {v : Value} {l : List α} (h : OwnB w base bad e k R v l) : ∀ g, v.ownBlock = some g → base ≤ g ∧ g < w.heap.size := by
  obtain ⟨qs, ho, _⟩ := h
  exact ownsRow_lt ho
/-- The other row has grown. -/
theorem OwnB.other {α : Type} {w w' : World} {base e k : Nat} {u u' : Value} {R : (Nat → Prop) → World → α → List Value → Prop} {v : Value} {l : List α} (hR : Kp R) (h : OwnB w base (fun b => u.ownBlock = some b) e k R v l) (hg : w.grownBy w' u.ownBlock) (hat : u'.ownBlock = u.ownBlock ∨ u'.ownBlock = some w.heap.size) : OwnB w' base (fun b => u'.ownBlock = some b) e k R v l :=
  h.keep hR (fun b hb hbad hlt => ⟨hg.block b hlt (fun e => hbad e.symm), fun q => by
    rcases hat with h | h
    · exact hbad (h ▸ q)
    · rw [h] at q; have : w.heap.size = b := Option.some.inj q; omega⟩)
theorem OwnB.snoc {α : Type} {w w' : World} {base e k lo n : Nat} {bad : Nat → Prop} {R : (Nat → Prop) → World → α → List Value → Prop} {v v' : Value} {l : List α} {p : α} {cs : List Value} {qs : List (List Value)} (hR : Kp R) (hk : cs.length = k)
    (hn : l.length = n) (ho : w.ownsRow base e k v n qs.flatten) (hl : qs.length = l.length) (hr : ∀ (i : Nat) (h : i < l.length) (h' : i < qs.length), (qs[i]).length = k ∧ R (fun b => base ≤ b ∧ v.ownBlock ≠ some b ∧ ¬ bad b) w l[i] qs[i])
    (ho' : w'.ownsRow base e k v' (n + 1) (qs.flatten ++ cs)) (hg : w.grownBy w' v.ownBlock) (hat : v'.ownBlock = v.ownBlock ∨ v'.ownBlock = some w.heap.size)
    (hp : R (fun b => lo ≤ b) w p cs) (hlo : base ≤ lo) (hv : ∀ x, v.ownBlock = some x → x < lo) (hbad : ∀ b, bad b → b < lo ∧ b < w.heap.size) (hvb : ∀ g, v.ownBlock = some g → ¬ bad g) : OwnB w' base bad e k R v' (l ++ [p]) := by
  subst hn
  have key : ∀ b, base ≤ b ∧ v.ownBlock ≠ some b ∧ ¬ bad b → b < w.heap.size → (base ≤ b ∧ v'.ownBlock ≠ some b ∧ ¬ bad b) ∧ w'.heap[b]? = w.heap[b]? := fun b hb hlt => by
    refine ⟨⟨hb.1, fun e => ?_, hb.2.2⟩, hg.block b hlt (fun e => hb.2.1 e.symm)⟩
    rcases hat with h | h
    · exact hb.2.1 (h ▸ e)
    · rw [h] at e; have : w.heap.size = b := Option.some.inj e; omega
  refine ⟨qs ++ [cs], ?_, by simp [hl], fun i h h' => ?_, fun g hg' => ?_⟩
  · rw [List.flatten_append, List.length_append]
    simpa using ho'
  · rcases Nat.lt_or_ge i l.length with hi | hi
    · rw [List.getElem_append_left hi, List.getElem_append_left (by omega)]
      exact ⟨(hr i hi (by omega)).1, hR (hr i hi (by omega)).2 key⟩
    · have : i = l.length := by simp at h; omega
      subst this
      have e1 : (l ++ [p])[l.length] = p := by simp
      have e2 : (qs ++ [cs])[l.length]'h' = cs := by simp [← hl]
      rw [e1, e2]
      exact ⟨hk, hR hp (fun b hb hlt => key b ⟨by omega, fun e => by have := hv b e; omega, fun q => by have := (hbad b q).1; omega⟩ hlt)⟩
  · rcases hat with h | h
    · exact hvb g (h ▸ hg')
    · rw [h] at hg'
      have : w.heap.size = g := Option.some.inj hg'
      intro q
      have := (hbad g q).2
      omega
theorem OwnB.rd {α : Type} {w : World} {base e k : Nat} {bad : Nat → Prop} {R : (Nat → Prop) → World → α → List Value → Prop} {v : Value} {l : List α} (hR : Kp R) (h : OwnB w base bad e k R v l) : RdK (fun b => base ≤ b) w k (R (fun b => base ≤ b) w) l v := by
  obtain ⟨qs, ho, hl, hr, _⟩ := h
  exact OwnK.rd hR ⟨qs, ho, hl, fun i h h' => ⟨(hr i h h').1, hR (hr i h h').2 (fun b hb _ => ⟨⟨hb.1, hb.2.1⟩, rfl⟩)⟩⟩
/-- Cells written one behind the other. -/
def putL (w : World) (g : Nat) : Nat → List Value → World
  | _, [] => w
  | o, c :: cs => putL (w.setCell ⟨g, o, none⟩ c) g (o + 1) cs
theorem putL_own : ∀ (cs zs xs ys : List Value) (w : World) (base e k : Nat) (g n cap o : Nat), zs.length = cs.length → xs.length = o → w.ownsRow base e k (.slice (some ⟨g, 0, none⟩) n cap) n (xs ++ zs ++ ys) → (putL w g o cs).ownsRow base e k (.slice (some ⟨g, 0, none⟩) n cap) n (xs ++ cs ++ ys)
  | [], zs, xs, ys, w, base, e, k, g, n, cap, o, hz, hx, h => by
    have : zs = [] := List.eq_nil_of_length_eq_zero (by simpa using hz)
    subst this
    exact h
  | c :: cs, [], xs, ys, w, base, e, k, g, n, cap, o, hz, hx, h => by simp at hz
  | c :: cs, z :: zs, xs, ys, w, base, e, k, g, n, cap, o, hz, hx, h => by
    have h1 := (World.ownsRow.stored h o c).1
    have e1 : (xs ++ z :: zs ++ ys).set o c = (xs ++ [c]) ++ zs ++ ys := by
      subst hx
      simp
    rw [e1] at h1
    have h2 := putL_own cs zs (xs ++ [c]) ys _ base e k g n cap (o + 1) (by simpa using hz) (by simp [hx]) h1
    have e2 : xs ++ [c] ++ cs ++ ys = xs ++ (c :: cs) ++ ys := by simp
    rw [e2] at h2
    exact h2
theorem putL_heap : ∀ (cs : List Value) (w : World) (g o k : Nat), k ≠ g → (putL w g o cs).heap[k]? = w.heap[k]?
  | [], w, g, o, k, h => rfl
  | c :: cs, w, g, o, k, h => by
    unfold putL
    rw [putL_heap cs _ g (o + 1) k h]
    exact Below.heap_setCell _ _ _ _ (fun e => h e)

/-- The row v', of l and a zero element. -/
def ZR {α : Type} (w : World) (base : Nat) (bad : Nat → Prop) (e k : Nat) (R : (Nat → Prop) → World → α → List Value → Prop) (zs : List Value) (g cap : Nat) (l : List α) : Prop :=
  base ≤ g ∧ g < w.heap.size ∧ ¬ bad g ∧ ∃ qs : List (List Value), w.ownsRow base e k (.slice (some ⟨g, 0, none⟩) (l.length + 1) cap) (l.length + 1) (qs.flatten ++ zs) ∧ qs.length = l.length ∧ ∀ (i : Nat) (h : i < l.length) (h' : i < qs.length), (qs[i]).length = k ∧ R (fun b => base ≤ b ∧ g ≠ b ∧ ¬ bad b) w l[i] qs[i]
theorem ZR.keep {α : Type} {w w' : World} {base e k g cap : Nat} {bad : Nat → Prop} {R : (Nat → Prop) → World → α → List Value → Prop} {zs : List Value} {l : List α} (hR : Kp R) (h : ZR w base bad e k R zs g cap l) (hs : w.heap.size ≤ w'.heap.size) (hk : ∀ b, base ≤ b → ¬ bad b → b < w.heap.size → w'.heap[b]? = w.heap[b]?) : ZR w' base bad e k R zs g cap l := by
  obtain ⟨h1, h2, h3, qs, ho, hl, hr⟩ := h
  refine ⟨h1, by omega, h3, qs, ownsRow_keep ho (fun g' hg => ?_), hl, fun i h h' => ⟨(hr i h h').1, hR (hr i h h').2 (fun b hb hlt => ⟨hb, hk b hb.1 hb.2.2 hlt⟩)⟩⟩
  simp only [Value.ownBlock, Option.some.injEq] at hg
  subst hg
  exact hk g h1 h3 h2
theorem ZR.on {α : Type} {w w' : World} {base e k g cap : Nat} {bad : Nat → Prop} {R : (Nat → Prop) → World → α → List Value → Prop} {zs : List Value} {l : List α} (hR : Kp R) (h : ZR w base bad e k R zs g cap l) (hb : Below w.heap.size w w') : ZR w' base bad e k R zs g cap l := h.keep hR hb.size (fun b _ _ hlt => hb.block b hlt)
theorem ZR.fx {α : Type} {w w' : World} {base e k g cap X : Nat} {bad : Nat → Prop} {R : (Nat → Prop) → World → α → List Value → Prop} {zs : List Value} {l : List α} (hR : Kp R) (h : ZR w base bad e k R zs g cap l) (hf : Fx X w w') (hX : X < base) : ZR w' base bad e k R zs g cap l :=
  h.keep hR hf.size (fun b hb _ hlt => hf.block b hlt (fun e => by have : b = X := Option.some.inj e; omega))
theorem flat_len {k : Nat} : ∀ (qs : List (List Value)), (∀ (i : Nat) (h : i < qs.length), (qs[i]).length = k) → qs.flatten.length = qs.length * k
  | [], _ => by simp
  | x :: t, h => by
    have hx : x.length = k := h 0 (by simp)
    rw [List.flatten_cons, List.length_append, flat_len t (fun i hi => h (i + 1) (by simpa using hi)), List.length_cons, Nat.succ_mul]
    omega
theorem ZR.cells {α : Type} {w : World} {base e k g cap : Nat} {bad : Nat → Prop} {R : (Nat → Prop) → World → α → List Value → Prop} {zs : List Value} {l : List α} (h : ZR w base bad e k R zs g cap l) : ∀ j z, zs[j]? = some z → w.cell? ⟨g, l.length * k + j, none⟩ = some z ∧ w.frozen? ⟨g, l.length * k + j, none⟩ = false := by
  obtain ⟨h1, h2, h3, qs, ho, hl, hr⟩ := h
  intro j z hz
  have hfl : qs.flatten.length = l.length * k := by rw [flat_len qs (fun i hi => (hr i (by omega) hi).1), hl]
  have hc := World.ownsRow.cells ho (g := g) rfl (l.length * k + j) z (by rw [List.getElem?_append_right (by omega), hfl, Nat.add_sub_cancel_left]; exact hz)
  rw [add_plain, Nat.zero_add] at hc
  exact ⟨hc, World.ownsRow.frozenAt ho _⟩
/-- The zero element is there. -/
theorem ZR.of {α : Type} {w w' : World} {base e k : Nat} {bad : Nat → Prop} {R : (Nat → Prop) → World → α → List Value → Prop} {v v' : Value} {zs : List Value} {l : List α} {qs : List (List Value)} (hR : Kp R)
    (ho : w.ownsRow base e k v l.length qs.flatten) (hl : qs.length = l.length) (hr : ∀ (i : Nat) (h : i < l.length) (h' : i < qs.length), (qs[i]).length = k ∧ R (fun b => base ≤ b ∧ v.ownBlock ≠ some b ∧ ¬ bad b) w l[i] qs[i]) (hgb : ∀ g, v.ownBlock = some g → ¬ bad g)
    (ho' : w'.ownsRow base e k v' (l.length + 1) (qs.flatten ++ zs)) (hg : w.grownBy w' v.ownBlock) (hat : v'.ownBlock = v.ownBlock ∨ v'.ownBlock = some w.heap.size) (hbad : ∀ b, bad b → b < w.heap.size) : ∃ g cap, v' = .slice (some ⟨g, 0, none⟩) (l.length + 1) cap ∧ l.length + 1 ≤ cap ∧ cap ≤ maxLen ∧ (v.ownBlock = some g ∨ g = w.heap.size) ∧ ZR w' base bad e k R zs g cap l := by
  rcases ho'.2 with ⟨_, h2⟩ | ⟨g, cap, cur, rfl, hb, hgg, hnc, hcm, _⟩
  · omega
  · have hgl : g < w'.heap.size := (Array.getElem?_eq_some_iff.1 hgg).1
    have hat' : v.ownBlock = some g ∨ g = w.heap.size := by
      simp only [Value.ownBlock] at hat
      rcases hat with h | h
      · exact .inl h.symm
      · exact .inr (Option.some.inj h)
    have hng : ¬ bad g := by
      rcases hat' with h | h
      · exact hgb g h
      · intro q; have := hbad g q; omega
    refine ⟨g, cap, rfl, hnc, hcm, hat', hb, hgl, hng, qs, ho', hl, fun i h h' => ⟨(hr i h h').1, hR (hr i h h').2 (fun b hb hlt => ⟨⟨hb.1, fun e => ?_, hb.2.2⟩, hg.block b hlt (fun e => hb.2.1 e.symm)⟩)⟩⟩
    subst e
    rcases hat' with h | h
    · exact hb.2.1 h
    · omega
/-- The element put in. -/
theorem ZR.put {α : Type} {w : World} {base e k g cap : Nat} {bad : Nat → Prop} {R : (Nat → Prop) → World → α → List Value → Prop} {zs : List Value} {l : List α} {p : α} {cs : List Value} (hR : Kp R) (h : ZR w base bad e k R zs g cap l) (hk : cs.length = k) (hz : zs.length = k) (hp : R (fun b => base ≤ b ∧ g ≠ b ∧ ¬ bad b) w p cs) : OwnB (putL w g (l.length * k) cs) base bad e k R (.slice (some ⟨g, 0, none⟩) (l.length + 1) cap) (l ++ [p]) := by
  obtain ⟨h1, h2, h3, qs, ho, hl, hr⟩ := h
  have hfl : qs.flatten.length = l.length * k := by rw [flat_len qs (fun i hi => (hr i (by omega) hi).1), hl]
  have ho2 := putL_own cs zs qs.flatten [] w base e k g (l.length + 1) cap (l.length * k) (by omega) hfl (by simpa using ho)
  rw [List.append_nil] at ho2
  have key : ∀ b, base ≤ b ∧ g ≠ b ∧ ¬ bad b → b < w.heap.size → (base ≤ b ∧ (Value.slice (some ⟨g, 0, none⟩) (l.length + 1) cap).ownBlock ≠ some b ∧ ¬ bad b) ∧ (putL w g (l.length * k) cs).heap[b]? = w.heap[b]? := fun b hb hlt =>
    ⟨⟨hb.1, fun e => hb.2.1 (Option.some.inj e), hb.2.2⟩, putL_heap cs w g _ b (fun e => hb.2.1 e.symm)⟩
  refine ⟨qs ++ [cs], ?_, by simp [hl], fun i h h' => ?_, fun g' hg' => ?_⟩
  · rw [List.flatten_append, List.length_append]
    simpa using ho2
  · rcases Nat.lt_or_ge i l.length with hi | hi
    · rw [List.getElem_append_left hi, List.getElem_append_left (by omega)]
      exact ⟨(hr i hi (by omega)).1, hR (hr i hi (by omega)).2 key⟩
    · have : i = l.length := by simp at h; omega
      subst this
      have e1 : (l ++ [p])[l.length] = p := by simp
      have e2 : (qs ++ [cs])[l.length]'h' = cs := by simp [← hl]
      rw [e1, e2]
      exact ⟨hk, hR hp key⟩
  · simp only [Value.ownBlock, Option.some.injEq] at hg'
    subst hg'
    exact h3
end Go.Proofs.Ytpblcahcpobicaa

/- A disk as math: rows of numbered things, rising; what is put into them and taken out of them; a map of the program that holds such a row. -/
namespace Go.Proofs.Ytpblcahcpobicaa
open Go.RowKit Go.Lib Go.Maps
set_option linter.unusedSimpArgs false
set_option linter.unusedVariables false

abbrev Ris {β : Type} (l : List (Int × β)) : Prop := l.Pairwise fun x y => x.1 < y.1
def lk {β : Type} (n : Int) : List (Int × β) → Option β
  | [] => none
  | y :: r => if y.1 = n then some y.2 else lk n r
def pt {β : Type} (n : Int) (b : β) : List (Int × β) → List (Int × β)
  | [] => [(n, b)]
  | y :: r => if n < y.1 then (n, b) :: y :: r else if y.1 = n then (n, b) :: r else y :: pt n b r
def dl {β : Type} (n : Int) (l : List (Int × β)) : List (Int × β) := l.filter fun y => !decide (y.1 = n)

theorem mem_pt {β : Type} {n : Int} {b : β} : ∀ {l : List (Int × β)} {x : Int × β}, Ris l → x ∈ pt n b l → x = (n, b) ∨ (x ∈ l ∧ x.1 ≠ n)
  | [], x, _, h => .inl (by simpa [pt] using h)
  | y :: r, x, hs, h => by
    obtain ⟨h1, h2⟩ := List.pairwise_cons.1 hs
    unfold pt at h
    split at h
    · rename_i hn
      rcases List.mem_cons.1 h with rfl | h
      · exact .inl rfl
      · refine .inr ⟨h, ?_⟩
        rcases List.mem_cons.1 h with rfl | h
        · omega
        · have := h1 x h
          omega
    · split at h
      · rename_i hn
        rcases List.mem_cons.1 h with rfl | h
        · exact .inl rfl
        · have := h1 x h
          exact .inr ⟨List.mem_cons_of_mem _ h, by omega⟩
      · rename_i hn hn2
        rcases List.mem_cons.1 h with rfl | h
        · exact .inr ⟨List.mem_cons_self, hn2⟩
        · rcases mem_pt h2 h with rfl | ⟨h3, h4⟩
          · exact .inl rfl
          · exact .inr ⟨List.mem_cons_of_mem _ h3, h4⟩
theorem ris_pt {β : Type} {n : Int} {b : β} : ∀ {l : List (Int × β)}, Ris l → Ris (pt n b l)
  | [], _ => by simp [pt, Ris]
  | y :: r, hs => by
    obtain ⟨h1, h2⟩ := List.pairwise_cons.1 hs
    unfold pt
    split
    · rename_i hn
      refine List.pairwise_cons.2 ⟨fun x hx => ?_, hs⟩
      rcases List.mem_cons.1 hx with rfl | hx
      · exact hn
      · have := h1 x hx
        show n < x.1
        omega
    · split
      · rename_i hn
        exact List.pairwise_cons.2 ⟨fun x hx => by have := h1 x hx; show n < x.1; omega, h2⟩
      · rename_i hn hn2
        refine List.pairwise_cons.2 ⟨fun x hx => ?_, ris_pt h2⟩
        rcases mem_pt h2 hx with rfl | ⟨h3, _⟩
        · show y.1 < n
          omega
        · exact h1 x h3
theorem ris_dl {β : Type} {n : Int} {l : List (Int × β)} (h : Ris l) : Ris (dl n l) := List.Pairwise.filter _ h
theorem mem_dl {β : Type} {n : Int} {l : List (Int × β)} {x : Int × β} : x ∈ dl n l ↔ x ∈ l ∧ x.1 ≠ n := by simp [dl, List.mem_filter]
theorem lk_mem {β : Type} {n : Int} {b : β} : ∀ {l : List (Int × β)}, lk n l = some b → (n, b) ∈ l
  | [], h => by simp [lk] at h
  | y :: r, h => by
    unfold lk at h
    split at h
    · rename_i hn
      obtain ⟨y1, y2⟩ := y
      simp only at hn h
      subst hn
      obtain rfl := Option.some.inj h
      exact List.mem_cons_self
    · exact List.mem_cons_of_mem _ (lk_mem h)
theorem lk_of {β : Type} {n : Int} {b : β} : ∀ {l : List (Int × β)}, Ris l → (n, b) ∈ l → lk n l = some b
  | [], _, h => absurd h (by simp)
  | y :: r, hs, h => by
    obtain ⟨h1, h2⟩ := List.pairwise_cons.1 hs
    unfold lk
    rcases List.mem_cons.1 h with e | h
    · rw [← e]
      simp
    · have := h1 _ h
      rw [if_neg (by simp only at this; omega)]
      exact lk_of h2 h
theorem pt_map {α β : Type} (f : Int × β → α) (g : β → α) (hf : ∀ x, f x = g x.2) (n : Int) (b : β) : ∀ l : List (Int × β), (pt n b l).map (fun x => (x.1, f x)) = pt n (g b) (l.map fun x => (x.1, f x))
  | [] => by simp [pt, hf]
  | y :: r => by
    rw [List.map_cons]
    unfold pt
    split
    · simp [hf]
    · split
      · simp [hf]
      · simp [pt_map f g hf n b r]
theorem lk_map {α β : Type} (f : Int × β → α) (g : β → α) (hf : ∀ x, f x = g x.2) (n : Int) : ∀ l : List (Int × β), lk n (l.map fun x => (x.1, f x)) = (lk n l).map g
  | [] => rfl
  | y :: r => by
    rw [List.map_cons]
    unfold lk
    split
    · simp [hf]
    · exact lk_map f g hf n r
theorem dl_map {α β : Type} (f : Int × β → α) (n : Int) (l : List (Int × β)) : dl n (l.map fun x => (x.1, f x)) = (dl n l).map fun x => (x.1, f x) := by
  unfold dl
  rw [List.filter_map]
  rfl
theorem pt_len {β : Type} (n : Int) (b : β) : ∀ l : List (Int × β), (pt n b l).length ≤ l.length + 1
  | [] => by simp [pt]
  | y :: r => by
    unfold pt
    split
    · simp
    · split
      · simp
      · have := pt_len n b r
        simp
        omega
theorem dl_len {β : Type} (n : Int) (l : List (Int × β)) : (dl n l).length ≤ l.length := List.length_filter_le _ _

/-- The datum of a map, of numbers' things as they lie. -/
def esD (l : List (Int × Value)) : List (Lit × DataW Value) := l.map fun x => (.int .i64 x.1, .held x.2)
def hR (v : Value) : Option (DataW Value × List MemPlace) := some (.held v, [])
theorem key_eq (n m : Int) : (Lit.int .i64 n).sameKey (.int .i64 m) = decide (n = m) := by simp [Lit.sameKey]
theorem atD (n : Int) (z : Value) : ∀ l : List (Int × Value), (DataW.map (esD l)).atKey (.int .i64 n) (.held z) = .held ((lk n l).getD z)
  | [] => rfl
  | y :: r => by
    have h := atD n z r
    unfold DataW.atKey esD at h ⊢
    simp only [List.map_cons, List.find?_cons, key_eq] at h ⊢
    unfold lk
    by_cases hn : y.1 = n
    · simp [hn]
    · simp only [hn, decide_false, if_false]
      exact h
theorem hasD (n : Int) : ∀ l : List (Int × Value), Maps.has (DataW.map (esD l)) (.int .i64 n) = (lk n l).isSome
  | [] => rfl
  | y :: r => by
    have h := hasD n r
    rw [has_eq] at h ⊢
    unfold esD at h ⊢
    rw [List.map_cons, List.any_cons]
    simp only [key_eq] at h ⊢
    unfold lk
    by_cases hn : y.1 = n
    · simp [hn]
    · simp only [hn, decide_false, if_false, Bool.false_or]
      exact h
theorem delD (n : Int) (l : List (Int × Value)) : (DataW.map (esD l)).del (.int .i64 n) = .map (esD (dl n l)) := by
  rw [DataW.del_eq]
  unfold esD dl Go.ChangeMaps.delKey Go.ChangeMaps.notKey
  rw [List.filter_map]
  have e : ((fun p : Lit × DataW Value => !p.1.sameKey (Lit.int IntKind.i64 n)) ∘ fun x : Int × Value => (Lit.int IntKind.i64 x.1, DataW.held x.2)) = fun y => !decide (y.1 = n) := by
    funext x
    simp [key_eq]
  rw [e]
theorem insD (n : Int) (v : Value) : ∀ {l : List (Int × Value)}, (∀ x ∈ l, x.1 ≠ n) → DataW.insert (.int .i64 n, .held v) (esD l) = esD (pt n v l)
  | [], _ => rfl
  | y :: r, h => by
    have hy := h y List.mem_cons_self
    have ih := insD n v (l := r) (fun x hx => h x (List.mem_cons_of_mem _ hx))
    unfold esD at ih ⊢
    rw [List.map_cons]
    unfold DataW.insert pt
    by_cases hn : n < y.1
    · simp [Lit.before, hn]
    · simp only [Lit.before, hn, decide_false, if_false, hy, List.map_cons]
      rw [ih]
      rfl
theorem pt_dl {β : Type} (n : Int) (b : β) : ∀ {l : List (Int × β)}, Ris l → pt n b (dl n l) = pt n b l
  | [], _ => rfl
  | y :: r, hs => by
    obtain ⟨h1, h2⟩ := List.pairwise_cons.1 hs
    have ih := pt_dl n b h2
    by_cases hn : y.1 = n
    · have e : dl n (y :: r) = r := by
        unfold dl
        rw [List.filter_cons]
        simp only [hn, decide_true, Bool.not_true]
        exact List.filter_eq_self.2 (fun x hx => by have := h1 x hx; simp; omega)
      rw [e]
      conv => rhs; unfold pt
      rw [if_neg (by omega), if_pos hn]
      cases r with
      | nil => rfl
      | cons z t =>
        have := h1 z List.mem_cons_self
        unfold pt
        rw [if_pos (by omega)]
    · have e : dl n (y :: r) = y :: dl n r := by
        unfold dl
        rw [List.filter_cons]
        simp [hn]
      rw [e]
      unfold pt
      rw [ih, if_neg hn, if_neg hn]
      by_cases hlt : n < y.1
      · rw [if_pos hlt, if_pos hlt]
        have : dl n r = r := List.filter_eq_self.2 (fun x hx => by have := h1 x hx; simp; omega)
        rw [this]
      · rw [if_neg hlt, if_neg hlt]
theorem putD (n : Int) (v : Value) {l : List (Int × Value)} (h : Ris l) : (DataW.map (esD l)).put (.int .i64 n) (.held v) = .map (esD (pt n v l)) := by
  rw [DataW.put_eq]
  unfold Go.ChangeMaps.putKey
  have e : (esD l).filter (Go.ChangeMaps.notKey (.int .i64 n)) = esD (dl n l) := by
    have := delD n l
    rw [DataW.del_eq] at this
    exact DataW.map.inj this
  rw [e, insD n v (fun x hx => (mem_dl.1 hx).2), pt_dl n v h]
theorem ownsMap_tight {P : Program} {k : TypeId} {w : World} {b n : Nat} {l : List (Int × Value)} (h : w.ownsMap P k hR b n (.map (esD l))) : w.ownsMap P k hR b l.length (.map (esD l)) := by
  obtain ⟨es, clock, hb, F, hs, hD⟩ := h
  refine ⟨es, clock, hb, F, ?_, hD⟩
  have h1 := congrArg List.length (DataW.map.inj hD)
  rw [length_sorted] at h1
  simp [esD] at h1
  omega

/-- Nothing but blocks of F has turned, and new blocks. -/
structure Kf (F : Nat → Prop) (w w' : World) : Prop where
  os : w'.os = w.os
  tape : w'.tape = w.tape
  output : w'.output = w.output
  size : w.heap.size ≤ w'.heap.size
  block : ∀ k, k < w.heap.size → ¬ F k → w'.heap[k]? = w.heap[k]?
theorem Kf.refl (F : Nat → Prop) (w : World) : Kf F w w := ⟨rfl, rfl, rfl, Nat.le_refl _, fun _ _ _ => rfl⟩
/-- What is there of F, and what is new since w. -/
def nF (F : Nat → Prop) (w : World) : Nat → Prop := fun j => F j ∨ w.heap.size ≤ j
theorem Kf.trans {F : Nat → Prop} {a b c : World} (h : Kf F a b) (k : Kf F b c) : Kf F a c :=
  ⟨k.os.trans h.os, k.tape.trans h.tape, k.output.trans h.output, Nat.le_trans h.size k.size, fun j hj hn => (k.block j (Nat.lt_of_lt_of_le hj h.size) hn).trans (h.block j hj hn)⟩
theorem Kf.transN {F : Nat → Prop} {a b c : World} (h : Kf F a b) (k : Kf (nF F a) b c) : Kf F a c :=
  ⟨k.os.trans h.os, k.tape.trans h.tape, k.output.trans h.output, Nat.le_trans h.size k.size, fun j hj hn => (k.block j (Nat.lt_of_lt_of_le hj h.size) (fun e => e.elim hn (fun e => by omega))).trans (h.block j hj hn)⟩
theorem Kf.of {F : Nat → Prop} {B : Nat} {a b : World} (h : Below B a b) (hB : a.heap.size ≤ B) : Kf F a b := ⟨h.os, h.tape, h.output, h.size, fun k hk _ => h.block k (by omega)⟩
theorem Kf.grown {F : Nat → Prop} {a b : World} {row : Option Nat} (h : a.grownBy b row) (hr : ∀ k, row = some k → F k) : Kf F a b := ⟨h.os, h.tape, h.output, h.size, fun k hk hn => h.block k hk (fun e => hn (hr k e.symm))⟩
theorem Kf.set {F : Nat → Prop} {X i : Nat} {a b : World} (h : Kf F a b) (hX : F X) (u : Value) : Kf F a (b.setCell ⟨X, i, none⟩ u) :=
  ⟨h.os, h.tape, h.output, by simpa using h.size, fun k hk hn => (Below.heap_setCell _ _ _ _ (fun e => hn (by have : k = X := e; rw [this]; exact hX))).trans (h.block k hk hn)⟩
theorem Kf.alloc {F : Nat → Prop} {a b : World} (h : Kf F a b) (o : Obj) : Kf F a (b.alloc o) := h.trans (Kf.of ((Below.refl b.heap.size b).alloc (Nat.le_refl _) o) (Nat.le_refl _))
theorem Kf.drew {F : Nat → Prop} {a b : World} (h : Kf F a b) : Kf F a b.drew := ⟨h.os, h.tape, h.output, h.size, h.block⟩
theorem Kf.drewN {F : Nat → Prop} {a b : World} (h : Kf F a b) (m : Nat) : Kf F a (b.drewN m) := ⟨h.os, h.tape, h.output, h.size, h.block⟩
theorem Kf.mono {F G : Nat → Prop} {a b : World} (h : Kf F a b) (hs : ∀ j, F j → G j) : Kf G a b := ⟨h.os, h.tape, h.output, h.size, fun k hk hn => h.block k hk (fun e => hn (hs k e))⟩
theorem Kf.below {F : Nat → Prop} {B : Nat} {a b : World} (h : Kf F a b) (hF : ∀ j, F j → B ≤ j) (hB : B ≤ a.heap.size) : Below B a b := ⟨h.os, h.tape, h.output, h.size, fun k hk => h.block k (by omega) (fun e => by have := hF k e; omega)⟩

/-- A segment as the program has it: the slice of its bytes, its bytes, how many of them are synced. -/
abbrev Sv := Value × List Int × Nat
abbrev Sm := List Int × Nat
def cv (x : Sv) : Value := .agg #[x.1, .int .i64 (x.2.2 : Int)]
def zC : Sv := (.slice none 0 0, [], 0)
def esV (E : List (Int × Sv)) : List (Int × Value) := E.map fun x => (x.1, cv x.2)
def mmE (E : List (Int × Sv)) : List (Int × Sm) := E.map fun x => (x.1, x.2.2)
theorem esV_pt (n : Int) (s : Sv) (E : List (Int × Sv)) : esV (pt n s E) = pt n (cv s) (esV E) := pt_map (fun x => cv x.2) cv (fun _ => rfl) n s E
theorem mmE_pt (n : Int) (s : Sv) (E : List (Int × Sv)) : mmE (pt n s E) = pt n s.2 (mmE E) := pt_map (fun x : Int × Sv => x.2.2) (fun y : Sv => y.2) (fun _ => rfl) n s E
theorem esV_lk (n : Int) (E : List (Int × Sv)) : lk n (esV E) = (lk n E).map cv := lk_map (fun x => cv x.2) cv (fun _ => rfl) n E
theorem mmE_lk (n : Int) (E : List (Int × Sv)) : lk n (mmE E) = (lk n E).map (·.2) := lk_map (fun x : Int × Sv => x.2.2) (fun y : Sv => y.2) (fun _ => rfl) n E
theorem esV_dl (n : Int) (E : List (Int × Sv)) : dl n (esV E) = esV (dl n E) := dl_map (fun x => cv x.2) n E
theorem mmE_dl (n : Int) (E : List (Int × Sv)) : dl n (mmE E) = mmE (dl n E) := dl_map (fun x : Int × Sv => x.2.2) n E
theorem ris_esV {E : List (Int × Sv)} (h : Ris E) : Ris (esV E) := List.pairwise_map.2 h
theorem ris_mmE {E : List (Int × Sv)} (h : Ris E) : Ris (mmE E) := List.pairwise_map.2 h

theorem u8_info : (Try.prog.info? 5).map (fun i => (i.zero, i.size, i.bytes)) = some (some (.int .u8 0), 1, 1) := by kernel_rfl
theorem u8_inf : ∃ i, Try.prog.info? 5 = some i ∧ i.zero = some (.int .u8 0) ∧ i.size = 1 ∧ i.bytes = 1 := by
  have h := u8_info
  cases hq : Try.prog.info? 5 with
  | none => rw [hq] at h; cases h
  | some i =>
    rw [hq] at h
    simp only [Option.map_some, Option.some.injEq, Prod.mk.injEq] at h
    exact ⟨i, rfl, h.1, h.2.1, h.2.2⟩

/-- The map's value in memory. -/
def MapO (w : World) (mv : Option Nat) (l : List (Int × Value)) : Prop := (mv = none ∧ l = []) ∨ ∃ b, mv = some b ∧ w.ownsMap Try.prog 3 hR b l.length (.map (esD l))
theorem keyI {n : Int} (hn : (Lit.int .i64 n).wf = true) : keyOf Try.prog 3 (.int .i64 n) = some (.int .i64 n) := keyOf_int_mk Try.underlying3 hn
theorem zeroC (w : World) : (zeroValue 92).run Try.prog w = .ok (cv zC) w := Try.zeroValue92 w
theorem MapO.look {w : World} {mv : Option Nat} {E : List (Int × Sv)} (h : MapO w mv (esV E)) {n : Int} (hn : (Lit.int .i64 n).wf = true) :
    (Instr.lookup 66 (.map mv) (.int .i64 n) false).run Try.prog w = .ok (cv ((lk n E).getD zC)) w := by
  rcases h with ⟨rfl, he⟩ | ⟨b, rfl, ho⟩
  · have : E = [] := List.eq_nil_of_length_eq_zero (by have := congrArg List.length he; simpa [esV] using this)
    subst this
    rw [Maps.look_nil false (int_keyed Try.underlying3) Try.underlying66 (zeroC w) (keyI hn)]
    rfl
  · obtain ⟨v, ps, hr, hv⟩ := ho.lookup (int_keyed Try.underlying3) Try.underlying66 (zeroC w) (zd := .held (cv zC)) (zp := []) rfl (keyI hn)
    rw [atD, esV_lk] at hv
    simp only [hR, Option.some.injEq, Prod.mk.injEq, DataW.held.injEq] at hv
    rw [hr, hv.1]
    cases lk n E <;> rfl
theorem MapO.lookOk {w : World} {mv : Option Nat} {E : List (Int × Sv)} (h : MapO w mv (esV E)) {n : Int} (hn : (Lit.int .i64 n).wf = true) :
    (Instr.lookup 66 (.map mv) (.int .i64 n) true).run Try.prog w = .ok (.tuple #[cv ((lk n E).getD zC), .bool (lk n E).isSome]) w := by
  rcases h with ⟨rfl, he⟩ | ⟨b, rfl, ho⟩
  · have : E = [] := List.eq_nil_of_length_eq_zero (by have := congrArg List.length he; simpa [esV] using this)
    subst this
    rw [Maps.look_nil true (int_keyed Try.underlying3) Try.underlying66 (zeroC w) (keyI hn)]
    rfl
  · obtain ⟨v, ps, hr, hv⟩ := ho.look_ok (int_keyed Try.underlying3) Try.underlying66 (zeroC w) (zd := .held (cv zC)) (zp := []) rfl (keyI hn)
    rw [atD, esV_lk] at hv
    rw [hasD, esV_lk] at hr
    simp only [hR, Option.some.injEq, Prod.mk.injEq, DataW.held.injEq] at hv
    rw [hr, hv.1]
    cases lk n E <;> rfl
theorem MapO.keep {w w' : World} {mv : Option Nat} {l : List (Int × Value)} (h : MapO w mv l) (hk : ∀ b, mv = some b → b < w.heap.size → w'.heap[b]? = w.heap[b]?) : MapO w' mv l := by
  rcases h with h | ⟨b, rfl, ho⟩
  · exact .inl h
  · have hlt := ho.lt
    obtain ⟨es, clock, hb, F, hs, hD⟩ := ho
    exact .inr ⟨b, rfl, es, clock, (hk b rfl hlt).trans hb, F, hs, hD⟩
/-- The map, and the segments' bytes: all in blocks of F, but not in X. -/
structure PR (w : World) (X : Nat) (F : Nat → Prop) (mv : Option Nat) (E : List (Int × Sv)) : Prop where
  r : Ris E
  m : MapO w mv (esV E)
  fm : ∀ b, mv = some b → F b ∧ b ≠ X
  s : ∀ x ∈ E, Own w 0 5 x.2.1 x.2.2.1 ∧ ∀ g, x.2.1.ownBlock = some g → F g ∧ g ≠ X
  a : E.Pairwise fun x y => ∀ g, x.2.1.ownBlock = some g → y.2.1.ownBlock ≠ some g
theorem ownD_keep {w w' : World} {base e : Nat} {v : Value} {xs : List Int} (h : Own w base e v xs) (hk : ∀ g, v.ownBlock = some g → w'.heap[g]? = w.heap[g]?) : Own w' base e v xs := ownsRow_keep h hk
theorem PR.keep {w w' : World} {X : Nat} {F : Nat → Prop} {mv : Option Nat} {E : List (Int × Sv)} (h : PR w X F mv E) (hk : ∀ b, F b → b ≠ X → b < w.heap.size → w'.heap[b]? = w.heap[b]?) : PR w' X F mv E :=
  ⟨h.r, h.m.keep (fun b hb hlt => hk b (h.fm b hb).1 (h.fm b hb).2 hlt), h.fm, fun x hx => ⟨ownD_keep (h.s x hx).1 (fun g hg => hk g ((h.s x hx).2 g hg).1 ((h.s x hx).2 g hg).2 (ownsRow_lt (h.s x hx).1 g hg).2), (h.s x hx).2⟩, h.a⟩
theorem PR.mono {w : World} {X : Nat} {F G : Nat → Prop} {mv : Option Nat} {E : List (Int × Sv)} (h : PR w X F mv E) (hs : ∀ j, j < w.heap.size → F j → G j) : PR w X G mv E :=
  ⟨h.r, h.m, fun b hb => ⟨hs b (by rcases h.m with ⟨e, _⟩ | ⟨b', e, ho⟩ <;> rw [e] at hb <;> cases hb; exact ho.lt) (h.fm b hb).1, (h.fm b hb).2⟩, fun x hx => ⟨(h.s x hx).1, fun g hg => ⟨hs g (ownsRow_lt (h.s x hx).1 g hg).2 ((h.s x hx).2 g hg).1, ((h.s x hx).2 g hg).2⟩⟩, h.a⟩
theorem PR.on {w w' : World} {X : Nat} {F : Nat → Prop} {mv : Option Nat} {E : List (Int × Sv)} (h : PR w X F mv E) (hb : Below w.heap.size w w') : PR w' X F mv E := h.keep (fun b _ _ hlt => hb.block b hlt)
theorem PR.setX {w : World} {X i : Nat} {F : Nat → Prop} {mv : Option Nat} {E : List (Int × Sv)} (h : PR w X F mv E) (u : Value) : PR (w.setCell ⟨X, i, none⟩ u) X F mv E := h.keep (fun b _ hne _ => Below.heap_setCell _ _ _ _ (fun e => hne e))
/-- A new block's cells, written. -/
theorem PR.setN {w : World} {X N i : Nat} {F : Nat → Prop} {mv : Option Nat} {E : List (Int × Sv)} (h : PR w X F mv E) (hN : ∀ j, F j → j ≠ N) (u : Value) : PR (w.setCell ⟨N, i, none⟩ u) X F mv E := h.keep (fun b hF _ _ => Below.heap_setCell _ _ _ _ (fun e => hN b hF e))

/-- As it is but for the segment n. -/
structure PRx (w : World) (X : Nat) (F : Nat → Prop) (mv : Option Nat) (E : List (Int × Sv)) (n : Int) : Prop where
  r : Ris E
  m : MapO w mv (esV E)
  fm : ∀ b, mv = some b → F b ∧ b ≠ X
  s : ∀ x ∈ E, x.1 ≠ n → Own w 0 5 x.2.1 x.2.2.1 ∧ ∀ g, x.2.1.ownBlock = some g → F g ∧ g ≠ X
  a : E.Pairwise fun x y => x.1 ≠ n → y.1 ≠ n → ∀ g, x.2.1.ownBlock = some g → y.2.1.ownBlock ≠ some g
theorem PR.x {w : World} {X : Nat} {F : Nat → Prop} {mv : Option Nat} {E : List (Int × Sv)} (h : PR w X F mv E) (n : Int) : PRx w X F mv E n :=
  ⟨h.r, h.m, h.fm, fun x hx _ => h.s x hx, h.a.imp (fun h _ _ => h)⟩
theorem PRx.keep {w w' : World} {X : Nat} {F G : Nat → Prop} {mv : Option Nat} {E : List (Int × Sv)} {n : Int} (h : PRx w X F mv E n) (hFG : ∀ j, j < w.heap.size → F j → G j) (hm : ∀ b, mv = some b → b < w.heap.size → w'.heap[b]? = w.heap[b]?)
    (hs : ∀ x ∈ E, x.1 ≠ n → ∀ g, x.2.1.ownBlock = some g → g < w.heap.size → w'.heap[g]? = w.heap[g]?) : PRx w' X G mv E n :=
  ⟨h.r, h.m.keep hm, fun b hb => ⟨hFG b (by rcases h.m with ⟨e, _⟩ | ⟨b', e, ho⟩ <;> rw [e] at hb <;> cases hb; exact ho.lt) (h.fm b hb).1, (h.fm b hb).2⟩, fun x hx hne => ⟨ownD_keep (h.s x hx hne).1 (fun g hg => hs x hx hne g hg (ownsRow_lt (h.s x hx hne).1 g hg).2), fun g hg => ⟨hFG g (ownsRow_lt (h.s x hx hne).1 g hg).2 ((h.s x hx hne).2 g hg).1, ((h.s x hx hne).2 g hg).2⟩⟩, h.a⟩
theorem PRx.on {w w' : World} {X : Nat} {F G : Nat → Prop} {mv : Option Nat} {E : List (Int × Sv)} {n : Int} (h : PRx w X F mv E n) (hb : Below w.heap.size w w') (hFG : ∀ j, j < w.heap.size → F j → G j) : PRx w' X G mv E n := h.keep hFG (fun b _ hlt => hb.block b hlt) (fun _ _ _ g _ hlt => hb.block g hlt)
theorem pw_sym {α : Type} {R : α → α → Prop} (hs : ∀ a b, R a b → R b a) : ∀ {l : List α}, l.Pairwise R → ∀ a ∈ l, ∀ b ∈ l, a ≠ b → R a b
  | [], _, a, ha, _, _, _ => absurd ha (by simp)
  | y :: r, h, a, ha, b, hb, hne => by
    obtain ⟨h1, h2⟩ := List.pairwise_cons.1 h
    rcases List.mem_cons.1 ha with e1 | ha'
    · rcases List.mem_cons.1 hb with e2 | hb'
      · exact absurd (e1.trans e2.symm) hne
      · rw [e1]
        exact h1 b hb'
    · rcases List.mem_cons.1 hb with e2 | hb'
      · rw [e2]
        exact hs _ _ (h1 a ha')
      · exact pw_sym hs h2 a ha' b hb' hne
theorem apart_ne {E : List (Int × Sv)} (h : E.Pairwise fun x y => ∀ g, x.2.1.ownBlock = some g → y.2.1.ownBlock ≠ some g) {x y : Int × Sv} (hx : x ∈ E) (hy : y ∈ E) (hne : x ≠ y) : ∀ g, x.2.1.ownBlock = some g → y.2.1.ownBlock ≠ some g :=
  pw_sym (R := fun x y : Int × Sv => ∀ g, x.2.1.ownBlock = some g → y.2.1.ownBlock ≠ some g) (fun a b h g hg hb => h g hb hg) h x hx y hy hne

structure Dk where
  L : List (Int × Sm)
  room : Int
  fuse : Int
  dead : Bool
def usM (L : List (Int × Sm)) : Nat := (L.map fun x => x.2.1.length).sum
/-- The program's disk in block X, its memory in blocks of F, its map's value and its segments as they lie. -/
def PDE (w : World) (X : Nat) (F : Nat → Prop) (d : Dk) (mv : Option Nat) (E : List (Int × Sv)) : Prop :=
  ∃ fz, F X ∧ mmE E = d.L ∧ PR w X F mv E ∧ Bn w X [.map mv, .int .i64 (usM d.L : Int), .int .i64 d.room, .bool d.dead, .bool (decide (0 ≤ d.fuse)), .int .i64 fz] ∧ (0 ≤ d.fuse → fz = d.fuse)
def PD (w : World) (X : Nat) (F : Nat → Prop) (d : Dk) : Prop := ∃ mv E, PDE w X F d mv E
theorem PDE.lt {w : World} {X : Nat} {F : Nat → Prop} {d : Dk} {mv : Option Nat} {E : List (Int × Sv)} (h : PDE w X F d mv E) : X < w.heap.size := by
  obtain ⟨fz, h1, h2, h3, h4, h5⟩ := h
  exact h4.lt
theorem PDE.keep {w w' : World} {X : Nat} {F : Nat → Prop} {d : Dk} {mv : Option Nat} {E : List (Int × Sv)} (h : PDE w X F d mv E) (hk : ∀ b, F b → b < w.heap.size → w'.heap[b]? = w.heap[b]?) : PDE w' X F d mv E := by
  obtain ⟨fz, h1, h2, h3, h4, h5⟩ := h
  exact ⟨fz, h1, h2, h3.keep (fun b hb _ hlt => hk b hb hlt), h4.blk (hk X h1 h4.lt), h5⟩
theorem PDE.mono {w : World} {X : Nat} {F G : Nat → Prop} {d : Dk} {mv : Option Nat} {E : List (Int × Sv)} (h : PDE w X F d mv E) (hs : ∀ j, j < w.heap.size → F j → G j) : PDE w X G d mv E := by
  obtain ⟨fz, h1, h2, h3, h4, h5⟩ := h
  exact ⟨fz, hs X h4.lt h1, h2, h3.mono hs, h4, h5⟩
theorem PDE.on {w w' : World} {X : Nat} {F : Nat → Prop} {d : Dk} {mv : Option Nat} {E : List (Int × Sv)} (h : PDE w X F d mv E) (hb : Below w.heap.size w w') : PDE w' X F d mv E := h.keep (fun b _ hlt => hb.block b hlt)
theorem PD.lt {w : World} {X : Nat} {F : Nat → Prop} {d : Dk} (h : PD w X F d) : X < w.heap.size := by
  obtain ⟨mv, E, h⟩ := h
  exact h.lt
theorem PD.keep {w w' : World} {X : Nat} {F : Nat → Prop} {d : Dk} (h : PD w X F d) (hk : ∀ b, F b → b < w.heap.size → w'.heap[b]? = w.heap[b]?) : PD w' X F d := by
  obtain ⟨mv, E, h⟩ := h
  exact ⟨mv, E, h.keep hk⟩
theorem PD.mono {w : World} {X : Nat} {F G : Nat → Prop} {d : Dk} (h : PD w X F d) (hs : ∀ j, j < w.heap.size → F j → G j) : PD w X G d := by
  obtain ⟨mv, E, h⟩ := h
  exact ⟨mv, E, h.mono hs⟩
theorem PD.on {w w' : World} {X : Nat} {F : Nat → Prop} {d : Dk} (h : PD w X F d) (hb : Below w.heap.size w w') : PD w' X F d := h.keep (fun b _ hlt => hb.block b hlt)
theorem usM_mem : ∀ {L : List (Int × Sm)} {x : Int × Sm}, x ∈ L → x.2.1.length ≤ usM L
  | [], x, h => absurd h (by simp)
  | y :: r, x, h => by
    have e : usM (y :: r) = y.2.1.length + usM r := by simp [usM]
    rw [e]
    rcases List.mem_cons.1 h with rfl | h
    · omega
    · have := usM_mem h
      omega
theorem usM_lk {L : List (Int × Sm)} {n : Int} {s : Sm} (h : lk n L = some s) : s.1.length ≤ usM L := usM_mem (lk_mem h)
end Go.Proofs.Ytpblcahcpobicaa

/- The program's disk: burn, New, Used, Down, SetFuse, SetRoom. -/
namespace Go.Proofs.Ytpblcahcpobicaa
open Go.RowKit Go.Lib Go.Maps
set_option linter.unusedSimpArgs false
set_option linter.unusedVariables false
attribute [local go_sem ↓] Go.wp_at_zero Go.wp_at_succ

theorem hideD {p : Prop} (h : p) : Hid p := h
def brn (d : Dk) : Dk := if d.fuse = 0 then { d with dead := true } else if 0 < d.fuse then { d with fuse := d.fuse - 1 } else d
set_option maxHeartbeats 1000000 in
theorem dburn_any {w : World} {X : Nat} {F : Nat → Prop} {d : Dk} {mv : Option Nat} {E : List (Int × Sv)} (h : PDE w X F d mv E) (hd : d.fuse ≤ 9223372036854775807) :
    Calls Try.prog 52 #[.pointer (some ⟨X, 0, none⟩)] w fun e w' => e = .returned (.int .i64 (if d.fuse = 0 then 8 else 0)) ∧ PDE w' X F (brn d) mv E ∧ Kf F w w' := by
  obtain ⟨fz, h1, h2, h3, h4, h5⟩ := h
  obtain ⟨c3, f3⟩ := h4 3 _ rfl
  obtain ⟨c4, f4⟩ := h4 4 _ rfl
  obtain ⟨c5, f5⟩ := h4 5 _ rfl
  by_cases hf : 0 ≤ d.fuse
  · have e5 := h5 hf
    subst e5
    rw [decide_eq_true hf] at c4
    by_cases h0 : d.fuse = 0
    · obtain ⟨L, room, fu, dead⟩ := d
      simp only at h0
      subst h0
      simp only at h2 h4 c5
      go_enter Try.func52, Try.ntmps52
      go_wp2
      go_ret
      exact ⟨rfl, ⟨0, h1, h2, h3.setX _, h4.set (i := 3) (by simp) (.bool true), fun _ => rfl⟩, (Kf.refl F w).set h1 _⟩
    · have e1 : brn d = { d with fuse := d.fuse - 1 } := (if_neg h0).trans (if_pos (by omega))
      rw [if_neg h0, e1]
      have e2 : IntKind.i64.wrap (d.fuse - 1) = d.fuse - 1 := by rw [IntKind.wrap_i64]; omega
      have h4' := h4.set (i := 5) (by simp) (.int .i64 (d.fuse - 1))
      have e3 : decide (0 ≤ d.fuse) = decide (0 ≤ d.fuse - 1) := by rw [decide_eq_true hf, decide_eq_true (by omega)]
      rw [e3] at h4'
      go_enter Try.func52, Try.ntmps52
      go_wp2
      go_ret
      exact ⟨rfl, ⟨d.fuse - 1, h1, h2, h3.setX _, h4', fun _ => rfl⟩, (Kf.refl F w).set h1 _⟩
  · have h0 : ¬ d.fuse = 0 := by omega
    have e1 : brn d = d := (if_neg h0).trans (if_neg (by omega))
    rw [if_neg h0, e1]
    rw [decide_eq_false hf] at c4
    go_enter Try.func52, Try.ntmps52
    go_wp2
    go_ret
    exact ⟨rfl, ⟨fz, h1, h2, h3, h4, h5⟩, Kf.refl F w⟩
set_option maxHeartbeats 1000000 in
theorem dnew_any (w : World) (n : Int) : Calls Try.prog 9 #[.int .i64 n] w fun e w' => e = .returned (.pointer (some ⟨w.heap.size, 0, none⟩)) ∧ PD w' w.heap.size (fun j => j = w.heap.size) ⟨[], max n 0, -1, false⟩ ∧ Below w.heap.size w w' := by
  have hp : ∀ m : Int, m = max n 0 → PD (w.alloc (.cells #[.map none, .int .i64 0, .int .i64 m, .bool false, .bool false, .int .i64 0] 68)) w.heap.size (fun j => j = w.heap.size) ⟨[], max n 0, -1, false⟩ := fun m hm => by
    subst hm
    exact ⟨none, [], 0, rfl, rfl, ⟨List.Pairwise.nil, .inl ⟨rfl, rfl⟩, fun _ h => (by cases h), fun x hx => absurd hx (by simp), List.Pairwise.nil⟩, Bn.new w [.map none, .int .i64 0, .int .i64 (max n 0), .bool false, .bool false, .int .i64 0] _ _ rfl, fun h => by simp only at h; omega⟩
  by_cases hn : n < 0
  · go_enter Try.func9, Try.ntmps9
    go_wp2
    go_ret
    exact ⟨rfl, hp 0 (by omega), (Below.refl _ _).alloc (Nat.le_refl _) _⟩
  · go_enter Try.func9, Try.ntmps9
    go_wp2
    go_ret
    exact ⟨rfl, hp n (by omega), (Below.refl _ _).alloc (Nat.le_refl _) _⟩
theorem dused_any {w : World} {X : Nat} {F : Nat → Prop} {d : Dk} (h : PD w X F d) : Calls Try.prog 28 #[.pointer (some ⟨X, 0, none⟩)] w fun e w' => e = .returned (.int .i64 (usM d.L : Int)) ∧ w = w' := by
  obtain ⟨mv, E, fz, h1, h2, h3, h4, h5⟩ := h
  obtain ⟨c1, f1⟩ := h4 1 _ rfl
  go_enter Try.func28, Try.ntmps28
  go_wp2
  go_ret
  exact ⟨rfl, rfl⟩
theorem ddown_any {w : World} {X : Nat} {F : Nat → Prop} {d : Dk} (h : PD w X F d) : Calls Try.prog 50 #[.pointer (some ⟨X, 0, none⟩)] w fun e w' => e = .returned (.bool d.dead) ∧ w = w' := by
  obtain ⟨mv, E, fz, h1, h2, h3, h4, h5⟩ := h
  obtain ⟨c3, f3⟩ := h4 3 _ rfl
  go_enter Try.func50, Try.ntmps50
  go_wp2
  go_ret
  exact ⟨rfl, rfl⟩
set_option maxHeartbeats 1000000 in
theorem dfuse_any {w : World} {X : Nat} {F : Nat → Prop} {d : Dk} (h : PD w X F d) (n : Int) : Calls Try.prog 18 #[.pointer (some ⟨X, 0, none⟩), .int .i64 n] w fun e w' => e = .returned (.tuple #[]) ∧ PD w' X F { d with fuse := max n (-1) } ∧ Kf F w w' := by
  obtain ⟨mv, E, fz, h1, h2, h3, h4, h5⟩ := h
  obtain ⟨c4, f4⟩ := h4 4 _ rfl
  obtain ⟨c5, f5⟩ := h4 5 _ rfl
  have hp : ∀ (b : Bool) (m : Int), b = decide (0 ≤ n) → m = max n 0 → PD ((w.setCell ⟨X, 4, none⟩ (.bool b)).setCell ⟨X, 5, none⟩ (.int .i64 m)) X F { d with fuse := max n (-1) } := fun b m hb hm => by
    have e1 : decide (0 ≤ max n (-1)) = b := by rw [hb]; exact decide_eq_decide.2 (by omega)
    refine ⟨mv, E, m, h1, h2, (h3.setX _).setX _, ?_, fun h => by simp only at h ⊢; omega⟩
    rw [e1]
    exact (h4.set (i := 4) (by simp) (.bool b)).set (i := 5) (by simp) (.int .i64 m)
  have hk : ∀ u v, Kf F w ((w.setCell ⟨X, 4, none⟩ u).setCell ⟨X, 5, none⟩ v) := fun u v => ((Kf.refl F w).set h1 _).set h1 _
  clear h2 h3 h4 h5
  by_cases hn : n < 0
  · have hn' : ¬ n ≥ 0 := by omega
    go_enter Try.func18, Try.ntmps18
    go_wp2
    go_end0
    exact ⟨rfl, hp false 0 (decide_eq_false (by omega)).symm (by omega), hk _ _⟩
  · have hn' : n ≥ 0 := by omega
    go_enter Try.func18, Try.ntmps18
    go_wp2
    go_end0
    exact ⟨rfl, hp true n (decide_eq_true (by omega)).symm (by omega), hk _ _⟩
end Go.Proofs.Ytpblcahcpobicaa
