import Derived.Test.YtccmmkhcacglhaaGreatDoorWa01
import Derived.Test.YtccmmkhcacglhaaGreatDoorWa05
import Derived.Lib.ParseIntBCases
import Derived.Lib.AtoiAll

/- Blocks of n cells; rows of k cells an element, read, and the call's own. -/
namespace Go.Proofs.YtccmmkhcacglhaaGreatDoor
open Go.RowKit Go.Lib
set_option linter.unusedSimpArgs false
set_option linter.unusedVariables false

/-- A block of cells that may be written. -/
def Bn (w : World) (Y : Nat) (cs : List Value) : Prop := ∀ j u, cs[j]? = some u → w.cell? ⟨Y, j, none⟩ = some u ∧ w.frozen? ⟨Y, j, none⟩ = false
theorem Bn.lt {w : World} {Y : Nat} {c : Value} {cs : List Value} (h : Bn w Y (c :: cs)) : Y < w.heap.size := World.block_lt_of_cell? w _ (h 0 c rfl).1
theorem frozen_of_block {w w' : World} {Y j : Nat} (h : w'.heap[Y]? = w.heap[Y]?) : w'.frozen? ⟨Y, j, none⟩ = w.frozen? ⟨Y, j, none⟩ := by
  unfold World.frozen?
  rw [h]
theorem Bn.blk {w w' : World} {Y : Nat} {cs : List Value} (h : Bn w Y cs) (hb : w'.heap[Y]? = w.heap[Y]?) : Bn w' Y cs := fun j u hu =>
  ⟨keep_cell (p := ⟨Y, j, none⟩) hb (h j u hu).1, (frozen_of_block hb).trans (h j u hu).2⟩
theorem Bn.on {w w' : World} {Y : Nat} {c : Value} {cs : List Value} (h : Bn w Y (c :: cs)) (hb : Below w.heap.size w w') : Bn w' Y (c :: cs) := h.blk (hb.block Y h.lt)
theorem Bn.fx {w w' : World} {X Y : Nat} {c : Value} {cs : List Value} (h : Bn w Y (c :: cs)) (hf : Fx X w w') (hne : Y ≠ X) : Bn w' Y (c :: cs) := h.blk (hf.block Y h.lt (fun e => hne (Option.some.inj e)))
theorem Bn.far {w : World} {Y X i : Nat} {cs : List Value} (h : Bn w Y cs) (hne : X ≠ Y) (v : Value) : Bn (w.setCell ⟨X, i, none⟩ v) Y cs := h.blk (Below.heap_setCell _ _ _ _ (fun e => hne e.symm))
theorem Bn.set {w : World} {Y i : Nat} {cs : List Value} (h : Bn w Y cs) (hi : i < cs.length) (v : Value) : Bn (w.setCell ⟨Y, i, none⟩ v) Y (cs.set i v) := fun j u hu => by
  refine ⟨?_, (World.frozen?_setCell _ _ _ _).trans ?_⟩
  · by_cases hj : i = j
    · subst hj
      rw [List.getElem?_set_self hi] at hu
      obtain rfl := Option.some.inj hu
      exact cell_same4 (h i _ (List.getElem?_eq_getElem hi)).1
    · rw [List.getElem?_set_ne hj] at hu
      exact cell_far4 (by omega) (h j u hu).1
  · have hl : j < cs.length := by
      have := (List.getElem?_eq_some_iff.1 hu).1
      rwa [List.length_set] at this
    exact (h j _ (List.getElem?_eq_getElem hl)).2
theorem Bn.drew {w : World} {Y : Nat} {cs : List Value} (h : Bn w Y cs) : Bn w.drew Y cs := h
theorem Bn.new (w : World) (cs : List Value) (t : TypeId) (n : Nat) (hn : n = w.heap.size) : Bn (w.alloc (.cells cs.toArray t)) n cs := by
  subst hn
  intro j u hu
  refine ⟨?_, by simp⟩
  rw [World.cell?_alloc_new]
  simpa using hu

/-- The slice v reads as the list l, k cells an element. -/
def RdK {α : Type} (ok : Nat → Prop) (w : World) (k : Nat) (R : α → List Value → Prop) (l : List α) (v : Value) : Prop :=
  ∃ a cap, v = .slice a l.length cap ∧ l.length ≤ cap ∧ cap ≤ maxLen ∧
    ∀ (i : Nat) (hi : i < l.length), ∃ b off cs, a = some ⟨b, off, none⟩ ∧ ok b ∧ b < w.heap.size ∧ cs.length = k ∧ R l[i] cs ∧ ∀ j u, cs[j]? = some u → w.cell? ⟨b, off + i * k + j, none⟩ = some u
theorem rdK_none {α : Type} (ok : Nat → Prop) (w : World) (k : Nat) (R : α → List Value → Prop) : RdK ok w k R [] (.slice none 0 0) := ⟨none, 0, rfl, by simp, by simp [maxLen], fun i hi => absurd hi (by simp)⟩
theorem RdK.keep {α : Type} {ok ok' : Nat → Prop} {w w' : World} {k : Nat} {R R' : α → List Value → Prop} {l : List α} {v : Value} (h : RdK ok w k R l v) (hR : ∀ x ∈ l, ∀ u, R x u → R' x u) (hk : ∀ b, ok b → b < w.heap.size → ok' b ∧ w'.heap[b]? = w.heap[b]?) : RdK ok' w' k R' l v := by
  obtain ⟨a, cap, rfl, hc, hm, hcell⟩ := h
  refine ⟨a, cap, rfl, hc, hm, fun i hi => ?_⟩
  obtain ⟨b, off, cs, ha, ho, hb, hl, hr, hcs⟩ := hcell i hi
  obtain ⟨ho', hs⟩ := hk _ ho hb
  refine ⟨b, off, cs, ha, ho', ?_, hl, hR _ (List.getElem_mem hi) _ hr, fun j u hu => keep_cell (p := ⟨b, off + i * k + j, none⟩) hs (hcs j u hu)⟩
  rcases Nat.lt_or_ge b w'.heap.size with h | h
  · exact h
  · rw [Array.getElem?_eq_none h, Array.getElem?_eq_getElem hb] at hs
    cases hs
theorem RdK.form {α : Type} {ok : Nat → Prop} {w : World} {k : Nat} {R : α → List Value → Prop} {l : List α} {v : Value} (h : RdK ok w k R l v) : ∃ a cap, v = .slice a l.length cap ∧ l.length ≤ cap ∧ cap ≤ maxLen := by
  obtain ⟨a, cap, h1, h2, h3, _⟩ := h
  exact ⟨a, cap, h1, h2, h3⟩
/-- A reading that stays where its blocks stay. -/
def Kp {α : Type} (R : (Nat → Prop) → World → α → List Value → Prop) : Prop := ∀ ⦃ok ok' : Nat → Prop⦄ ⦃w w' : World⦄ ⦃x : α⦄ ⦃cs : List Value⦄, R ok w x cs → (∀ b, ok b → b < w.heap.size → ok' b ∧ w'.heap[b]? = w.heap[b]?) → R ok' w' x cs
/-- The slice v is the call's own, from block base on, of k cells an element, and holds l; what lies behind its cells lies apart. -/
def OwnK {α : Type} (w : World) (base e k : Nat) (R : (Nat → Prop) → World → α → List Value → Prop) (v : Value) (l : List α) : Prop :=
  ∃ qs : List (List Value), w.ownsRow base e k v l.length qs.flatten ∧ qs.length = l.length ∧ ∀ (i : Nat) (h : i < l.length) (h' : i < qs.length), (qs[i]).length = k ∧ R (fun b => base ≤ b ∧ v.ownBlock ≠ some b) w l[i] qs[i]
theorem ownK_nil {α : Type} (w : World) (base e k : Nat) (R : (Nat → Prop) → World → α → List Value → Prop) : OwnK w base e k R (.slice none 0 0) [] := ⟨[], World.ownsRow_nil w base e k, rfl, fun i h => absurd h (by simp)⟩
theorem OwnK.keep {α : Type} {w w' : World} {base e k : Nat} {R : (Nat → Prop) → World → α → List Value → Prop} {v : Value} {l : List α} (hR : Kp R) (h : OwnK w base e k R v l) (hk : ∀ b, base ≤ b → b < w.heap.size → w'.heap[b]? = w.heap[b]?) : OwnK w' base e k R v l := by
  obtain ⟨qs, ho, hl, hr⟩ := h
  refine ⟨qs, ownsRow_keep ho (fun g hg => ?_), hl, fun i h h' => ⟨(hr i h h').1, hR (hr i h h').2 (fun b hb hlt => ⟨hb, hk b hb.1 hlt⟩)⟩⟩
  obtain ⟨a, b⟩ := ownsRow_lt ho g hg
  exact hk g a b
theorem OwnK.on {α : Type} {w w' : World} {base e k : Nat} {R : (Nat → Prop) → World → α → List Value → Prop} {v : Value} {l : List α} (hR : Kp R) (h : OwnK w base e k R v l) (hb : Below w.heap.size w w') : OwnK w' base e k R v l := h.keep hR (fun b _ hlt => hb.block b hlt)
theorem OwnK.fx {α : Type} {w w' : World} {base e k X : Nat} {R : (Nat → Prop) → World → α → List Value → Prop} {v : Value} {l : List α} (hR : Kp R) (h : OwnK w base e k R v l) (hf : Fx X w w') (hX : X < base) : OwnK w' base e k R v l :=
  h.keep hR (fun b hb hlt => hf.block b hlt (fun e => by have : b = X := Option.some.inj e; omega))
theorem OwnK.set {α : Type} {w : World} {base e k : Nat} {R : (Nat → Prop) → World → α → List Value → Prop} {v : Value} {l : List α} (hR : Kp R) (h : OwnK w base e k R v l) {X i : Nat} (hX : X < base) (u : Value) : OwnK (w.setCell ⟨X, i, none⟩ u) base e k R v l :=
  h.keep hR (fun b hb _ => Below.heap_setCell _ _ _ _ (fun e => by have : b = X := e; omega))
theorem OwnK.form {α : Type} {w : World} {base e k : Nat} {R : (Nat → Prop) → World → α → List Value → Prop} {v : Value} {l : List α} (h : OwnK w base e k R v l) : ∃ a cap, v = .slice a l.length cap ∧ l.length ≤ cap ∧ cap ≤ maxLen := by
  obtain ⟨qs, ho, _⟩ := h
  rcases ho.2 with ⟨h1, h2⟩ | ⟨g, cap, cur, h1, _, _, h3, h4, _⟩
  · exact ⟨none, 0, by rw [h1, h2], by omega, by simp [maxLen]⟩
  · exact ⟨_, _, h1, h3, h4⟩
/-- One more. The new one's memory lies from lo on, and the old row's block below. -/
theorem OwnK.snoc {α : Type} {w w' : World} {base e k lo n : Nat} {R : (Nat → Prop) → World → α → List Value → Prop} {v v' : Value} {l : List α} {p : α} {cs : List Value} {qs : List (List Value)} (hR : Kp R) (hk : cs.length = k)
    (hn : l.length = n) (ho : w.ownsRow base e k v n qs.flatten) (hl : qs.length = l.length) (hr : ∀ (i : Nat) (h : i < l.length) (h' : i < qs.length), (qs[i]).length = k ∧ R (fun b => base ≤ b ∧ v.ownBlock ≠ some b) w l[i] qs[i])
    (ho' : w'.ownsRow base e k v' (n + 1) (qs.flatten ++ cs)) (hg : w.grownBy w' v.ownBlock) (hat : v'.ownBlock = v.ownBlock ∨ v'.ownBlock = some w.heap.size)
    (hp : R (fun b => lo ≤ b) w p cs) (hlo : base ≤ lo) (hv : ∀ x, v.ownBlock = some x → x < lo) : OwnK w' base e k R v' (l ++ [p]) := by
  subst hn
  have key : ∀ b, base ≤ b ∧ v.ownBlock ≠ some b → b < w.heap.size → (base ≤ b ∧ v'.ownBlock ≠ some b) ∧ w'.heap[b]? = w.heap[b]? := fun b hb hlt => by
    refine ⟨⟨hb.1, fun e => ?_⟩, hg.block b hlt (fun e => hb.2 e.symm)⟩
    rcases hat with h | h
    · exact hb.2 (h ▸ e)
    · rw [h] at e; have : w.heap.size = b := Option.some.inj e; omega
  refine ⟨qs ++ [cs], ?_, by simp [hl], fun i h h' => ?_⟩
  · rw [List.flatten_append, List.length_append]
    simpa using ho'
  · rcases Nat.lt_or_ge i l.length with hi | hi
    · rw [List.getElem_append_left hi, List.getElem_append_left (by omega)]
      exact ⟨(hr i hi (by omega)).1, hR (hr i hi (by omega)).2 key⟩
    · have : i = l.length := by simp at h; omega
      subst this
      have e1 : (l ++ [p])[l.length] = p := by simp
      have e2 : (qs ++ [cs])[l.length]'h' = cs := by simp [← hl]
      rw [e1, e2]
      exact ⟨hk, hR hp (fun b hb hlt => key b ⟨by omega, fun e => by have := hv b e; omega⟩ hlt)⟩
theorem flat_at {k : Nat} : ∀ (qs : List (List Value)) (i j : Nat) (h : i < qs.length) (u : Value), (∀ (i : Nat) (h : i < qs.length), (qs[i]).length = k) → (qs[i])[j]? = some u → qs.flatten[i * k + j]? = some u
  | [], i, j, h, u, _, _ => by simp at h
  | x :: t, 0, j, h, u, hk, hu => by
    have hu' : x[j]? = some u := hu
    have hj := (List.getElem?_eq_some_iff.1 hu').1
    rw [List.flatten_cons, Nat.zero_mul, Nat.zero_add, List.getElem?_append_left hj]
    exact hu'
  | x :: t, i + 1, j, h, u, hk, hu => by
    have hx : x.length = k := hk 0 (by simp)
    have e : (i + 1) * k + j = x.length + (i * k + j) := by rw [hx, Nat.succ_mul]; omega
    rw [List.flatten_cons, e, List.getElem?_append_right (by omega), Nat.add_sub_cancel_left]
    exact flat_at t i j (by simpa using h) u (fun i h => hk (i + 1) (by simpa using h)) hu
/-- It reads as the list. -/
theorem OwnK.rd {α : Type} {w : World} {base e k : Nat} {R : (Nat → Prop) → World → α → List Value → Prop} {v : Value} {l : List α} (hR : Kp R) (h : OwnK w base e k R v l) : RdK (fun b => base ≤ b) w k (R (fun b => base ≤ b) w) l v := by
  obtain ⟨qs, ho, hl, hr⟩ := h
  have hc := fun g => World.ownsRow.cells ho (g := g)
  rcases ho.2 with ⟨rfl, hn⟩ | ⟨g, cap, cur, rfl, hb, hg, hnc, hcm, hcs, htake⟩
  · have hx : l = [] := List.eq_nil_of_length_eq_zero hn
    subst hx
    exact rdK_none _ w k _
  · refine ⟨some ⟨g, 0, none⟩, cap, rfl, hnc, hcm, fun i hi => ⟨g, 0, qs[i], rfl, hb, (Array.getElem?_eq_some_iff.1 hg).1, (hr i hi (by omega)).1, hR (hr i hi (by omega)).2 (fun b hb _ => ⟨hb.1, rfl⟩), fun j u hu => ?_⟩⟩
    have := hc g rfl (i * k + j) u (flat_at qs i j (by omega) u (fun i h => (hr i (by omega) h).1) hu)
    rw [add_plain] at this
    rw [Nat.zero_add]
    rwa [Nat.zero_add] at this
/-- Read from a lower block on. -/
theorem RdK.low {α : Type} {w : World} {base lo k : Nat} {R : (Nat → Prop) → World → α → List Value → Prop} {v : Value} {l : List α} (hR : Kp R) (h : RdK (fun b => base ≤ b) w k (R (fun b => base ≤ b) w) l v) (hlo : lo ≤ base) : RdK (fun b => lo ≤ b) w k (R (fun b => lo ≤ b) w) l v :=
  h.keep (fun x _ u hu => hR hu (fun b hb _ => ⟨by omega, rfl⟩)) (fun b hb _ => ⟨by omega, rfl⟩)
theorem RdK.stay {α : Type} {ok ok' : Nat → Prop} {w w' : World} {k : Nat} {R : (Nat → Prop) → World → α → List Value → Prop} {v : Value} {l : List α} (hR : Kp R) (h : RdK ok w k (R ok w) l v) (hk : ∀ b, ok b → b < w.heap.size → ok' b ∧ w'.heap[b]? = w.heap[b]?) : RdK ok' w' k (R ok' w') l v :=
  h.keep (fun x _ u hu => hR hu hk) hk
end Go.Proofs.YtccmmkhcacglhaaGreatDoor

/- One more element behind a row of the call's own: as a step of a region. -/
namespace Go.Proofs.YtccmmkhcacglhaaGreatDoor
open Go.RowKit Go.Lib
set_option linter.unusedSimpArgs false
set_option linter.unusedVariables false

theorem cells_new {w : World} {cs : List Value} {e : TypeId} : ∀ j u, cs[j]? = some u → (w.alloc (.cells cs.toArray e)).cell? ((⟨w.heap.size, 0, none⟩ : Addr).add j) = some u := fun j u hu => by
  rw [add_plain, Nat.zero_add]
  exact (Bn.new w cs e _ rfl j u hu).1
theorem src_row {P : Program} {t e : TypeId} (ht : P.underlying t = some (.slice e)) (w : World) {k : Nat} (cs : List Value) (hk : cs.length = k) (h1 : ∀ u ∈ cs, u.oneCell' = true) : Src P k t (.slice (some ⟨w.heap.size, 0, none⟩) 1 1) 1 cs (w.alloc (.cells cs.toArray e)) :=
  Src.ofSlice _ ht _ 1 1 _ (by rw [Nat.one_mul]; exact hk) cells_new h1
theorem step_push {α : Type} {P : Program} (w : World) {ops : Array Oper} {o : Oper} {a : Act} {K : Act → World → Prop} {Q : Exit → Act → World → Prop} {E : Prop} (hgd : o.guard = none) (s x : Operand) (t : TypeId)
    (ho : o.op = .call { callee := .builtin .append, args := #[s, x], argTypes := #[t, t] })
    (base : Nat) (e : TypeId) (i : TypeInfo) (z : Value) (k bytes : Nat) (ht : P.underlying t = some (.slice e)) (hi : P.info? e = some i) (hz : i.zero = some z)
    (hsize : i.size = k) (hby : i.bytes = bytes) (hzs : z.cells.size = k) {R : (Nat → Prop) → World → α → List Value → Prop} (hR : Kp R)
    (v : Value) (l : List α) (p : α) (cs : List Value) (lo : Nat) (hs : a.eval s = v) (hx : a.eval x = .slice (some ⟨w.heap.size, 0, none⟩) 1 1) (hk : cs.length = k) (h1 : ∀ u ∈ cs, u.oneCell' = true)
    (hown : OwnK w base e k R v l) (hp : R (fun b => lo ≤ b) w p cs) (hlo : base ≤ lo) (hv : ∀ x, v.ownBlock = some x → x < lo) (hroom : (l.length + 1 + (l.length + 1) / 4 + 192) * bytes ≤ 281474976710656)
    (h63 : l.length + 1 ≤ maxLen) (hbase : base ≤ w.heap.size)
    (h : ∀ v' w', OwnK w' base e k R v' (l ++ [p]) → (w.alloc (.cells cs.toArray e)).grownBy w' v.ownBlock → Below base w w' → K (a.put o.dst v') w') :
    if Region.wanted o (yielded ops a.tmps) = true then Oper.wp P o a (w.alloc (.cells cs.toArray e)) K Q else E := by
  have hal : Below w.heap.size w (w.alloc (.cells cs.toArray e)) := (Below.refl _ _).alloc (Nat.le_refl _) _
  obtain ⟨qs, ho1, hl1, hr1⟩ := hown.on hR hal
  refine step_append_at _ hgd s x t t ho base e i z k bytes ht hi hz hsize hby hzs v l.length qs.flatten hs ho1 _ 1 cs hx (src_row ht w cs hk h1) 1 (.inr hroom) (Nat.le_refl _) h63 (Nat.le_trans hbase hal.size) ?_
  intro v' w' hown' hg hat
  refine h v' w' (OwnK.snoc hR hk rfl ho1 hl1 hr1 hown' hg hat (hR hp (fun b hb hlt => ⟨hb, hal.block b hlt⟩)) hlo hv) hg ?_
  exact ((Below.refl base w).alloc hbase _).grown hg (Nat.le_trans hbase hal.size) (fun k hk => (World.ownsRow.lt ho1 k hk).1)
/-- Nothing but two blocks has turned, and new blocks. -/
structure Fy (X Y : Nat) (w w' : World) : Prop where
  os : w'.os = w.os
  tape : w'.tape = w.tape
  output : w'.output = w.output
  size : w.heap.size ≤ w'.heap.size
  block : ∀ k, k < w.heap.size → k ≠ X → k ≠ Y → w'.heap[k]? = w.heap[k]?
theorem Fy.of {X Y : Nat} {a b : World} (h : Fx X a b) : Fy X Y a b := ⟨h.os, h.tape, h.output, h.size, fun k hk h1 _ => h.block k hk (fun e => h1 (Option.some.inj e))⟩
theorem Fy.trans {X Y : Nat} {a b c : World} (h : Fy X Y a b) (k : Fy X Y b c) : Fy X Y a c :=
  ⟨k.os.trans h.os, k.tape.trans h.tape, k.output.trans h.output, Nat.le_trans h.size k.size, fun j hj h1 h2 => (k.block j (Nat.lt_of_lt_of_le hj h.size) h1 h2).trans (h.block j hj h1 h2)⟩
theorem Fy.setY {X Y i : Nat} {a b : World} (h : Fy X Y a b) (u : Value) : Fy X Y a (b.setCell ⟨Y, i, none⟩ u) :=
  ⟨h.os, h.tape, h.output, by simpa using h.size, fun k hk h1 h2 => (Below.heap_setCell _ _ _ _ (fun e => h2 e)).trans (h.block k hk h1 h2)⟩
theorem Fx.andY {X Y : Nat} {a b c : World} (h : Fx X a b) (k : Fy X Y b c) (hY : a.heap.size ≤ Y) : Fx X a c :=
  ⟨k.os.trans h.os, k.tape.trans h.tape, k.output.trans h.output, Nat.le_trans h.size k.size, fun j hj h1 => (k.block j (Nat.lt_of_lt_of_le hj h.size) (fun e => h1 (congrArg some e)) (by omega)).trans (h.block j hj h1)⟩
theorem Bn.fy {w w' : World} {X Y N : Nat} {c : Value} {cs : List Value} (h : Bn w N (c :: cs)) (hf : Fy X Y w w') (h1 : N ≠ X) (h2 : N ≠ Y) : Bn w' N (c :: cs) := h.blk (hf.block N h.lt h1 h2)
end Go.Proofs.YtccmmkhcacglhaaGreatDoor

/- What Take and Parse answer; and that what was printed is parsed as it was. Math alone. -/
namespace Go.Proofs.YtccmmkhcacglhaaGreatDoor
open Go.RowKit Go.Lib
set_option linter.unusedSimpArgs false
set_option linter.unusedVariables false

section
variable {nb : List UInt8 → Int} {rsv : List UInt8 → Bool} {l : List Tk}
theorem psr_up (f k n : Nat) (hk : 1 ≤ k) (hk6 : k ≤ 6) : BadOr (fun n n' _ => n < n') n (psr nb rsv l f k n (-1)) :=
  psr_all (fun n w x _ _ => Nat.lt_succ_self n) (fun n n' k x _ h => by omega) (fun n m n' w x y _ _ h h' => by omega) (fun n n' x h => by omega) f k n hk hk6
theorem lop_same {next next' : Nat → Int → Rd3} {k n0 : Nat} (hN : ∀ n, n0 ≤ n → n < l.length → next (n + 1) (-1) = next' (n + 1) (-1)) (hU : ∀ n, BadOr (fun n n' _ => n < n') n (next n (-1))) : ∀ (G n : Nat) (x : Sx), n0 ≤ n → lop l next k G (x, n, -1) = lop l next' k G (x, n, -1)
  | 0, n, x, _ => rfl
  | G + 1, n, x, h => by
    unfold lop
    cases hw : l[n]? with
    | none => rfl
    | some w =>
      have hlt := (List.getElem?_eq_some_iff.1 hw).1
      simp only
      rw [hN n h hlt]
      by_cases hc : (-1 : Int) < 0 ∧ lv w.2 = k
      · rw [if_pos hc, if_pos hc]
        by_cases h3 : k = 3
        · rw [if_pos h3, if_pos h3]
        · rw [if_neg h3, if_neg h3]
          obtain ⟨r, hr⟩ : ∃ r, next' (n + 1) (-1) = r := ⟨_, rfl⟩
          have hb := hU (n + 1)
          rw [hN n h hlt, hr] at hb
          rw [hr]
          obtain ⟨y, n', b'⟩ := r
          rcases hb with ⟨e1, e2⟩ | e1
          · simp only at e1 e2
            subst e1
            exact lop_same hN hU G n' _ (by omega)
          · simp only at e1
            rw [lop_pos e1, lop_pos e1]
      · rw [if_neg hc, if_neg hc]
theorem psr_lev {f k n : Nat} {b : Int} (h : ¬ k = 6) : psr nb rsv l (f + 1) k n b = lop l (psr nb rsv l f (k + 1)) k l.length (psr nb rsv l f (k + 1) n b) := by rw [psr, if_neg h]
theorem psr_more : ∀ (f k n : Nat), 1 ≤ k → k ≤ 6 → 7 * (l.length - n) + (6 - k) < f → psr nb rsv l (f + 1) k n (-1) = psr nb rsv l f k n (-1)
  | 0, k, n, _, _, h => absurd h (Nat.not_lt_zero _)
  | f + 1, k, n, hk, hk6, h => by
    by_cases h6 : k = 6
    · subst h6
      cases hw : l[n]? with
      | none => rw [psr6_end hw, psr6_end hw]
      | some w =>
        have hlt := (List.getElem?_eq_some_iff.1 hw).1
        by_cases hu : w.2 = [33] ∨ w.2 = [45]
        · rw [psr6_un hw hu, psr6_un hw hu, psr_more f 6 (n + 1) (by omega) (by omega) (by omega)]
        · by_cases h40 : w.2 = [40]
          · rw [psr6_par hw h40, psr6_par hw h40, psr_more f 1 (n + 1) (by omega) (by omega) (by omega)]
          · rw [psr6_leaf hw hu h40, psr6_leaf hw hu h40]
    · rw [psr_lev h6, psr_lev h6, psr_more f (k + 1) n (by omega) (by omega) (by omega)]
      obtain ⟨r, hr⟩ : ∃ r, psr nb rsv l f (k + 1) n (-1) = r := ⟨_, rfl⟩
      have hb := psr_up (nb := nb) (rsv := rsv) (l := l) f (k + 1) n (by omega) (by omega)
      rw [hr] at hb ⊢
      obtain ⟨y, n', b'⟩ := r
      rcases hb with ⟨e1, e2⟩ | e1
      · simp only at e1 e2
        subst e1
        exact lop_same (n0 := n) (fun m hm hml => psr_more f (k + 1) (m + 1) (by omega) (by omega) (by omega)) (fun m => psr_up (f + 1) (k + 1) m (by omega) (by omega)) _ _ _ (by omega)
      · simp only at e1
        rw [lop_pos e1, lop_pos e1]
theorem psr_same {k n f : Nat} (hk : 1 ≤ k) (hk6 : k ≤ 6) (h : 7 * (l.length - n) + (6 - k) < f) : ∀ j, psr nb rsv l (f + j) k n (-1) = psr nb rsv l f k n (-1)
  | 0 => rfl
  | j + 1 => (psr_more (f + j) k n hk hk6 (by omega)).trans (psr_same hk hk6 h j)
end

def fmX (x : Sx) : Bool := fmC x.1 x.2
/-- What the words are read as. -/
def rdC (l : List Tk) : Rd3 := psr (valB 0) rsvB l (7 * l.length + 6) 1 0 (-1)
/-- The expression that the words begin with, how many of them it is, or an error. -/
def takeC (l : List Tk) : Sx × Nat × Int := if 0 ≤ (rdC l).2.2 then (noX, (rdC l).2.2.toNat, 12) else if fmX (rdC l).1 = true then ((rdC l).1, (rdC l).2.1, 0) else (noX, 0, 13)
/-- The expression of a text, or an error. -/
def parseC (s : List UInt8) : Sx × Int := if (wordsS s).2.2 ≠ 0 then (noX, (wordsS s).2.2) else
  if (takeC ((wordsS s).1.map tkW)).2.2 ≠ 0 then (noX, (takeC ((wordsS s).1.map tkW)).2.2) else
  if (takeC ((wordsS s).1.map tkW)).2.1 < (wordsS s).1.length then (noX, 12) else ((takeC ((wordsS s).1.map tkW)).1, 0)
theorem Alk.fm {x : Sx} {d : Nat} {t : T d} (h : Alk x t) : fmX x = fmC d t := by
  unfold fmX fmC
  have h1 : ndC x.1 x.2 = ndC d t := h.1 _ _
  have h2 : dpC x.1 x.2 = dpC d t := h.1 _ _
  have h3 : sdC x.1 x.2 = sdC d t := h.1 _ _
  rw [h1, h2, h3]

theorem aroT_len (c : Nat × List Tk) (m : Nat) : (aroT c m).length ≤ c.2.length + 2 := by
  unfold aroT; split
  · simp
  · omega
theorem aroP_len (c : Nat × List Pc) (m : Nat) : (txP (aroP c m)).length ≤ (txP c.2).length + 2 := by
  unfold aroP; split
  · rw [txP_cons, txP_app, List.length_append, List.length_append]
    show 1 + (_ + 1) ≤ _
    omega
  · omega
theorem tks_len (dc : Int → List UInt8) : ∀ (d : Nat) (t : T d), Cl d t → (tks dc d t).2.length ≤ 5 * cnt d t
  | 0, t, _ => Empty.elim t
  | d + 1, t, hc => by
    rcases hc.cases with ⟨n, rfl⟩ | ⟨s, rfl⟩ | ⟨k, p, hk, rfl, hp⟩ | ⟨s, p, q, rfl, hp, hq⟩ | rfl
    · show 1 ≤ 5 * 1; omega
    · show 1 ≤ 5 * 1; omega
    · have ih := tks_len dc d p hp
      have ha := aroT_len (tks dc d p) 6
      have e : (tks dc (d + 1) (mkT k 0 ⟨#[]⟩ [p] : T (d + 1))).2.length = (aroT (tks dc d p) 6).length + 1 := by rcases hk with rfl | rfl <;> rfl
      rw [e, cnt_mk]
      show _ ≤ 5 * (cnt d p + 0 + 1)
      omega
    · have i1 := tks_len dc d p hp
      have i2 := tks_len dc d q hq
      have a1 := aroT_len (tks dc d p) (if lv s.data.toList = 3 then 4 else lv s.data.toList)
      have a2 := aroT_len (tks dc d q) (lv s.data.toList + 1)
      rw [tks_bin, cnt_mk, List.length_append, List.length_cons]
      show _ ≤ 5 * (cnt d p + (cnt d q + 0) + 1)
      omega
    · show (aroT (0, []) (if lv [] = 3 then 4 else lv []) ++ (3, []) :: aroT (0, []) (lv [] + 1)).length ≤ 5 * 1
      decide
theorem op_len {s : List UInt8} (h : opB s) : s.length ≤ 2 := by
  rcases h with rfl | rfl | rfl | rfl | rfl | rfl | rfl | rfl | rfl <;> decide
theorem pcs_len : ∀ (d : Nat) (t : T d), Cl d t → rtT dcN d t → (txP (pcs dcN d t).2).length ≤ 100 * cnt d t
  | 0, t, _, _ => Empty.elim t
  | d + 1, t, hc, hr => by
    rcases hc.cases with ⟨n, rfl⟩ | ⟨s, rfl⟩ | ⟨k, p, hk, rfl, hp⟩ | ⟨s, p, q, rfl, hp, hq⟩ | rfl
    · have hn : numB (dcN n) = true := hr.1 rfl
      have := (num_len hn).1
      show (dcN n ++ []).length ≤ 100 * 1
      rw [List.append_nil]; omega
    · have hn : nameS s.data.toList = true := hr.2.1 rfl
      have := name_len hn
      show (s.data.toList ++ []).length ≤ 100 * 1
      rw [List.append_nil]; omega
    · have hrp : rtT dcN d p := by
        have h2 : ∀ z ∈ [fold (rtF dcN) d p], z := hr.2.2.2.2
        exact h2 (fold (rtF dcN) d p) List.mem_cons_self
      have ih := pcs_len d p hp hrp
      have ha := aroP_len (pcs dcN d p) 6
      have e : (txP (pcs dcN (d + 1) (mkT k 0 ⟨#[]⟩ [p] : T (d + 1))).2).length = (txP (aroP (pcs dcN d p) 6)).length + 1 := by rcases hk with rfl | rfl <;> rfl
      rw [e, cnt_mk]
      show _ ≤ 100 * (cnt d p + 0 + 1)
      omega
    · have h2 : ∀ z ∈ [fold (rtF dcN) d p, fold (rtF dcN) d q], z := hr.2.2.2.2
      have ho : s.data.toList.length ≤ 2 := op_len (hr.2.2.1 rfl : opB s.data.toList)
      have i1 := pcs_len d p hp (h2 (fold (rtF dcN) d p) List.mem_cons_self)
      have i2 := pcs_len d q hq (h2 (fold (rtF dcN) d q) (List.mem_cons_of_mem _ List.mem_cons_self))
      have a1 := aroP_len (pcs dcN d p) (if lv s.data.toList = 3 then 4 else lv s.data.toList)
      have a2 := aroP_len (pcs dcN d q) (lv s.data.toList + 1)
      have e : (pcs dcN (d + 1) (mkT 5 0 s [p, q] : T (d + 1))).2 = aroP (pcs dcN d p) (if lv s.data.toList = 3 then 4 else lv s.data.toList) ++ none :: some (3, s.data.toList) :: none :: aroP (pcs dcN d q) (lv s.data.toList + 1) := rfl
      rw [e, cnt_mk, txP_app, txP_cons, txP_cons, txP_cons, List.length_append, List.length_append, List.length_append, List.length_append]
      show _ + (1 + (s.data.toList.length + (1 + _))) ≤ 100 * (cnt d p + (cnt d q + 0) + 1)
      omega
    · have : (1 : Int) ≤ 0 ∧ (0 : Int) ≤ 5 := hr.2.2.2.1
      omega
theorem nd_cnt : ∀ (d : Nat) (t : T d), ndC d t = min (cnt d t) 41
  | 0, t => Empty.elim t
  | d + 1, t => by
    obtain ⟨k, n, s, ps, rfl⟩ := T.open t
    rw [ndC_mk, cnt_mk]
    have : ∀ l : List (T d), min ((l.map (ndC d)).sum + 1) 41 = min ((l.map (cnt d)).sum + 1) 41 := fun l => by
      induction l with
      | nil => rfl
      | cons p r ih =>
        have := nd_cnt d p
        simp only [List.map_cons, List.sum_cons]
        omega
    exact this ps
theorem fm_parts {d : Nat} {t : T d} (h : fmC d t = true) : cnt d t ≤ 40 ∧ sdC d t = true := by
  unfold fmC at h
  simp only [Bool.and_eq_true, decide_eq_true_eq] at h
  have := nd_cnt d t
  exact ⟨by omega, h.2⟩
/-- The text of an expression. -/
def txtC (d : Nat) (t : T d) : List UInt8 := txP (pcs dcN d t).2
theorem er_words {l : List UInt8} {ts : List Tk} (h : er (wordsS l) = (ts.map (fun w => (w.1, runes w.2)), 0)) : (wordsS l).2.2 = 0 ∧ (wordsS l).1.map tkW = ts := by
  refine ⟨congrArg Prod.snd h, ?_⟩
  have h1 : (wordsS l).1.map (fun w => (w.1, w.2.1)) = ts.map (fun w => (w.1, runes w.2)) := congrArg Prod.fst h
  have h2 := congrArg (List.map (fun x : Nat × List Ru => (x.1, byt x.2))) h1
  rw [List.map_map, List.map_map] at h2
  have e : ts.map ((fun x : Nat × List Ru => (x.1, byt x.2)) ∘ fun w => (w.1, runes w.2)) = ts := by
    have : ∀ w ∈ ts, ((fun x : Nat × List Ru => (x.1, byt x.2)) ∘ fun w : Tk => (w.1, runes w.2)) w = id w := fun w _ => by
      show (w.1, byt (runes w.2)) = w
      rw [byt_runes _ _ (Nat.le_refl _)]
    rw [List.map_congr_left this, List.map_id]
  rw [e] at h2
  exact h2
theorem parse_of {s : List UInt8} {ts : List Tk} {x : Sx} (hw : er (wordsS s) = (ts.map (fun w => (w.1, runes w.2)), 0)) (hr : rdC ts = (x, ts.length, -1)) (hf : fmX x = true) : parseC s = (x, 0) := by
  obtain ⟨h1, h2⟩ := er_words hw
  have hl : (wordsS s).1.length = ts.length := by rw [← h2, List.length_map]
  have ht : takeC ts = (x, ts.length, 0) := by
    unfold takeC
    rw [hr, if_neg (by show ¬ (0 : Int) ≤ -1; decide), if_pos hf]
  unfold parseC
  rw [h2, ht, hl, if_neg (by simpa using h1), if_neg (by simp), if_neg (by simp)]
/-- What was printed is parsed as it was. -/
theorem parse_printed {d : Nat} {t : T d} (hc : Cl d t) (hf : fmC d t = true) (hp : plC d t = true) : ∃ x, parseC (txtC d t) = (x, 0) ∧ Alk x t := by
  obtain ⟨h40, hs⟩ := fm_parts hf
  obtain ⟨ho, hr⟩ := ok_sound d t hc hs hp
  have hl := tks_len dcN d t hc
  have hb := pcs_len d t hc hr
  have hw := printed_words hc hr (by omega) (by omega)
  obtain ⟨x, hx, ha⟩ := reads_back hc ho (f := 7 * (tks dcN d t).2.length + 6 + (7 * d + 5)) (by omega)
  rw [psr_same (by omega) (by omega) (by omega)] at hx
  exact ⟨x, parse_of hw hx (by rw [ha.fm, hf]), ha⟩
/-- With brackets around it, too. -/
theorem parse_par {d : Nat} {t : T d} (hc : Cl d t) (hf : fmC d t = true) (hp : plC d t = true) : ∃ x, parseC (40 :: (txtC d t ++ [41])) = (x, 0) ∧ Alk x t := by
  obtain ⟨h40, hs⟩ := fm_parts hf
  obtain ⟨ho, hr⟩ := ok_sound d t hc hs hp
  have hl := tks_len dcN d t hc
  have hb := pcs_len d t hc hr
  obtain ⟨q1, q2⟩ := pcs_tks dcN d t
  have htk : tkP (some (3, [40]) :: ((pcs dcN d t).2 ++ [some (3, [41])])) = (3, [40]) :: ((tks dcN d t).2 ++ [(3, [41])]) := by
    show (3, [40]) :: tkP ((pcs dcN d t).2 ++ [some (3, [41])]) = _
    rw [tkP_app, q2]; rfl
  have htx : txP (some (3, [40]) :: ((pcs dcN d t).2 ++ [some (3, [41])])) = 40 :: (txtC d t ++ [41]) := by
    show [40] ++ txP ((pcs dcN d t).2 ++ [some (3, [41])]) = _
    rw [txP_app]; rfl
  have hfit : FitsAll (some (3, [40]) :: ((pcs dcN d t).2 ++ [some (3, [41])])) [] := ⟨fits_open _, fits_app _ _ _ ((fits_tree dcN d t hc hr).1 _ (post_shut [])) ⟨fits_shut _, trivial⟩⟩
  have hw : er (wordsS (40 :: (txtC d t ++ [41]))) = (((3, [40]) :: ((tks dcN d t).2 ++ [(3, [41])])).map (fun w : Tk => (w.1, runes w.2)), 0) := by
    rw [← htx, ← htk]
    unfold wordsS
    have hlen : (txP (some (3, [40]) :: ((pcs dcN d t).2 ++ [some (3, [41])]))).length ≤ 12000 := by
      rw [htx, List.length_cons, List.length_append]
      show (txP (pcs dcN d t).2).length + 1 + 1 ≤ 12000
      omega
    rw [if_neg (by omega), words_pcs _ 1 1 0 hfit (by rw [htk]; simp; omega)]
  obtain ⟨ts, hts⟩ : ∃ ts, ((3, [40]) : Tk) :: ((tks dcN d t).2 ++ [(3, [41])]) = ts := ⟨_, rfl⟩
  rw [hts] at hw
  obtain ⟨x, hx, ha⟩ := par_any (nb := valB 0) (rsv := rsvB) (l := ts) (both_any (valB 0) rsvB ts dcN d).1 hc ho (k := 1) (f := 7 * ts.length + 6 + (7 * d + 11)) (at' := 0) (post := []) (by omega) (by omega) (by omega) (by rw [hts]; simp) (fun w r hw => by cases hw)
  rw [psr_same (by omega) (by omega) (by omega), hts, Nat.zero_add] at hx
  exact ⟨x, parse_of hw hx (by rw [ha.fm, hf]), ha⟩
/-- What is parsed is fine, and formed. -/
theorem parse_fine {s : List UInt8} (h : (parseC s).2 = 0) : Fine (parseC s).1 ∧ fmX (parseC s).1 = true := by
  unfold parseC at h ⊢
  by_cases h1 : (wordsS s).2.2 ≠ 0
  · rw [if_pos h1] at h; exact absurd h h1
  rw [if_neg h1] at h ⊢
  by_cases h2 : (takeC ((wordsS s).1.map tkW)).2.2 ≠ 0
  · rw [if_pos h2] at h; exact absurd h h2
  rw [if_neg h2] at h ⊢
  by_cases h3 : (takeC ((wordsS s).1.map tkW)).2.1 < (wordsS s).1.length
  · rw [if_pos h3] at h; simp at h
  rw [if_neg h3] at h ⊢
  simp only
  have ho := (words_one (by simpa using h1)).1
  have hb : BadOr _ 0 (rdC ((wordsS s).1.map tkW)) := fine_read ho _ 1 0 (by omega) (by omega)
  unfold takeC at h2 ⊢
  rcases hb with ⟨e1, e2⟩ | e1
  · rw [if_neg (by omega)] at h2 ⊢
    by_cases hq : fmX (rdC ((wordsS s).1.map tkW)).1 = true
    · rw [if_pos hq]; exact ⟨e2.1, hq⟩
    · rw [if_neg hq] at h2; simp at h2
  · rw [if_pos e1] at h2; simp at h2
end Go.Proofs.YtccmmkhcacglhaaGreatDoor

/- The number that digits spell, as strconv.ParseInt tells it. Math alone. -/
namespace Go.Proofs.YtccmmkhcacglhaaGreatDoor
open Go.RowKit Go.Lib
set_option linter.unusedSimpArgs false
set_option linter.unusedVariables false

theorem valB_ge : ∀ (l : List UInt8) (n : Int), 0 ≤ n → l.all dB = true → n ≤ valB n l
  | [], n, _, _ => Int.le_refl _
  | c :: r, n, hn, h => by
    simp only [List.all_cons, Bool.and_eq_true] at h
    have hd : 48 ≤ c.toNat ∧ c.toNat ≤ 57 := of_decide_eq_true h.1
    have := valB_ge r (10 * n + ((c.toNat : Int) - 48)) (by omega) h.2
    show n ≤ valB (10 * n + ((c.toNat : Int) - 48)) r
    omega
theorem parseM : ∀ (l : List UInt8) (acc : Nat), l.all dB = true → valB (acc : Int) l ≤ 1000000000 → parseUintM (2 ^ 64 - 1) acc l = .ok (valB (acc : Int) l).toNat
  | [], acc, _, _ => by
    show NumEnd.ok acc = .ok ((acc : Int)).toNat
    rw [Int.toNat_natCast]
  | c :: r, acc, h, hb => by
    simp only [List.all_cons, Bool.and_eq_true] at h
    have hd : 48 ≤ c.toNat ∧ c.toNat ≤ 57 := of_decide_eq_true h.1
    have e : valB (acc : Int) (c :: r) = valB ((acc * 10 + (c.toNat - 48) : Nat) : Int) r := by
      show valB (10 * (acc : Int) + ((c.toNat : Int) - 48)) r = _
      congr 1
      omega
    rw [e] at hb ⊢
    have hg := valB_ge r ((acc * 10 + (c.toNat - 48) : Nat) : Int) (by omega) h.2
    rw [parseUintM, if_pos hd, if_neg (by omega), if_neg (by omega)]
    exact parseM r _ h.2 hb
theorem parse_num {b : List UInt8} (h : numB b = true) : parseIntB 64 b = .ok (valB 0 b) := by
  obtain ⟨h1, h2, h3⟩ := num_len h
  have hall : b.all dB = true := by
    unfold numB at h
    simp only [Bool.and_eq_true] at h
    simp_all
  cases b with
  | nil => revert h; decide
  | cons c r =>
    have hc := hall
    simp only [List.all_cons, Bool.and_eq_true] at hc
    have hd : 48 ≤ c.toNat ∧ c.toNat ≤ 57 := of_decide_eq_true hc.1
    have hp := parseM (c :: r) 0 hall h3
    rw [parseIntB_plain 64 c r (by omega) (by omega)]
    unfold parseUintB
    rw [if_neg (by simp), hp]
    show signlessC (2 ^ (64 - 1)) (.ok (valB 0 (c :: r)).toNat) = _
    unfold signlessC
    simp only
    rw [if_neg (by omega), Int.toNat_of_nonneg h2]
end Go.Proofs.YtccmmkhcacglhaaGreatDoor

/- Charts, and how they are read of words, as the document's reader does. Math alone. -/
namespace Go.Proofs.YtccmmkhcacglhaaGreatDoor
open Go.RowKit Go.Lib
set_option linter.unusedVariables false

abbrev Pl := Int × Int
/-- An on: event, guard (is there one, and which), target, sets, place. -/
abbrev OnC := List UInt8 × (Bool × Sx) × List UInt8 × List (List UInt8 × Sx) × Pl
/-- A state but for what lies in it: name, place, all, end, do, undo, where, retries, ons. -/
abbrev HdC := (List UInt8 × Pl) × (Bool × Bool) × (List UInt8 × List UInt8) × (Int × Int) × List OnC
/-- States that lie less than d deep in one another. -/
def St : Nat → Type
  | 0 => Empty
  | d + 1 => HdC × List (St d)
/-- The reader: the words that are left, the place of the first error, the error. -/
abbrev RsC := List Wd × Pl × Int
def wPl (w : Wd) : Pl := (w.2.2.1, w.2.2.2)
section
variable (fin : Pl)
def hereR (r : RsC) : Pl := match r.1 with | [] => fin | w :: _ => wPl w
def failC (e : Int) (p : Pl) (r : RsC) : RsC := if r.2.2 = 0 then (r.1, p, e) else r
def isC (s : List UInt8) (r : RsC) : Bool := decide (r.2.2 = 0) && (match r.1 with | [] => false | w :: _ => decide ((tkW w).2 = s))
def takeR (s : List UInt8) (r : RsC) : RsC := if isC s r = true then (r.1.tail, r.2) else failC 12 (hereR fin r) r
/-- Is it a name that is not reserved? -/
def plainB (s : List UInt8) : Bool := nameS s && !rsvB s
def nameR (r : RsC) : (List UInt8 × Pl) × RsC := match r.2.2 = 0, r.1 with
  | _, [] => (([], (0, 0)), failC 12 (hereR fin r) r)
  | _, w :: l => if r.2.2 = 0 ∧ plainB (tkW w).2 = true then (((tkW w).2, wPl w), (l, r.2)) else (([], (0, 0)), failC 12 (hereR fin r) r)
def numR (r : RsC) : Int × RsC := match r.1 with
  | [] => (0, failC 12 (hereR fin r) r)
  | w :: l => if r.2.2 = 0 ∧ w.1 = 2 then (valB 0 (tkW w).2, (l, r.2)) else (0, failC 12 (hereR fin r) r)
def exprR (r : RsC) : Sx × RsC := if r.2.2 ≠ 0 then (noX, r) else
  if (takeC (r.1.map tkW)).2.2 = 0 then ((takeC (r.1.map tkW)).1, (r.1.drop (takeC (r.1.map tkW)).2.1, r.2)) else
  if (takeC (r.1.map tkW)).2.2 = 13 then ((takeC (r.1.map tkW)).1, failC 13 (hereR fin r) r) else
  ((takeC (r.1.map tkW)).1, failC (takeC (r.1.map tkW)).2.2 (hereR fin (r.1.drop (takeC (r.1.map tkW)).2.1, r.2)) (r.1.drop (takeC (r.1.map tkW)).2.1, r.2))
def wOn : List UInt8 := [111, 110]
def wIf : List UInt8 := [105, 102]
def wGo : List UInt8 := [103, 111]
def wSet : List UInt8 := [115, 101, 116]
def wAll : List UInt8 := [97, 108, 108]
def wEnd : List UInt8 := [101, 110, 100]
def wDo : List UInt8 := [100, 111]
def wUndo : List UInt8 := [117, 110, 100, 111]
def wAt : List UInt8 := [97, 116]
def wRetries : List UInt8 := [114, 101, 116, 114, 105, 101, 115]
def wState : List UInt8 := [115, 116, 97, 116, 101]
def wChart : List UInt8 := [99, 104, 97, 114, 116]
def wVar : List UInt8 := [118, 97, 114]
/-- The sets behind an on; g bounds how many. -/
def setsR : Nat → List (List UInt8 × Sx) → RsC → List (List UInt8 × Sx) × RsC
  | 0, acc, r => (acc, r)
  | g + 1, acc, r => if isC wSet r = true then
      let a := nameR fin (takeR fin wSet r)
      let b := exprR fin (takeR fin [61] a.2)
      setsR g (acc ++ [(a.1.1, b.1)]) b.2
    else (acc, r)
def onR (r : RsC) : OnC × RsC :=
  let a := nameR fin (takeR fin wOn r)
  let g : (Bool × Sx) × RsC := if isC wIf a.2 = true then ((fun x => ((true, x.1), x.2)) (exprR fin (takeR fin wIf a.2))) else ((false, noX), a.2)
  let t := nameR fin (takeR fin wGo g.2)
  let s := setsR fin (t.2.1.length + 1) [] t.2
  ((a.1.1, g.1, t.1.1, s.1, a.1.2), s.2)
/-- What kind of state it is: all, end, do .. undo .. at .. retries, or nothing of these. -/
def kindR (r : RsC) : ((Bool × Bool) × (List UInt8 × List UInt8) × (Int × Int)) × RsC :=
  if isC wAll r = true then (((true, false), ([], []), (0, 0)), takeR fin wAll r) else
  if isC wEnd r = true then (((false, true), ([], []), (0, 0)), takeR fin wEnd r) else
  if isC wDo r = true then
    let a := nameR fin (takeR fin wDo r)
    let b := nameR fin (takeR fin wUndo a.2)
    let c := numR fin (takeR fin wAt b.2)
    let e := numR fin (takeR fin wRetries c.2)
    (((false, false), (a.1.1, b.1.1), (c.1, e.1)), e.2)
  else (((false, false), ([], []), (0, 0)), r)
/-- The ons and states within a state, of a reader of inner states; g bounds how many. -/
def inR {α : Type} (inner : RsC → α × RsC) : Nat → List OnC → List α → RsC → (List OnC × List α) × RsC
  | 0, os, ss, r => ((os, ss), r)
  | g + 1, os, ss, r => if r.2.2 = 0 ∧ isC [125] r = false then
      if isC wOn r = true then inR inner g (os ++ [(onR fin r).1]) ss (onR fin r).2
      else inR inner g os (ss ++ [(inner r).1]) (inner r).2
    else ((os, ss), r)
/-- A state, k below the deepest that may be: at 0 all is refused. -/
def stR : (k : Nat) → RsC → St (k + 1) × RsC
  | 0, r => (((([], (0, 0)), (false, false), ([], []), (0, 0), []), []), failC (if isC wState r = true then 13 else 12) (hereR fin r) r)
  | k + 1, r =>
    let a := nameR fin (takeR fin wState r)
    let b := kindR fin (takeR fin [123] a.2)
    let c := inR fin (stR k) (b.2.1.length + 1) [] [] b.2
    (((a.1, b.1.1, b.1.2.1, b.1.2.2, c.1.1), c.1.2), takeR fin [125] c.2)
/-- The variables; g bounds how many. -/
def varsR : Nat → List (List UInt8 × Int × Pl) → RsC → List (List UInt8 × Int × Pl) × RsC
  | 0, acc, r => (acc, r)
  | g + 1, acc, r => if isC wVar r = true then
      let a := nameR fin (takeR fin wVar r)
      let b := takeR fin [61] a.2
      let n := if isC [45] b = true then (fun x => (-x.1, x.2)) (numR fin (takeR fin [45] b)) else numR fin b
      varsR g (acc ++ [(a.1.1, n.1, a.1.2)]) n.2
    else (acc, r)
def stsR : Nat → List (St 7) → RsC → List (St 7) × RsC
  | 0, acc, r => (acc, r)
  | g + 1, acc, r => if r.2.2 = 0 ∧ isC [125] r = false then stsR g (acc ++ [(stR fin 6 r).1]) (stR fin 6 r).2 else (acc, r)
end
/-- A chart: name, place, version, variables, states. -/
abbrev ChC := (List UInt8 × Pl) × Int × List (List UInt8 × Int × Pl) × List (St 7)
def noC : ChC := (([], (0, 0)), 0, [], [])
/-- The chart of words, or an error at a place. -/
def chR (fin : Pl) (ws : List Wd) : ChC × Pl × Int :=
  let a := nameR fin (takeR fin wChart (ws, (0, 0), 0))
  let n := numR fin a.2
  let b := takeR fin [123] n.2
  let v := varsR fin (b.1.length + 1) [] b
  let s := stsR fin (v.2.1.length + 1) [] v.2
  let e := takeR fin [125] s.2
  let z := if e.2.2 = 0 ∧ e.1 ≠ [] then failC 12 (hereR fin e) e else e
  if z.2.2 = 0 then ((a.1, n.1, v.1, s.1), (0, 0), 0) else (noC, z.2.1, z.2.2)
/-- The place behind a text. -/
def endP : List Ru → Int → Int → Pl
  | [], ln, co => (ln, co)
  | u :: r, ln, co => if u.1 = 10 then endP r (ln + 1) 1 else endP r ln (co + 1)
/-- The chart of a text. -/
def readC (s : List UInt8) : ChC × Pl × Int :=
  if (wordsS s).2.2 ≠ 0 then (noC, (wordsS s).2.1, (wordsS s).2.2) else chR (endP (runes s) 1 1) (wordsS s).1

/-- Reading takes words away, or has an error. -/
theorem failC_len (e : Int) (p : Pl) (r : RsC) : (failC e p r).1 = r.1 := by unfold failC; split <;> rfl
theorem failC_bad {e : Int} (he : e ≠ 0) (p : Pl) (r : RsC) : (failC e p r).2.2 ≠ 0 := by
  unfold failC
  split
  · exact he
  · rename_i h; exact h
theorem takeR_len (fin : Pl) (s : List UInt8) (r : RsC) : (takeR fin s r).1.length ≤ r.1.length := by
  unfold takeR
  split
  · rw [List.length_tail]; omega
  · rw [failC_len]; exact Nat.le_refl _
theorem takeR_less (fin : Pl) {s : List UInt8} {r : RsC} (h : isC s r = true) : (takeR fin s r).1.length < r.1.length := by
  unfold takeR
  rw [if_pos h]
  unfold isC at h
  cases hr : r.1 with
  | nil => rw [hr] at h; simp at h
  | cons w l => simp
theorem nameR_len (fin : Pl) (r : RsC) : (nameR fin r).2.1.length ≤ r.1.length := by
  unfold nameR
  cases hr : r.1 with
  | nil => simp only [failC_len, hr]; exact Nat.le_refl _
  | cons w l =>
    simp only
    split
    · simp
    · simp only [failC_len, hr]; exact Nat.le_refl _
theorem numR_len (fin : Pl) (r : RsC) : (numR fin r).2.1.length ≤ r.1.length := by
  unfold numR
  cases hr : r.1 with
  | nil => simp only [failC_len, hr]; exact Nat.le_refl _
  | cons w l =>
    simp only
    split
    · simp
    · simp only [failC_len, hr]; exact Nat.le_refl _
theorem exprR_len (fin : Pl) (r : RsC) : (exprR fin r).2.1.length ≤ r.1.length := by
  unfold exprR
  split
  · exact Nat.le_refl _
  · split
    · simp
    · split
      · simp only [failC_len]; exact Nat.le_refl _
      · simp only [failC_len, List.length_drop]; omega
end Go.Proofs.YtccmmkhcacglhaaGreatDoor

/- The number that digits spell, as strconv.Atoi tells it; what kinds of words tell. Math alone. -/
namespace Go.Proofs.YtccmmkhcacglhaaGreatDoor
open Go.RowKit Go.Lib
set_option linter.unusedSimpArgs false
set_option linter.unusedVariables false

theorem atoiM : ∀ (l : List UInt8) (acc : Nat), l.all dB = true → valB (acc : Int) l ≤ 1000000000 → parseUint10 acc l = .ok (valB (acc : Int) l).toNat
  | [], acc, _, _ => by
    show NumEnd.ok acc = .ok ((acc : Int)).toNat
    rw [Int.toNat_natCast]
  | c :: r, acc, h, hb => by
    simp only [List.all_cons, Bool.and_eq_true] at h
    have hd : 48 ≤ c.toNat ∧ c.toNat ≤ 57 := of_decide_eq_true h.1
    have e : valB (acc : Int) (c :: r) = valB ((acc * 10 + (c.toNat - 48) : Nat) : Int) r := by
      show valB (10 * (acc : Int) + ((c.toNat : Int) - 48)) r = _
      congr 1
      omega
    rw [e] at hb ⊢
    have hg := valB_ge r ((acc * 10 + (c.toNat - 48) : Nat) : Int) (by omega) h.2
    rw [parseUint10, if_pos hd, if_neg (by omega), if_neg (by omega)]
    exact atoiM r _ h.2 hb
theorem atoi_num {b : List UInt8} (h : numB b = true) : atoiAll b = .ok (valB 0 b) := by
  obtain ⟨h1, h2, h3⟩ := num_len h
  have hall : b.all dB = true := by
    unfold numB at h
    simp only [Bool.and_eq_true] at h
    simp_all
  have hle : valB 0 b ≤ 1000000000 := by
    unfold numB at h
    simp only [Bool.and_eq_true, decide_eq_true_eq] at h
    exact h.2
  cases b with
  | nil => revert h; decide
  | cons c r =>
    have hd : 48 ≤ c.toNat ∧ c.toNat ≤ 57 := by
      simp only [List.all_cons, Bool.and_eq_true] at hall
      exact of_decide_eq_true hall.1
    have hm : parseMag (c :: r) = .ok (valB 0 (c :: r)).toNat := by
      unfold parseMag
      rw [if_neg (by simp)]
      exact atoiM (c :: r) 0 hall hle
    have hg := valB_ge (c :: r) 0 (by omega) hall
    unfold atoiAll
    simp only
    rw [if_neg (show ¬ (c.toNat = 43 ∨ c.toNat = 45) by omega), hm]
    simp only
    rw [if_neg (by omega), if_neg (by omega), if_neg (by omega)]
    congr 1
    omega
theorem num_small {b : List UInt8} (h : numB b = true) : 0 ≤ valB 0 b ∧ valB 0 b ≤ 1000000000 := by
  have hall : b.all dB = true := by
    unfold numB at h
    simp only [Bool.and_eq_true] at h
    simp_all
  refine ⟨valB_ge b 0 (by omega) hall, ?_⟩
  unfold numB at h
  simp only [Bool.and_eq_true, decide_eq_true_eq] at h
  exact h.2
theorem nx_dig {c : UInt8} {r : List UInt8} (h : 48 ≤ c.toNat ∧ c.toNat ≤ 57) : (nx (c :: r)).1 = (c.toNat : Int) := by
  obtain ⟨t, _, h2, _⟩ := head_small c r
  exact (h2 (by omega)).2
/-- A name is no number, and no sign. -/
theorem name_num {b : List UInt8} (h : nameS b = true) : numB b = false := by
  cases b with
  | nil => rfl
  | cons c r =>
    unfold nameS at h
    simp only [Bool.and_eq_true] at h
    have hl := h.1.1
    cases hn : numB (c :: r) with
    | false => rfl
    | true =>
      have hall : (c :: r).all dB = true := by
        unfold numB at hn
        simp only [Bool.and_eq_true] at hn
        simp_all
      simp only [List.all_cons, Bool.and_eq_true] at hall
      have hd : 48 ≤ c.toNat ∧ c.toNat ≤ 57 := of_decide_eq_true hall.1
      rw [nx_dig hd, letter_eq] at hl
      simp only [Bool.or_eq_true, Bool.and_eq_true, decide_eq_true_eq] at hl
      omega
theorem seg_head {K : Nat} {seg : List Ru} (h : OneW K seg) {v : Ru} {t : List Ru} (e : seg = v :: t) : (nx (byt seg)).1 = v.1 := by
  have hr := h.runes
  have hb : byt seg ≠ [] := by
    intro e2
    rw [e2] at hr
    rw [← hr] at e
    cases e
  have := runes_cons hb
  rw [hr] at this
  have h2 := e.symm.trans this
  injection h2 with h3 h4
  exact (congrArg Prod.fst h3).symm
/-- A word is of kind 1 just if it is a name. -/
theorem kind_name {K : Nat} {seg : List Ru} (h : OneW K seg) : K = 1 ↔ nameS (byt seg) = true := by
  rcases h.kind with ⟨k, n⟩ | ⟨k, n⟩ | ⟨k, v, t, e, l, d⟩
  · exact ⟨fun _ => n, fun _ => k⟩
  · constructor
    · intro h1; omega
    · intro h1; rw [name_num h1] at n; cases n
  · constructor
    · intro h1; omega
    · intro h1
      unfold nameS at h1
      simp only [Bool.and_eq_true] at h1
      rw [seg_head h e, l] at h1
      exact absurd h1.1.1 (by decide)
/-- A number is not reserved. -/
theorem rsv_num {b : List UInt8} (h : numB b = true) : rsvB b = false := by
  cases hr : rsvB b with
  | false => rfl
  | true =>
    have hall : rsv13.all (fun x => !numB x) = true := by decide
    unfold rsvB at hr
    obtain ⟨x, hx, hb⟩ := List.any_eq_true.1 hr
    have h1 := List.all_eq_true.1 hall x hx
    have h2 : b = x := by simpa using hb
    subst h2
    rw [h] at h1
    exact absurd h1 (by decide)
end Go.Proofs.YtccmmkhcacglhaaGreatDoor

/- Reading a chart takes words away, or has an error. Math alone. -/
namespace Go.Proofs.YtccmmkhcacglhaaGreatDoor
open Go.RowKit Go.Lib
set_option linter.unusedVariables false
/-- No words more; without an error behind it there was none ahead. -/
def Goes (r r' : RsC) : Prop := r'.1.length ≤ r.1.length ∧ (r'.2.2 = 0 → r.2.2 = 0)
theorem Goes.refl (r : RsC) : Goes r r := ⟨Nat.le_refl _, id⟩
theorem Goes.trans {a b c : RsC} (h : Goes a b) (k : Goes b c) : Goes a c := ⟨Nat.le_trans k.1 h.1, fun e => h.2 (k.2 e)⟩
theorem goes_fail (e : Int) (p : Pl) (r : RsC) : Goes r (failC e p r) := by
  refine ⟨by rw [failC_len]; exact Nat.le_refl _, fun h => ?_⟩
  unfold failC at h
  split at h
  · assumption
  · exact h
theorem isC_ok {s : List UInt8} {r : RsC} (h : isC s r = true) : r.2.2 = 0 := by
  unfold isC at h
  simp only [Bool.and_eq_true, decide_eq_true_eq] at h
  exact h.1
theorem goes_take (fin : Pl) (s : List UInt8) (r : RsC) : Goes r (takeR fin s r) := by
  by_cases h : isC s r = true
  · exact ⟨takeR_len fin s r, fun _ => isC_ok h⟩
  · unfold takeR; rw [if_neg h]; exact goes_fail _ _ _
theorem take_ok {fin : Pl} {s : List UInt8} {r : RsC} (h : (takeR fin s r).2.2 = 0) : isC s r = true := by
  by_cases hi : isC s r = true
  · exact hi
  · unfold takeR at h
    rw [if_neg hi] at h
    exact absurd h (failC_bad (by decide) _ _)
theorem goes_name (fin : Pl) (r : RsC) : Goes r (nameR fin r).2 := by
  refine ⟨nameR_len fin r, ?_⟩
  unfold nameR
  cases hr : r.1 with
  | nil => exact (goes_fail _ _ _).2
  | cons w l =>
    simp only
    split
    · rename_i h; exact fun _ => h.1
    · exact (goes_fail _ _ _).2
theorem goes_num (fin : Pl) (r : RsC) : Goes r (numR fin r).2 := by
  refine ⟨numR_len fin r, ?_⟩
  unfold numR
  cases hr : r.1 with
  | nil => exact (goes_fail _ _ _).2
  | cons w l =>
    simp only
    split
    · rename_i h; exact fun _ => h.1
    · exact (goes_fail _ _ _).2
theorem goes_expr (fin : Pl) (r : RsC) : Goes r (exprR fin r).2 := by
  refine ⟨exprR_len fin r, ?_⟩
  unfold exprR
  split
  · exact id
  · rename_i h
    exact fun _ => by simpa using h
theorem goes_sets (fin : Pl) : ∀ (g : Nat) (acc : List (List UInt8 × Sx)) (r : RsC), Goes r (setsR fin g acc r).2
  | 0, acc, r => Goes.refl r
  | g + 1, acc, r => by
    unfold setsR
    split
    · exact ((goes_take fin wSet r).trans ((goes_name fin _).trans ((goes_take fin [61] _).trans (goes_expr fin _)))).trans (goes_sets fin g _ _)
    · exact Goes.refl r
/-- Behind the word on. -/
theorem goes_on1 (fin : Pl) (r : RsC) : Goes (takeR fin wOn r) (onR fin r).2 := by
  have h1 : Goes (takeR fin wOn r) (nameR fin (takeR fin wOn r)).2 := goes_name fin _
  have h2 : Goes (nameR fin (takeR fin wOn r)).2 (if isC wIf (nameR fin (takeR fin wOn r)).2 = true then ((fun x => ((true, x.1), x.2)) (exprR fin (takeR fin wIf (nameR fin (takeR fin wOn r)).2)) : (Bool × Sx) × RsC) else ((false, noX), (nameR fin (takeR fin wOn r)).2)).2 := by
    split
    · exact (goes_take fin wIf _).trans (goes_expr fin _)
    · exact Goes.refl _
  exact h1.trans (h2.trans ((goes_take fin wGo _).trans ((goes_name fin _).trans (goes_sets fin _ _ _))))
theorem goes_on (fin : Pl) (r : RsC) : Goes r (onR fin r).2 := (goes_take fin wOn r).trans (goes_on1 fin r)
theorem on_less {fin : Pl} {r : RsC} (h : isC wOn r = true) : (onR fin r).2.1.length < r.1.length := Nat.lt_of_le_of_lt (goes_on1 fin r).1 (takeR_less fin h)
theorem goes_kind (fin : Pl) (r : RsC) : Goes r (kindR fin r).2 := by
  unfold kindR
  split
  · exact goes_take fin _ r
  · split
    · exact goes_take fin _ r
    · split
      · exact (goes_take fin wDo r).trans ((goes_name fin _).trans ((goes_take fin wUndo _).trans ((goes_name fin _).trans ((goes_take fin wAt _).trans ((goes_num fin _).trans ((goes_take fin wRetries _).trans (goes_num fin _)))))))
      · exact Goes.refl r
theorem goes_in {α : Type} (fin : Pl) (inner : RsC → α × RsC) (hi : ∀ r, Goes r (inner r).2) : ∀ (g : Nat) (os : List OnC) (ss : List α) (r : RsC), Goes r (inR fin inner g os ss r).2
  | 0, os, ss, r => Goes.refl r
  | g + 1, os, ss, r => by
    unfold inR
    split
    · split
      · exact (goes_on fin r).trans (goes_in fin inner hi g _ _ _)
      · exact (hi r).trans (goes_in fin inner hi g _ _ _)
    · exact Goes.refl r
/-- Behind the word state. -/
theorem goes_st : ∀ (fin : Pl) (k : Nat) (r : RsC), Goes r (stR fin k r).2 ∧ ((stR fin k r).2.2.2 = 0 → (stR fin k r).2.1.length < r.1.length)
  | fin, 0, r => by
    refine ⟨goes_fail _ _ r, fun h => ?_⟩
    refine absurd h (failC_bad ?_ _ r)
    split <;> decide
  | fin, k + 1, r => by
    have h1 : Goes (takeR fin wState r) (stR fin (k + 1) r).2 :=
      (goes_name fin _).trans ((goes_take fin [123] _).trans ((goes_kind fin _).trans ((goes_in fin (stR fin k) (fun r => (goes_st fin k r).1) _ _ _ _).trans (goes_take fin [125] _))))
    exact ⟨(goes_take fin wState r).trans h1, fun h => Nat.lt_of_le_of_lt h1.1 (takeR_less fin (take_ok (h1.2 h)))⟩
theorem goes_vars (fin : Pl) : ∀ (g : Nat) (acc : List (List UInt8 × Int × Pl)) (r : RsC), Goes r (varsR fin g acc r).2
  | 0, acc, r => Goes.refl r
  | g + 1, acc, r => by
    unfold varsR
    split
    · refine Goes.trans ((goes_take fin wVar r).trans ((goes_name fin _).trans (goes_take fin [61] _))) (Goes.trans ?_ (goes_vars fin g _ _))
      split
      · exact (goes_take fin [45] _).trans (goes_num fin _)
      · exact goes_num fin _
    · exact Goes.refl r
end Go.Proofs.YtccmmkhcacglhaaGreatDoor
