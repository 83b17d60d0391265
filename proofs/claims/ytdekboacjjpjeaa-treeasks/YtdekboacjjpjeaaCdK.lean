
/- Blocks of n cells; rows of k cells an element, read, and the call's own. -/
import Derived.Test.YtdekboacjjpjeaaExCb
import Derived.Test.YtdekboacjjpjeaaStpA
import Derived.Test.YtdekboacjjpjeaaFxr
namespace Go.Proofs.Ytdekboacjjpjeaa
open Go.RowKit Go.Lib
set_option linter.unusedSimpArgs false
set_option linter.unusedVariables false

/-- A block of cells that may be written. -/
def Bn (w : World) (Y : Nat) (cs : List Value) : Prop := ∀ j u, cs[j]? = some u → w.cell? ⟨Y, j, none⟩ = some u ∧ w.frozen? ⟨Y, j, none⟩ = false
theorem Bn.lt {w : World} {Y : Nat} {c : Value} {cs : List Value} (h : Bn w Y (c :: cs)) : Y < w.heap.size := World.block_lt_of_cell? w _ (h 0 c rfl).1
theorem frozen_of_block {w w' : World} {Y j : Nat} (h : w'.heap[Y]? = w.heap[Y]?) : w'.frozen? ⟨Y, j, none⟩ = w.frozen? ⟨Y, j, none⟩ := by
  unfold World.frozen?
  rw [h]
theorem Bn.blk {w w' : World} {Y : Nat} {cs : List Value} (h : Bn w Y cs) (hb : w'.heap[Y]? = w.heap[Y]?) : Bn w' Y cs := fun j u hu =>
  ⟨keep_cell (p := ⟨Y, j, none⟩) hb (h j u hu).1, (frozen_of_block hb).trans (h j u hu).2⟩
theorem Bn.on {w w' : World} {Y : Nat} {c : Value} {cs : List Value} (h : Bn w Y (c :: cs)) (hb : Below w.heap.size w w') : Bn w' Y (c :: cs) := h.blk (hb.block Y h.lt)
theorem Bn.fx {w w' : World} {X Y : Nat} {c : Value} {cs : List Value} (h : Bn w Y (c :: cs)) (hf : Fx X w w') (hne : Y ≠ X) : Bn w' Y (c :: cs) := h.blk (hf.block Y h.lt (fun e => hne (Option.some.inj e)))
theorem Bn.far {w : World} {Y X i : Nat} {cs : List Value} (h : Bn w Y cs) (hne : X ≠ Y) (v : Value) : Bn (w.setCell ⟨X, i, none⟩ v) Y cs := h.blk (Below.heap_setCell _ _ _ _ (fun e => hne e.symm))
theorem Bn.set {w : World} {Y i : Nat} {cs : List Value} (h : Bn w Y cs) (hi : i < cs.length) (v : Value) : Bn (w.setCell ⟨Y, i, none⟩ v) Y (cs.set i v) := fun j u hu => by
  refine ⟨?_, (World.frozen?_setCell _ _ _ _).trans ?_⟩
  · by_cases hj : i = j
    · subst hj
      rw [List.getElem?_set_self hi] at hu
      obtain rfl := Option.some.inj hu
      exact cell_same4 (h i _ (List.getElem?_eq_getElem hi)).1
    · rw [List.getElem?_set_ne hj] at hu
      exact cell_far4 (by omega) (h j u hu).1
  · have hl : j < cs.length := by
      have := (List.getElem?_eq_some_iff.1 hu).1
      rwa [List.length_set] at this
    exact (h j _ (List.getElem?_eq_getElem hl)).2
theorem Bn.drew {w : World} {Y : Nat} {cs : List Value} (h : Bn w Y cs) : Bn w.drew Y cs := h
theorem Bn.new (w : World) (cs : List Value) (t : TypeId) (n : Nat) (hn : n = w.heap.size) : Bn (w.alloc (.cells cs.toArray t)) n cs := by
  subst hn
  intro j u hu
  refine ⟨?_, by simp⟩
  rw [World.cell?_alloc_new]
  simpa using hu

/-- The slice v reads as the list l, k cells an element. -/
def RdK {α : Type} (ok : Nat → Prop) (w : World) (k : Nat) (R : α → List Value → Prop) (l : List α) (v : Value) : Prop :=
  ∃ a cap, v = .slice a l.length cap ∧ l.length ≤ cap ∧ cap ≤ maxLen ∧
    ∀ (i : Nat) (hi : i < l.length), ∃ b off cs, a = some ⟨b, off, none⟩ ∧ ok b ∧ b < w.heap.size ∧ cs.length = k ∧ R l[i] cs ∧ ∀ j u, cs[j]? = some u → w.cell? ⟨b, off + i * k + j, none⟩ = some u
theorem rdK_none {α : Type} (ok : Nat → Prop) (w : World) (k : Nat) (R : α → List Value → Prop) : RdK ok w k R [] (.slice none 0 0) := ⟨none, 0, rfl, by simp, by simp [maxLen], fun i hi => absurd hi (by simp)⟩
theorem RdK.keep {α : Type} {ok ok' : Nat → Prop} {w w' : World} {k : Nat} {R R' : α → List Value → Prop} {l : List α} {v : Value} (h : RdK ok w k R l v) (hR : ∀ x ∈ l, ∀ u, R x u → R' x u) (hk : ∀ b, ok b → b < w.heap.size → ok' b ∧ w'.heap[b]? = w.heap[b]?) : RdK ok' w' k R' l v := by
  obtain ⟨a, cap, rfl, hc, hm, hcell⟩ := h
  refine ⟨a, cap, rfl, hc, hm, fun i hi => ?_⟩
  obtain ⟨b, off, cs, ha, ho, hb, hl, hr, hcs⟩ := hcell i hi
  obtain ⟨ho', hs⟩ := hk _ ho hb
  refine ⟨b, off, cs, ha, ho', ?_, hl, hR _ (List.getElem_mem hi) _ hr, fun j u hu => keep_cell (p := ⟨b, off + i * k + j, none⟩) hs (hcs j u hu)⟩
  rcases Nat.lt_or_ge b w'.heap.size with h | h
  · exact h
  · rw [Array.getElem?_eq_none h, Array.getElem?_eq_getElem hb] at hs
    cases hs
theorem RdK.form {α : Type} {ok : Nat → Prop} {w : World} {k : Nat} {R : α → List Value → Prop} {l : List α} {v : Value} (h : RdK ok w k R l v) : ∃ a cap, v = .slice a l.length cap ∧ l.length ≤ cap ∧ cap ≤ maxLen := by
  obtain ⟨a, cap, h1, h2, h3, _⟩ := h
  exact ⟨a, cap, h1, h2, h3⟩
/-- A reading that stays where its blocks stay. -/
def Kp {α : Type} (R : (Nat → Prop) → World → α → List Value → Prop) : Prop := ∀ ⦃ok ok' : Nat → Prop⦄ ⦃w w' : World⦄ ⦃x : α⦄ ⦃cs : List Value⦄, R ok w x cs → (∀ b, ok b → b < w.heap.size → ok' b ∧ w'.heap[b]? = w.heap[b]?) → R ok' w' x cs
/-- The slice v is the call's own, from block base on, of k cells an element, and holds l; what lies behind its cells lies apart. -/
def OwnK {α : Type} (w : World) (base e k : Nat) (R : (Nat → Prop) → World → α → List Value → Prop) (v : Value) (l : List α) : Prop :=
  ∃ qs : List (List Value), w.ownsRow base e k v l.length qs.flatten ∧ qs.length = l.length ∧ ∀ (i : Nat) (h : i < l.length) (h' : i < qs.length), (qs[i]).length = k ∧ R (fun b => base ≤ b ∧ v.ownBlock ≠ some b) w l[i] qs[i]
theorem ownK_nil {α : Type} (w : World) (base e k : Nat) (R : (Nat → Prop) → World → α → List Value → Prop) : OwnK w base e k R (.slice none 0 0) [] := ⟨[], World.ownsRow_nil w base e k, rfl, fun i h => absurd h (by simp)⟩
theorem OwnK.keep {α : Type} {w w' : World} {base e k : Nat} {R : (Nat → Prop) → World → α → List Value → Prop} {v : Value} {l : List α} (hR : Kp R) (h : OwnK w base e k R v l) (hk : ∀ b, base ≤ b → b < w.heap.size → w'.heap[b]? = w.heap[b]?) : OwnK w' base e k R v l := by
  obtain ⟨qs, ho, hl, hr⟩ := h
  refine ⟨qs, ownsRow_keep ho (fun g hg => ?_), hl, fun i h h' => ⟨(hr i h h').1, hR (hr i h h').2 (fun b hb hlt => ⟨hb, hk b hb.1 hlt⟩)⟩⟩
  obtain ⟨a, b⟩ := ownsRow_lt ho g hg
  exact hk g a b
theorem OwnK.on {α : Type} {w w' : World} {base e k : Nat} {R : (Nat → Prop) → World → α → List Value → Prop} {v : Value} {l : List α} (hR : Kp R) (h : OwnK w base e k R v l) (hb : Below w.heap.size w w') : OwnK w' base e k R v l := h.keep hR (fun b _ hlt => hb.block b hlt)
theorem OwnK.fx {α : Type} {w w' : World} {base e k X : Nat} {R : (Nat → Prop) → World → α → List Value → Prop} {v : Value} {l : List α} (hR : Kp R) (h : OwnK w base e k R v l) (hf : Fx X w w') (hX : X < base) : OwnK w' base e k R v l :=
  h.keep hR (fun b hb hlt => hf.block b hlt (fun e => by have : b = X := Option.some.inj e; omega))
theorem OwnK.set {α : Type} {w : World} {base e k : Nat} {R : (Nat → Prop) → World → α → List Value → Prop} {v : Value} {l : List α} (hR : Kp R) (h : OwnK w base e k R v l) {X i : Nat} (hX : X < base) (u : Value) : OwnK (w.setCell ⟨X, i, none⟩ u) base e k R v l :=
  h.keep hR (fun b hb _ => Below.heap_setCell _ _ _ _ (fun e => by have : b = X := e; omega))
theorem OwnK.form {α : Type} {w : World} {base e k : Nat} {R : (Nat → Prop) → World → α → List Value → Prop} {v : Value} {l : List α} (h : OwnK w base e k R v l) : ∃ a cap, v = .slice a l.length cap ∧ l.length ≤ cap ∧ cap ≤ maxLen := by
  obtain ⟨qs, ho, _⟩ := h
  rcases ho.2 with ⟨h1, h2⟩ | ⟨g, cap, cur, h1, _, _, h3, h4, _⟩
  · exact ⟨none, 0, by rw [h1, h2], by omega, by simp [maxLen]⟩
  · exact ⟨_, _, h1, h3, h4⟩
/-- One more. The new one's memory lies from lo on, and the old row's block below. -/
theorem OwnK.snoc {α : Type} {w w' : World} {base e k lo n : Nat} {R : (Nat → Prop) → World → α → List Value → Prop} {v v' : Value} {l : List α} {p : α} {cs : List Value} {qs : List (List Value)} (hR : Kp R) (hk : cs.length = k)
    (hn : l.length = n) (ho : w.ownsRow base e k v n qs.flatten) (hl : qs.length = l.length) (hr : ∀ (i : Nat) (h : i < l.length) (h' : i < qs.length), (qs[i]).length = k ∧ R (fun b => base ≤ b ∧ v.ownBlock ≠ some b) w l[i] qs[i])
    (ho' : w'.ownsRow base e k v' (n + 1) (qs.flatten ++ cs)) (hg : w.grownBy w' v.ownBlock) (hat : v'.ownBlock = v.ownBlock ∨ v'.ownBlock = some w.heap.size)
    (hp : R (fun b => lo ≤ b) w p cs) (hlo : base ≤ lo) (hv : ∀ x, v.ownBlock = some x → x < lo) : OwnK w' base e k R v' (l ++ [p]) := by
  subst hn
  have key : ∀ b, base ≤ b ∧ v.ownBlock ≠ some b → b < w.heap.size → (base ≤ b ∧ v'.ownBlock ≠ some b) ∧ w'.heap[b]? = w.heap[b]? := fun b hb hlt => by
    refine ⟨⟨hb.1, fun e => ?_⟩, hg.block b hlt (fun e => hb.2 e.symm)⟩
    rcases hat with h | h
    · exact hb.2 (h ▸ e)
    · rw [h] at e; have : w.heap.size = b := Option.some.inj e; omega
  refine ⟨qs ++ [cs], ?_, by simp [hl], fun i h h' => ?_⟩
  · rw [List.flatten_append, List.length_append]
    simpa using ho'
  · rcases Nat.lt_or_ge i l.length with hi | hi
    · rw [List.getElem_append_left hi, List.getElem_append_left (by omega)]
      exact ⟨(hr i hi (by omega)).1, hR (hr i hi (by omega)).2 key⟩
    · have : i = l.length := by simp at h; omega
      subst this
      have e1 : (l ++ [p])[l.length] = p := by simp
      have e2 : (qs ++ [cs])[l.length]'h' = cs := by simp [← hl]
      rw [e1, e2]
      exact ⟨hk, hR hp (fun b hb hlt => key b ⟨by omega, fun e => by have := hv b e; omega⟩ hlt)⟩
theorem flat_at {k : Nat} : ∀ (qs : List (List Value)) (i j : Nat) (h : i < qs.length) (u : Value), (∀ (i : Nat) (h : i < qs.length), (qs[i]).length = k) → (qs[i])[j]? = some u → qs.flatten[i * k + j]? = some u
  | [], i, j, h, u, _, _ => by simp at h
  | x :: t, 0, j, h, u, hk, hu => by
    have hu' : x[j]? = some u := hu
    have hj := (List.getElem?_eq_some_iff.1 hu').1
    rw [List.flatten_cons, Nat.zero_mul, Nat.zero_add, List.getElem?_append_left hj]
    exact hu'
  | x :: t, i + 1, j, h, u, hk, hu => by
    have hx : x.length = k := hk 0 (by simp)
    have e : (i + 1) * k + j = x.length + (i * k + j) := by rw [hx, Nat.succ_mul]; omega
    rw [List.flatten_cons, e, List.getElem?_append_right (by omega), Nat.add_sub_cancel_left]
    exact flat_at t i j (by simpa using h) u (fun i h => hk (i + 1) (by simpa using h)) hu
/-- It reads as the list. -/
theorem OwnK.rd {α : Type} {w : World} {base e k : Nat} {R : (Nat → Prop) → World → α → List Value → Prop} {v : Value} {l : List α} (hR : Kp R) (h : OwnK w base e k R v l) : RdK (fun b => base ≤ b) w k (R (fun b => base ≤ b) w) l v := by
  obtain ⟨qs, ho, hl, hr⟩ := h
  have hc := fun g => World.ownsRow.cells ho (g := g)
  rcases ho.2 with ⟨rfl, hn⟩ | ⟨g, cap, cur, rfl, hb, hg, hnc, hcm, hcs, htake⟩
  · have hx : l = [] := List.eq_nil_of_length_eq_zero hn
    subst hx
    exact rdK_none _ w k _
  · refine ⟨some ⟨g, 0, none⟩, cap, rfl, hnc, hcm, fun i hi => ⟨g, 0, qs[i], rfl, hb, (Array.getElem?_eq_some_iff.1 hg).1, (hr i hi (by omega)).1, hR (hr i hi (by omega)).2 (fun b hb _ => ⟨hb.1, rfl⟩), fun j u hu => ?_⟩⟩
    have := hc g rfl (i * k + j) u (flat_at qs i j (by omega) u (fun i h => (hr i (by omega) h).1) hu)
    rw [add_plain] at this
    rw [Nat.zero_add]
    rwa [Nat.zero_add] at this
/-- Read from a lower block on. -/
theorem RdK.low {α : Type} {w : World} {base lo k : Nat} {R : (Nat → Prop) → World → α → List Value → Prop} {v : Value} {l : List α} (hR : Kp R) (h : RdK (fun b => base ≤ b) w k (R (fun b => base ≤ b) w) l v) (hlo : lo ≤ base) : RdK (fun b => lo ≤ b) w k (R (fun b => lo ≤ b) w) l v :=
  h.keep (fun x _ u hu => hR hu (fun b hb _ => ⟨by omega, rfl⟩)) (fun b hb _ => ⟨by omega, rfl⟩)
theorem RdK.stay {α : Type} {ok ok' : Nat → Prop} {w w' : World} {k : Nat} {R : (Nat → Prop) → World → α → List Value → Prop} {v : Value} {l : List α} (hR : Kp R) (h : RdK ok w k (R ok w) l v) (hk : ∀ b, ok b → b < w.heap.size → ok' b ∧ w'.heap[b]? = w.heap[b]?) : RdK ok' w' k (R ok' w') l v :=
  h.keep (fun x _ u hu => hR hu hk) hk
end Go.Proofs.Ytdekboacjjpjeaa
