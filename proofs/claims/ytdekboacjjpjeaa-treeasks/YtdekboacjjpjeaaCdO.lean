
/- Rows of the call's own that lie apart from others; an element put in the place of a zero one. -/
import Derived.Test.YtdekboacjjpjeaaCdL
namespace Go.Proofs.Ytdekboacjjpjeaa
open Go.RowKit Go.Lib
set_option linter.unusedSimpArgs false
set_option linter.unusedVariables false

/-- As OwnK; nothing of it lies in a block that is bad. -/
def OwnB {α : Type} (w : World) (base : Nat) (bad : Nat → Prop) (e k : Nat) (R : (Nat → Prop) → World → α → List Value → Prop) (v : Value) (l : List α) : Prop :=
  ∃ qs : List (List Value), w.ownsRow base e k v l.length qs.flatten ∧ qs.length = l.length ∧ (∀ (i : Nat) (h : i < l.length) (h' : i < qs.length), (qs[i]).length = k ∧ R (fun b => base ≤ b ∧ v.ownBlock ≠ some b ∧ ¬ bad b) w l[i] qs[i]) ∧ ∀ g, v.ownBlock = some g → ¬ bad g
theorem ownB_nil {α : Type} (w : World) (base : Nat) (bad : Nat → Prop) (e k : Nat) (R : (Nat → Prop) → World → α → List Value → Prop) : OwnB w base bad e k R (.slice none 0 0) [] := ⟨[], World.ownsRow_nil w base e k, rfl, fun i h => absurd h (by simp), fun g hg => by simp [Value.ownBlock] at hg⟩
theorem OwnB.keep {α : Type} {w w' : World} {base e k : Nat} {bad bad' : Nat → Prop} {R : (Nat → Prop) → World → α → List Value → Prop} {v : Value} {l : List α} (hR : Kp R) (h : OwnB w base bad e k R v l) (hk : ∀ b, base ≤ b → ¬ bad b → b < w.heap.size → w'.heap[b]? = w.heap[b]? ∧ ¬ bad' b) : OwnB w' base bad' e k R v l := by
  obtain ⟨qs, ho, hl, hr, hg0⟩ := h
  refine ⟨qs, ownsRow_keep ho (fun g hg => ?_), hl, fun i h h' => ⟨(hr i h h').1, hR (hr i h h').2 (fun b hb hlt => ⟨⟨hb.1, hb.2.1, (hk b hb.1 hb.2.2 hlt).2⟩, (hk b hb.1 hb.2.2 hlt).1⟩)⟩, fun g hg => ?_⟩
  · obtain ⟨a, b⟩ := ownsRow_lt ho g hg
    exact (hk g a (hg0 g hg) b).1
  · obtain ⟨a, b⟩ := ownsRow_lt ho g hg
    exact (hk g a (hg0 g hg) b).2
theorem OwnB.on {α : Type} {w w' : World} {base e k : Nat} {bad : Nat → Prop} {R : (Nat → Prop) → World → α → List Value → Prop} {v : Value} {l : List α} (hR : Kp R) (h : OwnB w base bad e k R v l) (hb : Below w.heap.size w w') : OwnB w' base bad e k R v l := h.keep hR (fun b _ hbad hlt => ⟨hb.block b hlt, hbad⟩)
theorem OwnB.fx {α : Type} {w w' : World} {base e k X : Nat} {bad : Nat → Prop} {R : (Nat → Prop) → World → α → List Value → Prop} {v : Value} {l : List α} (hR : Kp R) (h : OwnB w base bad e k R v l) (hf : Fx X w w') (hX : X < base) : OwnB w' base bad e k R v l :=
  h.keep hR (fun b hb hbad hlt => ⟨hf.block b hlt (fun e => by have : b = X := Option.some.inj e; omega), hbad⟩)
theorem OwnB.set {α : Type} {w : World} {base e k : Nat} {bad : Nat → Prop} {R : (Nat → Prop) → World → α → List Value → Prop} {v : Value} {l : List α} (hR : Kp R) (h : OwnB w base bad e k R v l) {X i : Nat} (hX : X < base) (u : Value) : OwnB (w.setCell ⟨X, i, none⟩ u) base bad e k R v l :=
  h.keep hR (fun b hb hbad _ => ⟨Below.heap_setCell _ _ _ _ (fun e => by have : b = X := e; omega), hbad⟩)
theorem OwnB.form {α : Type} {w : World} {base e k : Nat} {bad : Nat → Prop} {R : (Nat → Prop) → World → α → List Value → Prop} {v : Value} {l : List α} (h : OwnB w base bad e k R v l) : ∃ a cap, v = .slice a l.length cap ∧ l.length ≤ cap ∧ cap ≤ maxLen := by
  obtain ⟨qs, ho, _⟩ := h
  rcases ho.2 with ⟨h1, h2⟩ | ⟨g, cap, cur, h1, _, _, h3, h4, _⟩
  · exact ⟨none, 0, by rw [h1, h2], by omega, by simp [maxLen]⟩
  · exact ⟨_, _, h1, h3, h4⟩
theorem OwnB.lt {α : Type} {w : World} {base e k : Nat} {bad : Nat → Prop} {R : (Nat → Prop) → World → α → List Value → Prop} {v : Value} {l : List α} (h : OwnB w base bad e k R v l) : ∀ g, v.ownBlock = some g → base ≤ g ∧ g < w.heap.size := by
  obtain ⟨qs, ho, _⟩ := h
  exact ownsRow_lt ho
/-- The other row has grown. -/
theorem OwnB.other {α : Type} {w w' : World} {base e k : Nat} {u u' : Value} {R : (Nat → Prop) → World → α → List Value → Prop} {v : Value} {l : List α} (hR : Kp R) (h : OwnB w base (fun b => u.ownBlock = some b) e k R v l) (hg : w.grownBy w' u.ownBlock) (hat : u'.ownBlock = u.ownBlock ∨ u'.ownBlock = some w.heap.size) : OwnB w' base (fun b => u'.ownBlock = some b) e k R v l :=
  h.keep hR (fun b hb hbad hlt => ⟨hg.block b hlt (fun e => hbad e.symm), fun q => by
    rcases hat with h | h
    · exact hbad (h ▸ q)
    · rw [h] at q; have : w.heap.size = b := Option.some.inj q; omega⟩)
theorem OwnB.snoc {α : Type} {w w' : World} {base e k lo n : Nat} {bad : Nat → Prop} {R : (Nat → Prop) → World → α → List Value → Prop} {v v' : Value} {l : List α} {p : α} {cs : List Value} {qs : List (List Value)} (hR : Kp R) (hk : cs.length = k)
    (hn : l.length = n) (ho : w.ownsRow base e k v n qs.flatten) (hl : qs.length = l.length) (hr : ∀ (i : Nat) (h : i < l.length) (h' : i < qs.length), (qs[i]).length = k ∧ R (fun b => base ≤ b ∧ v.ownBlock ≠ some b ∧ ¬ bad b) w l[i] qs[i])
    (ho' : w'.ownsRow base e k v' (n + 1) (qs.flatten ++ cs)) (hg : w.grownBy w' v.ownBlock) (hat : v'.ownBlock = v.ownBlock ∨ v'.ownBlock = some w.heap.size)
    (hp : R (fun b => lo ≤ b) w p cs) (hlo : base ≤ lo) (hv : ∀ x, v.ownBlock = some x → x < lo) (hbad : ∀ b, bad b → b < lo ∧ b < w.heap.size) (hvb : ∀ g, v.ownBlock = some g → ¬ bad g) : OwnB w' base bad e k R v' (l ++ [p]) := by
  subst hn
  have key : ∀ b, base ≤ b ∧ v.ownBlock ≠ some b ∧ ¬ bad b → b < w.heap.size → (base ≤ b ∧ v'.ownBlock ≠ some b ∧ ¬ bad b) ∧ w'.heap[b]? = w.heap[b]? := fun b hb hlt => by
    refine ⟨⟨hb.1, fun e => ?_, hb.2.2⟩, hg.block b hlt (fun e => hb.2.1 e.symm)⟩
    rcases hat with h | h
    · exact hb.2.1 (h ▸ e)
    · rw [h] at e; have : w.heap.size = b := Option.some.inj e; omega
  refine ⟨qs ++ [cs], ?_, by simp [hl], fun i h h' => ?_, fun g hg' => ?_⟩
  · rw [List.flatten_append, List.length_append]
    simpa using ho'
  · rcases Nat.lt_or_ge i l.length with hi | hi
    · rw [List.getElem_append_left hi, List.getElem_append_left (by omega)]
      exact ⟨(hr i hi (by omega)).1, hR (hr i hi (by omega)).2 key⟩
    · have : i = l.length := by simp at h; omega
      subst this
      have e1 : (l ++ [p])[l.length] = p := by simp
      have e2 : (qs ++ [cs])[l.length]'h' = cs := by simp [← hl]
      rw [e1, e2]
      exact ⟨hk, hR hp (fun b hb hlt => key b ⟨by omega, fun e => by have := hv b e; omega, fun q => by have := (hbad b q).1; omega⟩ hlt)⟩
  · rcases hat with h | h
    · exact hvb g (h ▸ hg')
    · rw [h] at hg'
      have : w.heap.size = g := Option.some.inj hg'
      intro q
      have := (hbad g q).2
      omega
theorem OwnB.rd {α : Type} {w : World} {base e k : Nat} {bad : Nat → Prop} {R : (Nat → Prop) → World → α → List Value → Prop} {v : Value} {l : List α} (hR : Kp R) (h : OwnB w base bad e k R v l) : RdK (fun b => base ≤ b) w k (R (fun b => base ≤ b) w) l v := by
  obtain ⟨qs, ho, hl, hr, _⟩ := h
  exact OwnK.rd hR ⟨qs, ho, hl, fun i h h' => ⟨(hr i h h').1, hR (hr i h h').2 (fun b hb _ => ⟨⟨hb.1, hb.2.1⟩, rfl⟩)⟩⟩
theorem step_pushB {α : Type} {P : Program} (w : World) {ops : Array Oper} {o : Oper} {a : Act} {K : Act → World → Prop} {Q : Exit → Act → World → Prop} {E : Prop} (hgd : o.guard = none) (s x : Operand) (t : TypeId)
    (ho : o.op = .call { callee := .builtin .append, args := #[s, x], argTypes := #[t, t] })
    (base : Nat) (bad : Nat → Prop) (e : TypeId) (i : TypeInfo) (z : Value) (k bytes : Nat) (ht : P.underlying t = some (.slice e)) (hi : P.info? e = some i) (hz : i.zero = some z)
    (hsize : i.size = k) (hby : i.bytes = bytes) (hzs : z.cells.size = k) {R : (Nat → Prop) → World → α → List Value → Prop} (hR : Kp R)
    (v : Value) (l : List α) (p : α) (cs : List Value) (lo : Nat) (hs : a.eval s = v) (hx : a.eval x = .slice (some ⟨w.heap.size, 0, none⟩) 1 1) (hk : cs.length = k) (h1 : ∀ u ∈ cs, u.oneCell' = true)
    (hown : OwnB w base bad e k R v l) (hp : R (fun b => lo ≤ b) w p cs) (hlo : base ≤ lo) (hv : ∀ x, v.ownBlock = some x → x < lo) (hbad : ∀ b, bad b → b < lo ∧ b < w.heap.size) (hroom : (l.length + 1 + (l.length + 1) / 4 + 192) * bytes ≤ 281474976710656)
    (h63 : l.length + 1 ≤ maxLen) (hbase : base ≤ w.heap.size)
    (h : ∀ v' w', OwnB w' base bad e k R v' (l ++ [p]) → (w.alloc (.cells cs.toArray e)).grownBy w' v.ownBlock → Below base w w' → (v'.ownBlock = v.ownBlock ∨ v'.ownBlock = some (w.alloc (.cells cs.toArray e)).heap.size) → K (a.put o.dst v') w') :
    if Region.wanted o (yielded ops a.tmps) = true then Oper.wp P o a (w.alloc (.cells cs.toArray e)) K Q else E := by
  have hal : Below w.heap.size w (w.alloc (.cells cs.toArray e)) := (Below.refl _ _).alloc (Nat.le_refl _) _
  obtain ⟨qs, ho1, hl1, hr1, hg1⟩ := hown.on hR hal
  refine step_append_at _ hgd s x t t ho base e i z k bytes ht hi hz hsize hby hzs v l.length qs.flatten hs ho1 _ 1 cs hx (src_row ht w cs hk h1) 1 (.inr hroom) (Nat.le_refl _) h63 (Nat.le_trans hbase hal.size) ?_
  intro v' w' hown' hg hat
  refine h v' w' (OwnB.snoc hR hk rfl ho1 hl1 hr1 hown' hg hat (hR hp (fun b hb hlt => ⟨hb, hal.block b hlt⟩)) hlo hv (fun b q => ⟨(hbad b q).1, Nat.lt_of_lt_of_le (hbad b q).2 hal.size⟩) hg1) hg ?_ hat
  exact ((Below.refl base w).alloc hbase _).grown hg (Nat.le_trans hbase hal.size) (fun k hk => (World.ownsRow.lt ho1 k hk).1)
/-- Cells written one behind the other. -/
def putL (w : World) (g : Nat) : Nat → List Value → World
  | _, [] => w
  | o, c :: cs => putL (w.setCell ⟨g, o, none⟩ c) g (o + 1) cs
theorem putL_own : ∀ (cs zs xs ys : List Value) (w : World) (base e k : Nat) (g n cap o : Nat), zs.length = cs.length → xs.length = o → w.ownsRow base e k (.slice (some ⟨g, 0, none⟩) n cap) n (xs ++ zs ++ ys) → (putL w g o cs).ownsRow base e k (.slice (some ⟨g, 0, none⟩) n cap) n (xs ++ cs ++ ys)
  | [], zs, xs, ys, w, base, e, k, g, n, cap, o, hz, hx, h => by
    have : zs = [] := List.eq_nil_of_length_eq_zero (by simpa using hz)
    subst this
    exact h
  | c :: cs, [], xs, ys, w, base, e, k, g, n, cap, o, hz, hx, h => by simp at hz
  | c :: cs, z :: zs, xs, ys, w, base, e, k, g, n, cap, o, hz, hx, h => by
    have h1 := (World.ownsRow.stored h o c).1
    have e1 : (xs ++ z :: zs ++ ys).set o c = (xs ++ [c]) ++ zs ++ ys := by
      subst hx
      simp
    rw [e1] at h1
    have h2 := putL_own cs zs (xs ++ [c]) ys _ base e k g n cap (o + 1) (by simpa using hz) (by simp [hx]) h1
    have e2 : xs ++ [c] ++ cs ++ ys = xs ++ (c :: cs) ++ ys := by simp
    rw [e2] at h2
    exact h2
theorem putL_heap : ∀ (cs : List Value) (w : World) (g o k : Nat), k ≠ g → (putL w g o cs).heap[k]? = w.heap[k]?
  | [], w, g, o, k, h => rfl
  | c :: cs, w, g, o, k, h => by
    unfold putL
    rw [putL_heap cs _ g (o + 1) k h]
    exact Below.heap_setCell _ _ _ _ (fun e => h e)
theorem putL_size : ∀ (cs : List Value) (w : World) (g o : Nat), (putL w g o cs).heap.size = w.heap.size
  | [], w, g, o => rfl
  | c :: cs, w, g, o => by unfold putL; rw [putL_size cs _ g (o + 1)]; simp
theorem putL_below {B : Nat} {u : World} : ∀ (cs : List Value) (w : World) (g o : Nat), Below B u w → B ≤ g → Below B u (putL w g o cs)
  | [], w, g, o, h, hg => h
  | c :: cs, w, g, o, h, hg => putL_below cs _ g (o + 1) (h.setCell hg c) hg
end Go.Proofs.Ytdekboacjjpjeaa
