import Derived.Test.YtoankfbccofllaaWqc03
import Derived.Test.YtoankfbccofllaaRows
import Derived.Test.YtoankfbccofllaaWqc02
import Derived.WalkSmall
import Derived.Shelf.Strconv.Clone
import Derived.Deep.RegionLaw
import Derived.Test.YtoankfbccofllaaWqc01
import Derived.Deep.LoopGhost
import Derived.Deep.DeepCutAuto

/- Rows of the call's own that lie apart from others; an element put in the place of a zero one. -/
namespace Go.Proofs.Ytoankfbccofllaa
open Go.RowKit Go.Lib
set_option linter.unusedSimpArgs false
set_option linter.unusedVariables false

/-- As OwnK; nothing of it lies in a block that is bad. -/
def OwnB {α : Type} (w : World) (base : Nat) (bad : Nat → Prop) (e k : Nat) (R : (Nat → Prop) → World → α → List Value → Prop) (v : Value) (l : List α) : Prop :=
  ∃ qs : List (List Value), w.ownsRow base e k v l.length qs.flatten ∧ qs.length = l.length ∧ (∀ (i : Nat) (h : i < l.length) (h' : i < qs.length), (qs[i]).length = k ∧ R (fun b => base ≤ b ∧ v.ownBlock ≠ some b ∧ ¬ bad b) w l[i] qs[i]) ∧ ∀ g, v.ownBlock = some g → ¬ bad g
theorem ownB_nil {α : Type} (w : World) (base : Nat) (bad : Nat → Prop) (e k : Nat) (R : (Nat → Prop) → World → α → List Value → Prop) : OwnB w base bad e k R (.slice none 0 0) [] := ⟨[], World.ownsRow_nil w base e k, rfl, fun i h => absurd h (by simp), fun g hg => by simp [Value.ownBlock] at hg⟩
theorem OwnB.keep {α : Type} {w w' : World} {base e k : Nat} {bad bad' : Nat → Prop} {R : (Nat → Prop) → World → α → List Value → Prop} {v : Value} {l : List α} (hR : Kp R) (h : OwnB w base bad e k R v l) (hk : ∀ b, base ≤ b → ¬ bad b → b < w.heap.size → w'.heap[b]? = w.heap[b]? ∧ ¬ bad' b) : OwnB w' base bad' e k R v l := by
  obtain ⟨qs, ho, hl, hr, hg0⟩ := h
  refine ⟨qs, ownsRow_keep ho (fun g hg => ?_), hl, fun i h h' => ⟨(hr i h h').1, hR (hr i h h').2 (fun b hb hlt => ⟨⟨hb.1, hb.2.1, (hk b hb.1 hb.2.2 hlt).2⟩, (hk b hb.1 hb.2.2 hlt).1⟩)⟩, fun g hg => ?_⟩
  · obtain ⟨a, b⟩ := ownsRow_lt ho g hg
    exact (hk g a (hg0 g hg) b).1
  · obtain ⟨a, b⟩ := ownsRow_lt ho g hg
    exact (hk g a (hg0 g hg) b).2
theorem OwnB.on {α : Type} {w w' : World} {base e k : Nat} {bad : Nat → Prop} {R : (Nat → Prop) → World → α → List Value → Prop} {v : Value} {l : List α} (hR : Kp R) (h : OwnB w base bad e k R v l) (hb : Below w.heap.size w w') : OwnB w' base bad e k R v l := h.keep hR (fun b _ hbad hlt => ⟨hb.block b hlt, hbad⟩)
theorem OwnB.fx {α : Type} {w w' : World} {base e k X : Nat} {bad : Nat → Prop} {R : (Nat → Prop) → World → α → List Value → Prop} {v : Value} {l : List α} (hR : Kp R) (h : OwnB w base bad e k R v l) (hf : Fx X w w') (hX : X < base) : OwnB w' base bad e k R v l :=
  h.keep hR (fun b hb hbad hlt => ⟨hf.block b hlt (fun e => by have : b = X := Option.some.inj e; omega), hbad⟩)
theorem OwnB.set {α : Type} {w : World} {base e k : Nat} {bad : Nat → Prop} {R : (Nat → Prop) → World → α → List Value → Prop} {v : Value} {l : List α} (hR : Kp R) (h : OwnB w base bad e k R v l) {X i : Nat} (hX : X < base) (u : Value) : OwnB (w.setCell ⟨X, i, none⟩ u) base bad e k R v l :=
  h.keep hR (fun b hb hbad _ => ⟨Below.heap_setCell _ _ _ _ (fun e => by have : b = X := e; omega), hbad⟩)
theorem OwnB.form {α : Type} {w : World} {base e k : Nat} {bad : Nat → Prop} {R : (Nat → Prop) → World → α → List Value → Prop} {v : Value} {l : List α} (h : OwnB w base bad e k R v l) : ∃ a cap, v = .slice a l.length cap ∧ l.length ≤ cap ∧ cap ≤ maxLen := by
  obtain ⟨qs, ho, _⟩ := h
  rcases ho.2 with ⟨h1, h2⟩ | ⟨g, cap, cur, h1, _, _, h3, h4, _⟩
  · exact ⟨none, 0, by rw [h1, h2], by omega, by simp [maxLen]⟩
  · exact ⟨_, _, h1, h3, h4⟩
theorem OwnB.lt {α : Type} {w : World} {base e k : Nat} {bad : Nat → Prop} {R : (Nat → Prop) → World → α → List Value → Prop} {v : Value} {l : List α} (h : OwnB w base bad e k R v l) : ∀ g, v.ownBlock = some g → base ≤ g ∧ g < w.heap.size := by
  obtain ⟨qs, ho, _⟩ := h
  exact ownsRow_lt ho
/-- The other row has grown. -/
theorem OwnB.other {α : Type} {w w' : World} {base e k : Nat} {u u' : Value} {R : (Nat → Prop) → World → α → List Value → Prop} {v : Value} {l : List α} (hR : Kp R) (h : OwnB w base (fun b => u.ownBlock = some b) e k R v l) (hg : w.grownBy w' u.ownBlock) (hat : u'.ownBlock = u.ownBlock ∨ u'.ownBlock = some w.heap.size) : OwnB w' base (fun b => u'.ownBlock = some b) e k R v l :=
  h.keep hR (fun b hb hbad hlt => ⟨hg.block b hlt (fun e => hbad e.symm), fun q => by
    rcases hat with h | h
    · exact hbad (h ▸ q)
    · rw [h] at q; have : w.heap.size = b := Option.some.inj q; omega⟩)
theorem OwnB.snoc {α : Type} {w w' : World} {base e k lo n : Nat} {bad : Nat → Prop} {R : (Nat → Prop) → World → α → List Value → Prop} {v v' : Value} {l : List α} {p : α} {cs : List Value} {qs : List (List Value)} (hR : Kp R) (hk : cs.length = k)
    (hn : l.length = n) (ho : w.ownsRow base e k v n qs.flatten) (hl : qs.length = l.length) (hr : ∀ (i : Nat) (h : i < l.length) (h' : i < qs.length), (qs[i]).length = k ∧ R (fun b => base ≤ b ∧ v.ownBlock ≠ some b ∧ ¬ bad b) w l[i] qs[i])
    (ho' : w'.ownsRow base e k v' (n + 1) (qs.flatten ++ cs)) (hg : w.grownBy w' v.ownBlock) (hat : v'.ownBlock = v.ownBlock ∨ v'.ownBlock = some w.heap.size)
    (hp : R (fun b => lo ≤ b) w p cs) (hlo : base ≤ lo) (hv : ∀ x, v.ownBlock = some x → x < lo) (hbad : ∀ b, bad b → b < lo ∧ b < w.heap.size) (hvb : ∀ g, v.ownBlock = some g → ¬ bad g) : OwnB w' base bad e k R v' (l ++ [p]) := by
  subst hn
  have key : ∀ b, base ≤ b ∧ v.ownBlock ≠ some b ∧ ¬ bad b → b < w.heap.size → (base ≤ b ∧ v'.ownBlock ≠ some b ∧ ¬ bad b) ∧ w'.heap[b]? = w.heap[b]? := fun b hb hlt => by
    refine ⟨⟨hb.1, fun e => ?_, hb.2.2⟩, hg.block b hlt (fun e => hb.2.1 e.symm)⟩
    rcases hat with h | h
    · exact hb.2.1 (h ▸ e)
    · rw [h] at e; have : w.heap.size = b := Option.some.inj e; omega
  refine ⟨qs ++ [cs], ?_, by simp [hl], fun i h h' => ?_, fun g hg' => ?_⟩
  · rw [List.flatten_append, List.length_append]
    simpa using ho'
  · rcases Nat.lt_or_ge i l.length with hi | hi
    · rw [List.getElem_append_left hi, List.getElem_append_left (by omega)]
      exact ⟨(hr i hi (by omega)).1, hR (hr i hi (by omega)).2 key⟩
    · have : i = l.length := by simp at h; omega
      subst this
      have e1 : (l ++ [p])[l.length] = p := by simp
      have e2 : (qs ++ [cs])[l.length]'h' = cs := by simp [← hl]
      rw [e1, e2]
      exact ⟨hk, hR hp (fun b hb hlt => key b ⟨by omega, fun e => by have := hv b e; omega, fun q => by have := (hbad b q).1; omega⟩ hlt)⟩
  · rcases hat with h | h
    · exact hvb g (h ▸ hg')
    · rw [h] at hg'
      have : w.heap.size = g := Option.some.inj hg'
      intro q
      have := (hbad g q).2
      omega
theorem OwnB.rd {α : Type} {w : World} {base e k : Nat} {bad : Nat → Prop} {R : (Nat → Prop) → World → α → List Value → Prop} {v : Value} {l : List α} (hR : Kp R) (h : OwnB w base bad e k R v l) : RdK (fun b => base ≤ b) w k (R (fun b => base ≤ b) w) l v := by
  obtain ⟨qs, ho, hl, hr, _⟩ := h
  exact OwnK.rd hR ⟨qs, ho, hl, fun i h h' => ⟨(hr i h h').1, hR (hr i h h').2 (fun b hb _ => ⟨⟨hb.1, hb.2.1⟩, rfl⟩)⟩⟩
theorem step_pushB {α : Type} {P : Program} (w : World) {ops : Array Oper} {o : Oper} {a : Act} {K : Act → World → Prop} {Q : Exit → Act → World → Prop} {E : Prop} (hgd : o.guard = none) (s x : Operand) (t : TypeId)
    (ho : o.op = .call { callee := .builtin .append, args := #[s, x], argTypes := #[t, t] })
    (base : Nat) (bad : Nat → Prop) (e : TypeId) (i : TypeInfo) (z : Value) (k bytes : Nat) (ht : P.underlying t = some (.slice e)) (hi : P.info? e = some i) (hz : i.zero = some z)
    (hsize : i.size = k) (hby : i.bytes = bytes) (hzs : z.cells.size = k) {R : (Nat → Prop) → World → α → List Value → Prop} (hR : Kp R)
    (v : Value) (l : List α) (p : α) (cs : List Value) (lo : Nat) (hs : a.eval s = v) (hx : a.eval x = .slice (some ⟨w.heap.size, 0, none⟩) 1 1) (hk : cs.length = k) (h1 : ∀ u ∈ cs, u.oneCell' = true)
    (hown : OwnB w base bad e k R v l) (hp : R (fun b => lo ≤ b) w p cs) (hlo : base ≤ lo) (hv : ∀ x, v.ownBlock = some x → x < lo) (hbad : ∀ b, bad b → b < lo ∧ b < w.heap.size) (hroom : (l.length + 1 + (l.length + 1) / 4 + 192) * bytes ≤ 281474976710656)
    (h63 : l.length + 1 ≤ maxLen) (hbase : base ≤ w.heap.size)
    (h : ∀ v' w', OwnB w' base bad e k R v' (l ++ [p]) → (w.alloc (.cells cs.toArray e)).grownBy w' v.ownBlock → Below base w w' → (v'.ownBlock = v.ownBlock ∨ v'.ownBlock = some (w.alloc (.cells cs.toArray e)).heap.size) → K (a.put o.dst v') w') :
    if Region.wanted o (yielded ops a.tmps) = true then Oper.wp P o a (w.alloc (.cells cs.toArray e)) K Q else E := by
  have hal : Below w.heap.size w (w.alloc (.cells cs.toArray e)) := (Below.refl _ _).alloc (Nat.le_refl _) _
  obtain ⟨qs, ho1, hl1, hr1, hg1⟩ := hown.on hR hal
  refine step_append_at _ hgd s x t t ho base e i z k bytes ht hi hz hsize hby hzs v l.length qs.flatten hs ho1 _ 1 cs hx (src_row ht w cs hk h1) 1 (.inr hroom) (Nat.le_refl _) h63 (Nat.le_trans hbase hal.size) ?_
  intro v' w' hown' hg hat
  refine h v' w' (OwnB.snoc hR hk rfl ho1 hl1 hr1 hown' hg hat (hR hp (fun b hb hlt => ⟨hb, hal.block b hlt⟩)) hlo hv (fun b q => ⟨(hbad b q).1, Nat.lt_of_lt_of_le (hbad b q).2 hal.size⟩) hg1) hg ?_ hat
  exact ((Below.refl base w).alloc hbase _).grown hg (Nat.le_trans hbase hal.size) (fun k hk => (World.ownsRow.lt ho1 k hk).1)
/-- Cells written one behind the other. -/
def putL (w : World) (g : Nat) : Nat → List Value → World
  | _, [] => w
  | o, c :: cs => putL (w.setCell ⟨g, o, none⟩ c) g (o + 1) cs
theorem putL_own : ∀ (cs zs xs ys : List Value) (w : World) (base e k : Nat) (g n cap o : Nat), zs.length = cs.length → xs.length = o → w.ownsRow base e k (.slice (some ⟨g, 0, none⟩) n cap) n (xs ++ zs ++ ys) → (putL w g o cs).ownsRow base e k (.slice (some ⟨g, 0, none⟩) n cap) n (xs ++ cs ++ ys)
  | [], zs, xs, ys, w, base, e, k, g, n, cap, o, hz, hx, h => by
    have : zs = [] := List.eq_nil_of_length_eq_zero (by simpa using hz)
    subst this
    exact h
  | c :: cs, [], xs, ys, w, base, e, k, g, n, cap, o, hz, hx, h => by simp at hz
  | c :: cs, z :: zs, xs, ys, w, base, e, k, g, n, cap, o, hz, hx, h => by
    have h1 := (World.ownsRow.stored h o c).1
    have e1 : (xs ++ z :: zs ++ ys).set o c = (xs ++ [c]) ++ zs ++ ys := by
      subst hx
      simp
    rw [e1] at h1
    have h2 := putL_own cs zs (xs ++ [c]) ys _ base e k g n cap (o + 1) (by simpa using hz) (by simp [hx]) h1
    have e2 : xs ++ [c] ++ cs ++ ys = xs ++ (c :: cs) ++ ys := by simp
    rw [e2] at h2
    exact h2
theorem putL_heap : ∀ (cs : List Value) (w : World) (g o k : Nat), k ≠ g → (putL w g o cs).heap[k]? = w.heap[k]?
  | [], w, g, o, k, h => rfl
  | c :: cs, w, g, o, k, h => by
    unfold putL
    rw [putL_heap cs _ g (o + 1) k h]
    exact Below.heap_setCell _ _ _ _ (fun e => h e)
theorem putL_size : ∀ (cs : List Value) (w : World) (g o : Nat), (putL w g o cs).heap.size = w.heap.size
  | [], w, g, o => rfl
  | c :: cs, w, g, o => by unfold putL; rw [putL_size cs _ g (o + 1)]; simp
theorem putL_below {B : Nat} {u : World} : ∀ (cs : List Value) (w : World) (g o : Nat), Below B u w → B ≤ g → Below B u (putL w g o cs)
  | [], w, g, o, h, hg => h
  | c :: cs, w, g, o, h, hg => putL_below cs _ g (o + 1) (h.setCell hg c) hg

/-- The row v', of l and a zero element. -/
def ZR {α : Type} (w : World) (base : Nat) (bad : Nat → Prop) (e k : Nat) (R : (Nat → Prop) → World → α → List Value → Prop) (zs : List Value) (g cap : Nat) (l : List α) : Prop :=
  base ≤ g ∧ g < w.heap.size ∧ ¬ bad g ∧ ∃ qs : List (List Value), w.ownsRow base e k (.slice (some ⟨g, 0, none⟩) (l.length + 1) cap) (l.length + 1) (qs.flatten ++ zs) ∧ qs.length = l.length ∧ ∀ (i : Nat) (h : i < l.length) (h' : i < qs.length), (qs[i]).length = k ∧ R (fun b => base ≤ b ∧ g ≠ b ∧ ¬ bad b) w l[i] qs[i]
theorem ZR.keep {α : Type} {w w' : World} {base e k g cap : Nat} {bad : Nat → Prop} {R : (Nat → Prop) → World → α → List Value → Prop} {zs : List Value} {l : List α} (hR : Kp R) (h : ZR w base bad e k R zs g cap l) (hs : w.heap.size ≤ w'.heap.size) (hk : ∀ b, base ≤ b → ¬ bad b → b < w.heap.size → w'.heap[b]? = w.heap[b]?) : ZR w' base bad e k R zs g cap l := by
  obtain ⟨h1, h2, h3, qs, ho, hl, hr⟩ := h
  refine ⟨h1, by omega, h3, qs, ownsRow_keep ho (fun g' hg => ?_), hl, fun i h h' => ⟨(hr i h h').1, hR (hr i h h').2 (fun b hb hlt => ⟨hb, hk b hb.1 hb.2.2 hlt⟩)⟩⟩
  simp only [Value.ownBlock, Option.some.injEq] at hg
  subst hg
  exact hk g h1 h3 h2
theorem ZR.on {α : Type} {w w' : World} {base e k g cap : Nat} {bad : Nat → Prop} {R : (Nat → Prop) → World → α → List Value → Prop} {zs : List Value} {l : List α} (hR : Kp R) (h : ZR w base bad e k R zs g cap l) (hb : Below w.heap.size w w') : ZR w' base bad e k R zs g cap l := h.keep hR hb.size (fun b _ _ hlt => hb.block b hlt)
theorem ZR.fx {α : Type} {w w' : World} {base e k g cap X : Nat} {bad : Nat → Prop} {R : (Nat → Prop) → World → α → List Value → Prop} {zs : List Value} {l : List α} (hR : Kp R) (h : ZR w base bad e k R zs g cap l) (hf : Fx X w w') (hX : X < base) : ZR w' base bad e k R zs g cap l :=
  h.keep hR hf.size (fun b hb _ hlt => hf.block b hlt (fun e => by have : b = X := Option.some.inj e; omega))
theorem flat_len {k : Nat} : ∀ (qs : List (List Value)), (∀ (i : Nat) (h : i < qs.length), (qs[i]).length = k) → qs.flatten.length = qs.length * k
  | [], _ => by simp
  | x :: t, h => by
    have hx : x.length = k := h 0 (by simp)
    rw [List.flatten_cons, List.length_append, flat_len t (fun i hi => h (i + 1) (by simpa using hi)), List.length_cons, Nat.succ_mul]
    omega
theorem ZR.cells {α : Type} {w : World} {base e k g cap : Nat} {bad : Nat → Prop} {R : (Nat → Prop) → World → α → List Value → Prop} {zs : List Value} {l : List α} (h : ZR w base bad e k R zs g cap l) : ∀ j z, zs[j]? = some z → w.cell? ⟨g, l.length * k + j, none⟩ = some z ∧ w.frozen? ⟨g, l.length * k + j, none⟩ = false := by
  obtain ⟨h1, h2, h3, qs, ho, hl, hr⟩ := h
  intro j z hz
  have hfl : qs.flatten.length = l.length * k := by rw [flat_len qs (fun i hi => (hr i (by omega) hi).1), hl]
  have hc := World.ownsRow.cells ho (g := g) rfl (l.length * k + j) z (by rw [List.getElem?_append_right (by omega), hfl, Nat.add_sub_cancel_left]; exact hz)
  rw [add_plain, Nat.zero_add] at hc
  exact ⟨hc, World.ownsRow.frozenAt ho _⟩
/-- The zero element is there. -/
theorem ZR.of {α : Type} {w w' : World} {base e k : Nat} {bad : Nat → Prop} {R : (Nat → Prop) → World → α → List Value → Prop} {v v' : Value} {zs : List Value} {l : List α} {qs : List (List Value)} (hR : Kp R)
    (ho : w.ownsRow base e k v l.length qs.flatten) (hl : qs.length = l.length) (hr : ∀ (i : Nat) (h : i < l.length) (h' : i < qs.length), (qs[i]).length = k ∧ R (fun b => base ≤ b ∧ v.ownBlock ≠ some b ∧ ¬ bad b) w l[i] qs[i]) (hgb : ∀ g, v.ownBlock = some g → ¬ bad g)
    (ho' : w'.ownsRow base e k v' (l.length + 1) (qs.flatten ++ zs)) (hg : w.grownBy w' v.ownBlock) (hat : v'.ownBlock = v.ownBlock ∨ v'.ownBlock = some w.heap.size) (hbad : ∀ b, bad b → b < w.heap.size) : ∃ g cap, v' = .slice (some ⟨g, 0, none⟩) (l.length + 1) cap ∧ l.length + 1 ≤ cap ∧ cap ≤ maxLen ∧ (v.ownBlock = some g ∨ g = w.heap.size) ∧ ZR w' base bad e k R zs g cap l := by
  rcases ho'.2 with ⟨_, h2⟩ | ⟨g, cap, cur, rfl, hb, hgg, hnc, hcm, _⟩
  · omega
  · have hgl : g < w'.heap.size := (Array.getElem?_eq_some_iff.1 hgg).1
    have hat' : v.ownBlock = some g ∨ g = w.heap.size := by
      simp only [Value.ownBlock] at hat
      rcases hat with h | h
      · exact .inl h.symm
      · exact .inr (Option.some.inj h)
    have hng : ¬ bad g := by
      rcases hat' with h | h
      · exact hgb g h
      · intro q; have := hbad g q; omega
    refine ⟨g, cap, rfl, hnc, hcm, hat', hb, hgl, hng, qs, ho', hl, fun i h h' => ⟨(hr i h h').1, hR (hr i h h').2 (fun b hb hlt => ⟨⟨hb.1, fun e => ?_, hb.2.2⟩, hg.block b hlt (fun e => hb.2.1 e.symm)⟩)⟩⟩
    subst e
    rcases hat' with h | h
    · exact hb.2.1 h
    · omega
/-- The element put in. -/
theorem ZR.put {α : Type} {w : World} {base e k g cap : Nat} {bad : Nat → Prop} {R : (Nat → Prop) → World → α → List Value → Prop} {zs : List Value} {l : List α} {p : α} {cs : List Value} (hR : Kp R) (h : ZR w base bad e k R zs g cap l) (hk : cs.length = k) (hz : zs.length = k) (hp : R (fun b => base ≤ b ∧ g ≠ b ∧ ¬ bad b) w p cs) : OwnB (putL w g (l.length * k) cs) base bad e k R (.slice (some ⟨g, 0, none⟩) (l.length + 1) cap) (l ++ [p]) := by
  obtain ⟨h1, h2, h3, qs, ho, hl, hr⟩ := h
  have hfl : qs.flatten.length = l.length * k := by rw [flat_len qs (fun i hi => (hr i (by omega) hi).1), hl]
  have ho2 := putL_own cs zs qs.flatten [] w base e k g (l.length + 1) cap (l.length * k) (by omega) hfl (by simpa using ho)
  rw [List.append_nil] at ho2
  have key : ∀ b, base ≤ b ∧ g ≠ b ∧ ¬ bad b → b < w.heap.size → (base ≤ b ∧ (Value.slice (some ⟨g, 0, none⟩) (l.length + 1) cap).ownBlock ≠ some b ∧ ¬ bad b) ∧ (putL w g (l.length * k) cs).heap[b]? = w.heap[b]? := fun b hb hlt =>
    ⟨⟨hb.1, fun e => hb.2.1 (Option.some.inj e), hb.2.2⟩, putL_heap cs w g _ b (fun e => hb.2.1 e.symm)⟩
  refine ⟨qs ++ [cs], ?_, by simp [hl], fun i h h' => ?_, fun g' hg' => ?_⟩
  · rw [List.flatten_append, List.length_append]
    simpa using ho2
  · rcases Nat.lt_or_ge i l.length with hi | hi
    · rw [List.getElem_append_left hi, List.getElem_append_left (by omega)]
      exact ⟨(hr i hi (by omega)).1, hR (hr i hi (by omega)).2 key⟩
    · have : i = l.length := by simp at h; omega
      subst this
      have e1 : (l ++ [p])[l.length] = p := by simp
      have e2 : (qs ++ [cs])[l.length]'h' = cs := by simp [← hl]
      rw [e1, e2]
      exact ⟨hk, hR hp key⟩
  · simp only [Value.ownBlock, Option.some.injEq] at hg'
    subst hg'
    exact h3
end Go.Proofs.Ytoankfbccofllaa

/- What the program's placed answers. -/
namespace Go.Proofs.Ytoankfbccofllaa
open Go.RowKit Go.Lib
set_option linter.unusedSimpArgs false
set_option linter.unusedVariables false
attribute [local go_sem ↓] Go.wp_at_zero Go.wp_at_succ

def pc0 (w : World) (X k : Nat) : Int := match w.cell? ⟨X, k, none⟩ with | some (.int _ n) => n | _ => 0
theorem pc0_of {w : World} {X k : Nat} {n : Int} (h : w.cell? ⟨X, k, none⟩ = some (.int .i64 n)) : pc0 w X k = n := by unfold pc0; rw [h]
theorem lf_same (j i : Nat) : decide (j = i + 1) = ((j : Int) == (i : Int) + 1) := by
  rw [Bool.eq_iff_iff, decide_eq_true_eq, beq_iff_eq]
  constructor
  · intro h; rw [h]; rfl
  · intro h; omega
theorem placed_res {w4 : World} {R : Nat} {a b c d e f g : Value} {tmps : Array Value} (hR : Bn w4 R [a, b, c, d, e, f, g]) (ht : tmps.getD 4 undef = .pointer (some ⟨R, 0, none⟩)) : (results Try.f20 tmps).run Try.prog w4 = .ok (.agg #[a, b, c, d, e, f, g]) w4 := by
  have ht' : tmps[4]?.getD undef = .pointer (some ⟨R, 0, none⟩) := by simpa using ht
  have c0 := (hR 0 _ rfl).1
  have c1 := (hR 1 _ rfl).1
  have c2 := (hR 2 _ rfl).1
  have c3 := (hR 3 _ rfl).1
  have c4 := (hR 4 _ rfl).1
  have c5 := (hR 5 _ rfl).1
  have c6 := (hR 6 _ rfl).1
  simp [results, Try.results20, go_sem, ht', c0, c1, c2, c3, c4, c5, c6]
set_option maxRecDepth 100000 in
set_option maxHeartbeats 8000000 in
theorem placed_any {ok : Nat → Prop} {w : World} {l : List Nd} {v : Value} {i : Nat} (h : RdNd ok w l v) (h40 : l.length ≤ 40) (hi : i < l.length) :
    Calls Try.prog 20 #[v, .int .i64 (i : Int)] w fun e w' => e = .returned (.agg (ndV (plN l i)).toArray) ∧ Below w.heap.size w w' := by
  obtain ⟨a, cap, rfl, hlc, hcm⟩ := h.form
  unfold maxLen at hcm
  obtain ⟨b, off, rfl, hbl, c0, c1, c2, c3, c4, c5, c6⟩ := nd_at h i hi
  have HC := hidOf h
  obtain ⟨D, hD⟩ : ∃ D, nD l = D := ⟨_, rfl⟩
  obtain ⟨n, hn⟩ : ∃ n, l.length = n := ⟨_, rfl⟩
  obtain ⟨d, hd⟩ : ∃ d, D i = d := ⟨_, rfl⟩
  obtain ⟨pp, hpp⟩ : ∃ p, ppar D d i = p := ⟨_, rfl⟩
  obtain ⟨bb, hbb⟩ : ∃ p, pbeh D d (n - (i + 1)) (i + 1) = p := ⟨_, rfl⟩
  have hpl : ndV (plN l i) = [.string (nAt l i).1, .int .i64 pp, .int .i64 d, .int .i64 (bb : Int), .bool (nAt l i).2.2.1, .bool (nAt l i).2.2.2.1, .bool (decide (bb = i + 1))] := by
    unfold plN ndV
    simp only [hD, hn, hd, hpp, hbb]
  have hbl2 := pbeh_le D d (n - (i + 1)) (i + 1)
  have hplt := ppar_lt D d i
  rw [hbb] at hbl2
  rw [hpp] at hplt
  rw [hpl]
  rw [hn] at hlc h40 hi ⊢
  rw [hD] at c2
  rw [hd] at c2
  have HN : Hid (l.length = n) := hn
  have HD : Hid (nD l = D) := hD
  have HPP : Hid (ppar D d i = pp) := hpp
  have HBB : Hid (pbeh D d (n - (i + 1)) (i + 1) = bb) := hbb
  have HDI : Hid (D i = d) := hd
  generalize (nAt l i).1 = x0 at *
  generalize nP l i = x1 at c1
  generalize nB l i = x3 at c3
  generalize (nAt l i).2.2.1 = x4 at *
  generalize (nAt l i).2.2.2.1 = x5 at *
  generalize nL l i = x6 at c6
  clear hpl h hD hn hd hpp hbb
  have HCE : Hid (∀ (w1 : World) (j : Nat), Below w.heap.size w w1 → j < n → w1.cell? ⟨b, off + j * 7 + 2, none⟩ = some (.int .i64 (D j))) := fun w1 j b1 hj => by
    obtain ⟨b', off', he, hbl', _, _, k2, _⟩ := nd_at HC.out j (by rw [HN.out]; exact hj)
    simp only [Option.some.injEq, Addr.mk.injEq, and_true] at he
    obtain ⟨rfl, rfl⟩ := he
    rw [HD.out] at k2
    exact (b1.cell (p := ⟨b, off + j * 7 + 2, none⟩) hbl').trans k2
  have i1 : (i : Int) < (n : Int) := by omega
  have i2 : (0 : Int) ≤ (i : Int) := by omega
  go_enter Try.func20, Try.ntmps20
  go_upto_region 2 with fail
  have hb0 := ((Below.refl w.heap.size w).alloc (Nat.le_refl _) (.cells #[.string ⟨#[]⟩, .int .i64 0, .int .i64 0, .int .i64 0, .bool false, .bool false, .bool false] 58)).alloc (by simp) (.cells #[.string x0, .int .i64 x1, .int .i64 d, .int .i64 x3, .bool x4, .bool x5, .bool x6] 58)
  have hR0 : Bn ((w.alloc (.cells #[.string ⟨#[]⟩, .int .i64 0, .int .i64 0, .int .i64 0, .bool false, .bool false, .bool false] 58)).alloc (.cells #[.string x0, .int .i64 x1, .int .i64 d, .int .i64 x3, .bool x4, .bool x5, .bool x6] 58)) w.heap.size [.string ⟨#[]⟩, .int .i64 0, .int .i64 0, .int .i64 0, .bool false, .bool false, .bool false] := (Bn.new w [.string ⟨#[]⟩, .int .i64 0, .int .i64 0, .int .i64 0, .bool false, .bool false, .bool false] 58 _ rfl).on ((Below.refl _ _).alloc (Nat.le_refl _) _)
  have hY0 : Bn ((w.alloc (.cells #[.string ⟨#[]⟩, .int .i64 0, .int .i64 0, .int .i64 0, .bool false, .bool false, .bool false] 58)).alloc (.cells #[.string x0, .int .i64 x1, .int .i64 d, .int .i64 x3, .bool x4, .bool x5, .bool x6] 58)) (w.heap.size + 1) [.string x0, .int .i64 x1, .int .i64 d, .int .i64 x3, .bool x4, .bool x5, .bool x6] := Bn.new (w.alloc (.cells #[.string ⟨#[]⟩, .int .i64 0, .int .i64 0, .int .i64 0, .bool false, .bool false, .bool false] 58)) [.string x0, .int .i64 x1, .int .i64 d, .int .i64 x3, .bool x4, .bool x5, .bool x6] 58 _ (by simp)
  generalize ((w.alloc (.cells #[.string ⟨#[]⟩, .int .i64 0, .int .i64 0, .int .i64 0, .bool false, .bool false, .bool false] 58)).alloc (.cells #[.string x0, .int .i64 x1, .int .i64 d, .int .i64 x3, .bool x4, .bool x5, .bool x6] 58)) = w0 at *
  have hY1 := hY0.set (i := 1) (by simp) (.int .i64 ((i : Int) - 1))
  have hR1 := hR0.far (X := w.heap.size + 1) (i := 1) (by omega) (.int .i64 ((i : Int) - 1))
  have hb1 := hb0.setCell (p := ⟨w.heap.size + 1, 1, none⟩) (by simp) (.int .i64 ((i : Int) - 1))
  simp only [List.set_cons_succ, List.set_cons_zero] at hY1
  obtain ⟨g1, f1⟩ := hY0 1 _ rfl
  have hi1 : (0 : Int) ≤ (i : Int) - 1 + 1 := by omega
  clear c0 c1 c2 c3 c4 c5 c6
  go_wp2
  clear g1 f1 hb0 hR0 hY0
  go_loopw [] (fun wr => ∃ k : Nat, k ≤ i ∧ Hid (ppar D d k = pp) ∧ Bn wr (w.heap.size + 1) [.string x0, .int .i64 ((k : Int) - 1), .int .i64 d, .int .i64 x3, .bool x4, .bool x5, .bool x6] ∧ Bn wr w.heap.size [.string ⟨#[]⟩, .int .i64 0, .int .i64 0, .int .i64 0, .bool false, .bool false, .bool false] ∧ Below w.heap.size w wr) (fun wr => (pc0 wr (w.heap.size + 1) 1 + 1).toNat)
  case atStart => exact ⟨i, Nat.le_refl _, HPP, hY1, hR1, hb1⟩
  case round =>
    clear hY1 hR1 hb1
    obtain ⟨k, hk, HK, hY, hR, hb⟩ := hrel
    have hx : (k = 0) ∨ (∃ k', k = k' + 1 ∧ D k' < d) ∨ (∃ k', k = k' + 1 ∧ d ≤ D k') := by
      cases k with
      | zero => exact .inl rfl
      | succ k' =>
        rcases Int.lt_or_le (D k') d with h | h
        · exact .inr (.inl ⟨k', rfl, h⟩)
        · exact .inr (.inr ⟨k', rfl, h⟩)
    rcases hx with rfl | ⟨k', rfl, hlt⟩ | ⟨k', rfl, hge⟩
    · have HP : Hid ((-1 : Int) = pp) := HK
      have hw : ((0 : Nat) : Int) - 1 = (-1 : Int) := by omega
      rw [hw] at hY
      clear HK
      obtain ⟨p, hp⟩ : ∃ p : Int, -1 = p := ⟨_, rfl⟩
      rw [hp] at hY HP
      have i5 : ¬ (0 : Int) ≤ p := by omega
      clear hw hp hk
      obtain ⟨g1, f1⟩ := hY 1 _ rfl
      go_upto_region 3 with fail
      go_quiet (fail)
      have hY : Bn (wr.drewN nq) (w.heap.size + 1) _ := hY
      have hR : Bn (wr.drewN nq) w.heap.size _ := hR
      have hb : Below w.heap.size w (wr.drewN nq) := hb.trans ⟨rfl, rfl, rfl, Nat.le_refl _, fun _ _ => rfl⟩
      clear g1 f1 i5
      generalize wr.drewN nq = wq at *
      obtain ⟨g3, f3⟩ := hY 3 _ rfl
      have hY2 := hY.set (i := 3) (by simp) (.int .i64 ((i : Int) + 1))
      have hR2 := hR.far (X := w.heap.size + 1) (i := 3) (by omega) (.int .i64 ((i : Int) + 1))
      have hb2 := hb.setCell (p := ⟨w.heap.size + 1, 3, none⟩) (by simp) (.int .i64 ((i : Int) + 1))
      simp only [List.set_cons_succ, List.set_cons_zero] at hY2
      go_wp2
      clear g3 f3 hY hR hb
      have ei : ((i + 1 : Nat) : Int) = (i : Int) + 1 := by omega
      go_loopw [] (fun wr => ∃ j : Nat, i + 1 ≤ j ∧ j ≤ n ∧ Hid (pbeh D d (n - j) j = bb) ∧ Bn wr (w.heap.size + 1) [.string x0, .int .i64 p, .int .i64 d, .int .i64 (j : Int), .bool x4, .bool x5, .bool x6] ∧ Bn wr w.heap.size [.string ⟨#[]⟩, .int .i64 0, .int .i64 0, .int .i64 0, .bool false, .bool false, .bool false] ∧ Below w.heap.size w wr) (fun wr => ((n : Int) - pc0 wr (w.heap.size + 1) 3).toNat)
      case atStart => exact ⟨i + 1, Nat.le_refl _, by omega, HBB, by rw [ei]; exact hY2, hR2, hb2⟩
      case round =>
        clear hY2 hR2 hb2 ei
        obtain ⟨j, hj1, hj2, HJ, hY, hR, hb⟩ := hrel
        have hx : (j = n) ∨ (j < n ∧ D j ≤ d) ∨ (j < n ∧ d < D j) := by omega
        rcases hx with hjn | ⟨hjn, hd⟩ | ⟨hjn, hd⟩
        · replace HJ : Hid (j = bb) := by
            have := HJ.out
            rw [hjn, Nat.sub_self] at this
            rw [hjn]; exact this
          have i3 : ¬ (j : Int) < (n : Int) := by omega
          clear hjn
          obtain ⟨g3, f3⟩ := hY 3 _ rfl
          go_upto_region 6 with fail
          go_quiet (fail)
          have hY : Bn (wr.drewN nq) (w.heap.size + 1) _ := hY
          have hR : Bn (wr.drewN nq) w.heap.size _ := hR
          have hb : Below w.heap.size w (wr.drewN nq) := hb.trans ⟨rfl, rfl, rfl, Nat.le_refl _, fun _ _ => rfl⟩
          clear g3 f3
          generalize wr.drewN nq = wq at *
          obtain ⟨g0, f0⟩ := hY 0 _ rfl
          obtain ⟨g1, f1⟩ := hY 1 _ rfl
          obtain ⟨g2, f2⟩ := hY 2 _ rfl
          obtain ⟨g3, f3⟩ := hY 3 _ rfl
          obtain ⟨g4, f4⟩ := hY 4 _ rfl
          obtain ⟨g5, f5⟩ := hY 5 _ rfl
          obtain ⟨g6, f6⟩ := hY 6 _ rfl
          obtain ⟨L, hL⟩ : ∃ L, ((j : Int) == (i : Int) + 1) = L := ⟨_, rfl⟩
          have HL : Hid (decide (bb = i + 1) = L) := by
            rw [← hL, ← HJ.out]
            exact lf_same j i
          go_upto_region 9 with fail
          have hY3 := hY.set (i := 6) (by simp) (.bool L)
          have hR3 := hR.far (X := w.heap.size + 1) (i := 6) (by omega) (.bool L)
          have hb3 := hb.setCell (p := ⟨w.heap.size + 1, 6, none⟩) (by simp) (.bool L)
          simp only [List.set_cons_succ, List.set_cons_zero] at hY3
          clear g0 f0 g1 f1 g2 f2 g3 f3 g4 f4 g5 f5 g6 f6 hY hR hb hL
          generalize wq.setCell ⟨w.heap.size + 1, 6, none⟩ (.bool L) = wz at *
          obtain ⟨g0, f0⟩ := hY3 0 _ rfl
          obtain ⟨g1, f1⟩ := hY3 1 _ rfl
          obtain ⟨g2, f2⟩ := hY3 2 _ rfl
          obtain ⟨g3, f3⟩ := hY3 3 _ rfl
          obtain ⟨g4, f4⟩ := hY3 4 _ rfl
          obtain ⟨g5, f5⟩ := hY3 5 _ rfl
          obtain ⟨g6, f6⟩ := hY3 6 _ rfl
          obtain ⟨r0, q0⟩ := hR3 0 _ rfl
          obtain ⟨r1, q1⟩ := hR3 1 _ rfl
          obtain ⟨r2, q2⟩ := hR3 2 _ rfl
          obtain ⟨r3, q3⟩ := hR3 3 _ rfl
          obtain ⟨r4, q4⟩ := hR3 4 _ rfl
          obtain ⟨r5, q5⟩ := hR3 5 _ rfl
          obtain ⟨r6, q6⟩ := hR3 6 _ rfl
          have hR2 := ((((((hR3.set (i := 0) (by simp) (.string x0)).set (i := 1) (by simp) (.int .i64 p)).set (i := 2) (by simp) (.int .i64 d)).set (i := 3) (by simp) (.int .i64 (j : Int))).set (i := 4) (by simp) (.bool x4)).set (i := 5) (by simp) (.bool x5)).set (i := 6) (by simp) (.bool L)
          have hb2 := putL_below [.string x0, .int .i64 p, .int .i64 d, .int .i64 (j : Int), .bool x4, .bool x5, .bool L] wz w.heap.size 0 hb3 (Nat.le_refl _)
          go_wp2
          exact bodyPost_ret (placed_res hR2 rfl) rfl ⟨by rw [HL.out, ← HJ.out, ← HP.out], hb2⟩

        · have e := HCE.out wr j hb hjn
          replace HJ : Hid (j = bb) := by
            have := HJ.out
            have h1 : n - j = (n - j - 1) + 1 := by omega
            rw [h1, pbeh, if_neg (by omega)] at this
            exact this
          have i3 : (j : Int) < (n : Int) := by omega
          have i4 : (0 : Int) ≤ (j : Int) := by omega
          obtain ⟨g3, f3⟩ := hY 3 _ rfl
          obtain ⟨g2, _⟩ := hY 2 _ rfl
          obtain ⟨q, hq⟩ : ∃ q, D j = q := ⟨_, rfl⟩
          rw [hq] at e hd
          have i5 : ¬ d < q := by omega
          clear hq
          go_upto_region 6 with fail
          go_quiet (fail)
          have hY : Bn (wr.drewN nq) (w.heap.size + 1) _ := hY
          have hR : Bn (wr.drewN nq) w.heap.size _ := hR
          have hb : Below w.heap.size w (wr.drewN nq) := hb.trans ⟨rfl, rfl, rfl, Nat.le_refl _, fun _ _ => rfl⟩
          clear g3 f3 e g2
          generalize wr.drewN nq = wq at *
          obtain ⟨g0, f0⟩ := hY 0 _ rfl
          obtain ⟨g1, f1⟩ := hY 1 _ rfl
          obtain ⟨g2, f2⟩ := hY 2 _ rfl
          obtain ⟨g3, f3⟩ := hY 3 _ rfl
          obtain ⟨g4, f4⟩ := hY 4 _ rfl
          obtain ⟨g5, f5⟩ := hY 5 _ rfl
          obtain ⟨g6, f6⟩ := hY 6 _ rfl
          obtain ⟨L, hL⟩ : ∃ L, ((j : Int) == (i : Int) + 1) = L := ⟨_, rfl⟩
          have HL : Hid (decide (bb = i + 1) = L) := by
            rw [← hL, ← HJ.out]
            exact lf_same j i
          go_upto_region 9 with fail
          have hY3 := hY.set (i := 6) (by simp) (.bool L)
          have hR3 := hR.far (X := w.heap.size + 1) (i := 6) (by omega) (.bool L)
          have hb3 := hb.setCell (p := ⟨w.heap.size + 1, 6, none⟩) (by simp) (.bool L)
          simp only [List.set_cons_succ, List.set_cons_zero] at hY3
          clear g0 f0 g1 f1 g2 f2 g3 f3 g4 f4 g5 f5 g6 f6 hY hR hb hL
          generalize wq.setCell ⟨w.heap.size + 1, 6, none⟩ (.bool L) = wz at *
          obtain ⟨g0, f0⟩ := hY3 0 _ rfl
          obtain ⟨g1, f1⟩ := hY3 1 _ rfl
          obtain ⟨g2, f2⟩ := hY3 2 _ rfl
          obtain ⟨g3, f3⟩ := hY3 3 _ rfl
          obtain ⟨g4, f4⟩ := hY3 4 _ rfl
          obtain ⟨g5, f5⟩ := hY3 5 _ rfl
          obtain ⟨g6, f6⟩ := hY3 6 _ rfl
          obtain ⟨r0, q0⟩ := hR3 0 _ rfl
          obtain ⟨r1, q1⟩ := hR3 1 _ rfl
          obtain ⟨r2, q2⟩ := hR3 2 _ rfl
          obtain ⟨r3, q3⟩ := hR3 3 _ rfl
          obtain ⟨r4, q4⟩ := hR3 4 _ rfl
          obtain ⟨r5, q5⟩ := hR3 5 _ rfl
          obtain ⟨r6, q6⟩ := hR3 6 _ rfl
          have hR2 := ((((((hR3.set (i := 0) (by simp) (.string x0)).set (i := 1) (by simp) (.int .i64 p)).set (i := 2) (by simp) (.int .i64 d)).set (i := 3) (by simp) (.int .i64 (j : Int))).set (i := 4) (by simp) (.bool x4)).set (i := 5) (by simp) (.bool x5)).set (i := 6) (by simp) (.bool L)
          have hb2 := putL_below [.string x0, .int .i64 p, .int .i64 d, .int .i64 (j : Int), .bool x4, .bool x5, .bool L] wz w.heap.size 0 hb3 (Nat.le_refl _)
          go_wp2
          exact bodyPost_ret (placed_res hR2 rfl) rfl ⟨by rw [HL.out, ← HJ.out, ← HP.out], hb2⟩

        · have e := HCE.out wr j hb hjn
          replace HJ : Hid (pbeh D d (n - (j + 1)) (j + 1) = bb) := by
            have := HJ.out
            have h1 : n - j = (n - (j + 1)) + 1 := by omega
            rw [h1, pbeh, if_pos hd] at this
            exact this
          have i3 : (j : Int) < (n : Int) := by omega
          have i4 : (0 : Int) ≤ (j : Int) := by omega
          obtain ⟨g3, f3⟩ := hY 3 _ rfl
          obtain ⟨g2, _⟩ := hY 2 _ rfl
          obtain ⟨q, hq⟩ : ∃ q, D j = q := ⟨_, rfl⟩
          rw [hq] at e hd
          have hm := pc0_of g3
          clear hq
          go_upto_region 6 with fail
          go_quiet (fail)
          have hY : Bn (wr.drewN nq) (w.heap.size + 1) _ := hY
          have hR : Bn (wr.drewN nq) w.heap.size _ := hR
          have hb : Below w.heap.size w (wr.drewN nq) := hb.trans ⟨rfl, rfl, rfl, Nat.le_refl _, fun _ _ => rfl⟩
          have g3 : (wr.drewN nq).cell? ⟨w.heap.size + 1, 3, none⟩ = some (.int .i64 (j : Int)) := g3
          have f3 : (wr.drewN nq).frozen? ⟨w.heap.size + 1, 3, none⟩ = false := f3
          clear e g2
          generalize wr.drewN nq = wq at *
          have hY2 := hY.set (i := 3) (by simp) (.int .i64 ((j : Int) + 1))
          have hR2 := hR.far (X := w.heap.size + 1) (i := 3) (by omega) (.int .i64 ((j : Int) + 1))
          have hb2 := hb.setCell (p := ⟨w.heap.size + 1, 3, none⟩) (by simp) (.int .i64 ((j : Int) + 1))
          simp only [List.set_cons_succ, List.set_cons_zero] at hY2
          have hm2 := pc0_of (hY2 3 _ rfl).1
          have ej : ((j + 1 : Nat) : Int) = (j : Int) + 1 := by omega
          have HEJ : Hid (((j + 1 : Nat) : Int) = (j : Int) + 1) := ej
          clear ej
          go_wp2
          go_roundw
          case rel => exact ⟨j + 1, by omega, hjn, HJ, by rw [HEJ.out]; exact hY2, hR2, hb2⟩
          case measure => rw [hm, hm2]; omega

    · have hw : ((k' + 1 : Nat) : Int) - 1 = (k' : Int) := by omega
      rw [hw] at hY
      have e := HCE.out wr k' hb (by omega)
      have HP : Hid ((k' : Int) = pp) := by rw [← HK.out]; show _ = ppar D d (k' + 1); unfold ppar; rw [if_pos hlt]
      clear HK
      obtain ⟨g1, f1⟩ := hY 1 _ rfl
      obtain ⟨g2, _⟩ := hY 2 _ rfl
      have i3 : (k' : Int) < (n : Int) := by omega
      have i4 : (0 : Int) ≤ (k' : Int) := by omega
      obtain ⟨q, hq⟩ : ∃ q, D k' = q := ⟨_, rfl⟩
      have i5 : ¬ d ≤ q := by omega
      rw [hq] at e
      clear hq hlt hw
      go_upto_region 3 with fail
      go_quiet (fail)
      have hY : Bn (wr.drewN nq) (w.heap.size + 1) _ := hY
      have hR : Bn (wr.drewN nq) w.heap.size _ := hR
      have hb : Below w.heap.size w (wr.drewN nq) := hb.trans ⟨rfl, rfl, rfl, Nat.le_refl _, fun _ _ => rfl⟩
      clear e g1 f1 g2 i3 i4 i5 hk
      generalize wr.drewN nq = wq at *
      generalize (k' : Int) = p at *
      obtain ⟨g3, f3⟩ := hY 3 _ rfl
      have hY2 := hY.set (i := 3) (by simp) (.int .i64 ((i : Int) + 1))
      have hR2 := hR.far (X := w.heap.size + 1) (i := 3) (by omega) (.int .i64 ((i : Int) + 1))
      have hb2 := hb.setCell (p := ⟨w.heap.size + 1, 3, none⟩) (by simp) (.int .i64 ((i : Int) + 1))
      simp only [List.set_cons_succ, List.set_cons_zero] at hY2
      go_wp2
      clear g3 f3 hY hR hb
      have ei : ((i + 1 : Nat) : Int) = (i : Int) + 1 := by omega
      go_loopw [] (fun wr => ∃ j : Nat, i + 1 ≤ j ∧ j ≤ n ∧ Hid (pbeh D d (n - j) j = bb) ∧ Bn wr (w.heap.size + 1) [.string x0, .int .i64 p, .int .i64 d, .int .i64 (j : Int), .bool x4, .bool x5, .bool x6] ∧ Bn wr w.heap.size [.string ⟨#[]⟩, .int .i64 0, .int .i64 0, .int .i64 0, .bool false, .bool false, .bool false] ∧ Below w.heap.size w wr) (fun wr => ((n : Int) - pc0 wr (w.heap.size + 1) 3).toNat)
      case atStart => exact ⟨i + 1, Nat.le_refl _, by omega, HBB, by rw [ei]; exact hY2, hR2, hb2⟩
      case round =>
        clear hY2 hR2 hb2 ei
        obtain ⟨j, hj1, hj2, HJ, hY, hR, hb⟩ := hrel
        have hx : (j = n) ∨ (j < n ∧ D j ≤ d) ∨ (j < n ∧ d < D j) := by omega
        rcases hx with hjn | ⟨hjn, hd⟩ | ⟨hjn, hd⟩
        · replace HJ : Hid (j = bb) := by
            have := HJ.out
            rw [hjn, Nat.sub_self] at this
            rw [hjn]; exact this
          have i3 : ¬ (j : Int) < (n : Int) := by omega
          clear hjn
          obtain ⟨g3, f3⟩ := hY 3 _ rfl
          go_upto_region 6 with fail
          go_quiet (fail)
          have hY : Bn (wr.drewN nq) (w.heap.size + 1) _ := hY
          have hR : Bn (wr.drewN nq) w.heap.size _ := hR
          have hb : Below w.heap.size w (wr.drewN nq) := hb.trans ⟨rfl, rfl, rfl, Nat.le_refl _, fun _ _ => rfl⟩
          clear g3 f3
          generalize wr.drewN nq = wq at *
          obtain ⟨g0, f0⟩ := hY 0 _ rfl
          obtain ⟨g1, f1⟩ := hY 1 _ rfl
          obtain ⟨g2, f2⟩ := hY 2 _ rfl
          obtain ⟨g3, f3⟩ := hY 3 _ rfl
          obtain ⟨g4, f4⟩ := hY 4 _ rfl
          obtain ⟨g5, f5⟩ := hY 5 _ rfl
          obtain ⟨g6, f6⟩ := hY 6 _ rfl
          obtain ⟨L, hL⟩ : ∃ L, ((j : Int) == (i : Int) + 1) = L := ⟨_, rfl⟩
          have HL : Hid (decide (bb = i + 1) = L) := by
            rw [← hL, ← HJ.out]
            exact lf_same j i
          go_upto_region 9 with fail
          have hY3 := hY.set (i := 6) (by simp) (.bool L)
          have hR3 := hR.far (X := w.heap.size + 1) (i := 6) (by omega) (.bool L)
          have hb3 := hb.setCell (p := ⟨w.heap.size + 1, 6, none⟩) (by simp) (.bool L)
          simp only [List.set_cons_succ, List.set_cons_zero] at hY3
          clear g0 f0 g1 f1 g2 f2 g3 f3 g4 f4 g5 f5 g6 f6 hY hR hb hL
          generalize wq.setCell ⟨w.heap.size + 1, 6, none⟩ (.bool L) = wz at *
          obtain ⟨g0, f0⟩ := hY3 0 _ rfl
          obtain ⟨g1, f1⟩ := hY3 1 _ rfl
          obtain ⟨g2, f2⟩ := hY3 2 _ rfl
          obtain ⟨g3, f3⟩ := hY3 3 _ rfl
          obtain ⟨g4, f4⟩ := hY3 4 _ rfl
          obtain ⟨g5, f5⟩ := hY3 5 _ rfl
          obtain ⟨g6, f6⟩ := hY3 6 _ rfl
          obtain ⟨r0, q0⟩ := hR3 0 _ rfl
          obtain ⟨r1, q1⟩ := hR3 1 _ rfl
          obtain ⟨r2, q2⟩ := hR3 2 _ rfl
          obtain ⟨r3, q3⟩ := hR3 3 _ rfl
          obtain ⟨r4, q4⟩ := hR3 4 _ rfl
          obtain ⟨r5, q5⟩ := hR3 5 _ rfl
          obtain ⟨r6, q6⟩ := hR3 6 _ rfl
          have hR2 := ((((((hR3.set (i := 0) (by simp) (.string x0)).set (i := 1) (by simp) (.int .i64 p)).set (i := 2) (by simp) (.int .i64 d)).set (i := 3) (by simp) (.int .i64 (j : Int))).set (i := 4) (by simp) (.bool x4)).set (i := 5) (by simp) (.bool x5)).set (i := 6) (by simp) (.bool L)
          have hb2 := putL_below [.string x0, .int .i64 p, .int .i64 d, .int .i64 (j : Int), .bool x4, .bool x5, .bool L] wz w.heap.size 0 hb3 (Nat.le_refl _)
          go_wp2
          exact bodyPost_ret (placed_res hR2 rfl) rfl ⟨by rw [HL.out, ← HJ.out, ← HP.out], hb2⟩

        · have e := HCE.out wr j hb hjn
          replace HJ : Hid (j = bb) := by
            have := HJ.out
            have h1 : n - j = (n - j - 1) + 1 := by omega
            rw [h1, pbeh, if_neg (by omega)] at this
            exact this
          have i3 : (j : Int) < (n : Int) := by omega
          have i4 : (0 : Int) ≤ (j : Int) := by omega
          obtain ⟨g3, f3⟩ := hY 3 _ rfl
          obtain ⟨g2, _⟩ := hY 2 _ rfl
          obtain ⟨q, hq⟩ : ∃ q, D j = q := ⟨_, rfl⟩
          rw [hq] at e hd
          have i5 : ¬ d < q := by omega
          clear hq
          go_upto_region 6 with fail
          go_quiet (fail)
          have hY : Bn (wr.drewN nq) (w.heap.size + 1) _ := hY
          have hR : Bn (wr.drewN nq) w.heap.size _ := hR
          have hb : Below w.heap.size w (wr.drewN nq) := hb.trans ⟨rfl, rfl, rfl, Nat.le_refl _, fun _ _ => rfl⟩
          clear g3 f3 e g2
          generalize wr.drewN nq = wq at *
          obtain ⟨g0, f0⟩ := hY 0 _ rfl
          obtain ⟨g1, f1⟩ := hY 1 _ rfl
          obtain ⟨g2, f2⟩ := hY 2 _ rfl
          obtain ⟨g3, f3⟩ := hY 3 _ rfl
          obtain ⟨g4, f4⟩ := hY 4 _ rfl
          obtain ⟨g5, f5⟩ := hY 5 _ rfl
          obtain ⟨g6, f6⟩ := hY 6 _ rfl
          obtain ⟨L, hL⟩ : ∃ L, ((j : Int) == (i : Int) + 1) = L := ⟨_, rfl⟩
          have HL : Hid (decide (bb = i + 1) = L) := by
            rw [← hL, ← HJ.out]
            exact lf_same j i
          go_upto_region 9 with fail
          have hY3 := hY.set (i := 6) (by simp) (.bool L)
          have hR3 := hR.far (X := w.heap.size + 1) (i := 6) (by omega) (.bool L)
          have hb3 := hb.setCell (p := ⟨w.heap.size + 1, 6, none⟩) (by simp) (.bool L)
          simp only [List.set_cons_succ, List.set_cons_zero] at hY3
          clear g0 f0 g1 f1 g2 f2 g3 f3 g4 f4 g5 f5 g6 f6 hY hR hb hL
          generalize wq.setCell ⟨w.heap.size + 1, 6, none⟩ (.bool L) = wz at *
          obtain ⟨g0, f0⟩ := hY3 0 _ rfl
          obtain ⟨g1, f1⟩ := hY3 1 _ rfl
          obtain ⟨g2, f2⟩ := hY3 2 _ rfl
          obtain ⟨g3, f3⟩ := hY3 3 _ rfl
          obtain ⟨g4, f4⟩ := hY3 4 _ rfl
          obtain ⟨g5, f5⟩ := hY3 5 _ rfl
          obtain ⟨g6, f6⟩ := hY3 6 _ rfl
          obtain ⟨r0, q0⟩ := hR3 0 _ rfl
          obtain ⟨r1, q1⟩ := hR3 1 _ rfl
          obtain ⟨r2, q2⟩ := hR3 2 _ rfl
          obtain ⟨r3, q3⟩ := hR3 3 _ rfl
          obtain ⟨r4, q4⟩ := hR3 4 _ rfl
          obtain ⟨r5, q5⟩ := hR3 5 _ rfl
          obtain ⟨r6, q6⟩ := hR3 6 _ rfl
          have hR2 := ((((((hR3.set (i := 0) (by simp) (.string x0)).set (i := 1) (by simp) (.int .i64 p)).set (i := 2) (by simp) (.int .i64 d)).set (i := 3) (by simp) (.int .i64 (j : Int))).set (i := 4) (by simp) (.bool x4)).set (i := 5) (by simp) (.bool x5)).set (i := 6) (by simp) (.bool L)
          have hb2 := putL_below [.string x0, .int .i64 p, .int .i64 d, .int .i64 (j : Int), .bool x4, .bool x5, .bool L] wz w.heap.size 0 hb3 (Nat.le_refl _)
          go_wp2
          exact bodyPost_ret (placed_res hR2 rfl) rfl ⟨by rw [HL.out, ← HJ.out, ← HP.out], hb2⟩

        · have e := HCE.out wr j hb hjn
          replace HJ : Hid (pbeh D d (n - (j + 1)) (j + 1) = bb) := by
            have := HJ.out
            have h1 : n - j = (n - (j + 1)) + 1 := by omega
            rw [h1, pbeh, if_pos hd] at this
            exact this
          have i3 : (j : Int) < (n : Int) := by omega
          have i4 : (0 : Int) ≤ (j : Int) := by omega
          obtain ⟨g3, f3⟩ := hY 3 _ rfl
          obtain ⟨g2, _⟩ := hY 2 _ rfl
          obtain ⟨q, hq⟩ : ∃ q, D j = q := ⟨_, rfl⟩
          rw [hq] at e hd
          have hm := pc0_of g3
          clear hq
          go_upto_region 6 with fail
          go_quiet (fail)
          have hY : Bn (wr.drewN nq) (w.heap.size + 1) _ := hY
          have hR : Bn (wr.drewN nq) w.heap.size _ := hR
          have hb : Below w.heap.size w (wr.drewN nq) := hb.trans ⟨rfl, rfl, rfl, Nat.le_refl _, fun _ _ => rfl⟩
          have g3 : (wr.drewN nq).cell? ⟨w.heap.size + 1, 3, none⟩ = some (.int .i64 (j : Int)) := g3
          have f3 : (wr.drewN nq).frozen? ⟨w.heap.size + 1, 3, none⟩ = false := f3
          clear e g2
          generalize wr.drewN nq = wq at *
          have hY2 := hY.set (i := 3) (by simp) (.int .i64 ((j : Int) + 1))
          have hR2 := hR.far (X := w.heap.size + 1) (i := 3) (by omega) (.int .i64 ((j : Int) + 1))
          have hb2 := hb.setCell (p := ⟨w.heap.size + 1, 3, none⟩) (by simp) (.int .i64 ((j : Int) + 1))
          simp only [List.set_cons_succ, List.set_cons_zero] at hY2
          have hm2 := pc0_of (hY2 3 _ rfl).1
          have ej : ((j + 1 : Nat) : Int) = (j : Int) + 1 := by omega
          have HEJ : Hid (((j + 1 : Nat) : Int) = (j : Int) + 1) := ej
          clear ej
          go_wp2
          go_roundw
          case rel => exact ⟨j + 1, by omega, hjn, HJ, by rw [HEJ.out]; exact hY2, hR2, hb2⟩
          case measure => rw [hm, hm2]; omega

    · have hw : ((k' + 1 : Nat) : Int) - 1 = (k' : Int) := by omega
      rw [hw] at hY
      have e := HCE.out wr k' hb (by omega)
      have HP : Hid (ppar D d k' = pp) := by rw [← HK.out]; show _ = ppar D d (k' + 1); rw [ppar, if_neg (by omega)]
      clear HK
      obtain ⟨g1, f1⟩ := hY 1 _ rfl
      obtain ⟨g2, _⟩ := hY 2 _ rfl
      have i3 : (k' : Int) < (n : Int) := by omega
      have i4 : (0 : Int) ≤ (k' : Int) := by omega
      obtain ⟨q, hq⟩ : ∃ q, D k' = q := ⟨_, rfl⟩
      rw [hq] at e hge
      have hm := pc0_of g1
      clear hq hw
      go_upto_region 3 with fail
      go_quiet (fail)
      have hY : Bn (wr.drewN nq) (w.heap.size + 1) _ := hY
      have hR : Bn (wr.drewN nq) w.heap.size _ := hR
      have hb : Below w.heap.size w (wr.drewN nq) := hb.trans ⟨rfl, rfl, rfl, Nat.le_refl _, fun _ _ => rfl⟩
      have g1 : (wr.drewN nq).cell? ⟨w.heap.size + 1, 1, none⟩ = some (.int .i64 (k' : Int)) := g1
      have f1 : (wr.drewN nq).frozen? ⟨w.heap.size + 1, 1, none⟩ = false := f1
      clear e g2 i3 hge
      generalize wr.drewN nq = wq at *
      have hY2 := hY.set (i := 1) (by simp) (.int .i64 ((k' : Int) - 1))
      have hR2 := hR.far (X := w.heap.size + 1) (i := 1) (by omega) (.int .i64 ((k' : Int) - 1))
      have hb2 := hb.setCell (p := ⟨w.heap.size + 1, 1, none⟩) (by simp) (.int .i64 ((k' : Int) - 1))
      simp only [List.set_cons_succ, List.set_cons_zero] at hY2
      have hm2 := pc0_of (hY2 1 _ rfl).1
      go_wp2
      go_roundw
      case rel => exact ⟨k', by omega, HP, hY2, hR2, hb2⟩
      case measure => rw [hm, hm2]; omega
end Go.Proofs.Ytoankfbccofllaa

/- What the program's Letter, digit, inWord, runSize, remarkSize, Name do. -/
namespace Go.Proofs.Ytoankfbccofllaa
open Go.RowKit Go.Lib
set_option linter.unusedSimpArgs false
set_option linter.unusedVariables false

/-- What a range tells of a rune. -/
def rn (r : Int) : Int := if r = -1 then 65533 else r
/-- m runes, of k bytes, lie behind us. -/
structure Gone (l : List UInt8) (m k : Nat) : Prop where
  le : k ≤ l.length
  left : runes (l.drop k) = (runes l).drop m
  size : (byt ((runes l).take m)).length = k
  few : m ≤ k
theorem Gone.zero (l : List UInt8) : Gone l 0 0 := ⟨by omega, rfl, rfl, by omega⟩
theorem Gone.step {l : List UInt8} {m k : Nat} (h : Gone l m k) (hk : k < l.length) : Gone l (m + 1) (k + (nx (l.drop k)).2) := by
  have hne := drop_ne hk
  have hc := runes_cons hne
  have hle := nx_le hne
  have hps := nx_pos hne
  rw [List.length_drop] at hle
  have hd : (runes l).drop m = ((nx (l.drop k)).1, (l.drop k).take (nx (l.drop k)).2) :: runes ((l.drop k).drop (nx (l.drop k)).2) := by rw [← h.left, hc]
  have hd1 : (runes l).drop (m + 1) = runes (l.drop (k + (nx (l.drop k)).2)) := by
    have := congrArg List.tail hd
    rw [List.tail_drop, List.tail_cons, List.drop_drop] at this
    exact this
  refine ⟨by omega, hd1.symm, ?_, by have := h.few; omega⟩
  have e1 := byt_split (runes l) (m + 1)
  rw [hd1, byt_runes _ _ (Nat.le_refl _), byt_runes _ _ (Nat.le_refl _), List.length_drop] at e1
  omega
theorem Gone.take {l : List UInt8} {m k : Nat} (h : Gone l m k) (hk : k < l.length) : (runes l).take (m + 1) = (runes l).take m ++ [((nx (l.drop k)).1, (l.drop k).take (nx (l.drop k)).2)] := by
  have hc := runes_cons (drop_ne hk)
  rw [h.left] at hc
  have hlt : m < (runes l).length := by
    rcases Nat.lt_or_ge m (runes l).length with h1 | h1
    · exact h1
    · rw [List.drop_eq_nil_of_le h1] at hc; cases hc
  rw [List.take_succ_eq_append_getElem hlt]
  rw [List.drop_eq_getElem_cons hlt] at hc
  rw [(List.cons.inj hc).1]




/-- Of which kind what a text begins with would be, and how many runes it has. -/
def pc (l : List UInt8) : Nat × Nat :=
  if (nx l).1 = 32 ∨ (nx l).1 = 9 ∨ (nx l).1 = 10 then (0, 1) else if (nx l).1 = 35 then (0, rest (runes l)) else if letter (nx l).1 = true then (1, spn (runes l))
  else if dgt (nx l).1 = true then (2, spn (runes l)) else (3, sgn (runes l))
abbrev ps (a b : Int) : Value := .agg #[.int .i64 a, .int .i64 b]
/-- A string's iterator. -/
def It0 (w : World) (k : Nat) (s : ByteArray) (p : Nat) : Prop := w.heap[k]? = some (.stringIter s p)
theorem It0.keepB {w w' : World} {k B : Nat} {s : ByteArray} {p : Nat} (h : It0 w k s p) (hb : Below B w w') (hB : k < B) : It0 w' k s p := (hb.block k hB).trans h
theorem It0.lt {w : World} {k : Nat} {s : ByteArray} {p : Nat} (h : It0 w k s p) : k < w.heap.size := (Array.getElem?_eq_some_iff.1 h).1
theorem It0.keep {w w' : World} {k : Nat} {s : ByteArray} {p : Nat} (h : It0 w k s p) (hb : Below w.heap.size w w') : It0 w' k s p := h.keepB hb h.lt
theorem It0.set {w : World} {k X i : Nat} {s : ByteArray} {p : Nat} (h : It0 w k s p) (hne : X ≠ k) (v : Value) : It0 (w.setCell ⟨X, i, none⟩ v) k s p := by
  unfold It0
  rw [Below.heap_setCell _ _ _ _ (fun e => hne e.symm)]
  exact h

end Go.Proofs.Ytoankfbccofllaa

/- What strings.Clone does: the same bytes. -/
namespace Go.Proofs.Ytoankfbccofllaa
open Go.Shelf Go.RowKit Go.Lib
set_option linter.unusedSimpArgs false
set_option linter.unusedVariables false

def renC : Ren := { f := fun x => match x with | 316 => 31 | n => n, t := fun x => match x with | 9 => 9 | 3 => 3 | 4 => 4 | 37 => 98 | 0 => 0 | 127 => 99 | 5 => 5 | n => n, g := fun x => x }
theorem laysC : LaysM.n316 Try.prog renC :=
  { mixed := by kernel_rfl, f316 := Try.func31.trans (congrArg some (by kernel_rfl)),
    t0 := Try.underlying0, a0 := Try.isAgg0, z0 := Try.sizeOf0, v0 := Try.zeroValue0, t3 := Try.underlying3, a3 := Try.isAgg3, z3 := Try.sizeOf3, v3 := Try.zeroValue3, t4 := Try.underlying4, a4 := Try.isAgg4, z4 := Try.sizeOf4, v4 := Try.zeroValue4,
    t9 := Try.underlying9, a9 := Try.isAgg9, z9 := Try.sizeOf9, v9 := Try.zeroValue9, t37 := Try.underlying98, a37 := Try.isAgg98, z37 := Try.sizeOf98, v37 := Try.zeroValue98,
    t127 := Try.underlying99, a127 := Try.isAgg99, z127 := Try.sizeOf99, v127 := Try.zeroValue99, t5 := Try.underlying5, a5 := Try.isAgg5, z5 := Try.sizeOf5, v5 := Try.zeroValue5,
    i0 := by kernel_rfl, i3 := by kernel_rfl, i4 := by kernel_rfl, i5 := by kernel_rfl, i9 := by kernel_rfl, i37 := by kernel_rfl, i127 := by kernel_rfl }
theorem pClone_any (s : ByteArray) (w : World) (hs : s.size ≤ 140737488351232) :
    Calls Try.prog 19 #[.string s] w fun e w' => e = .returned (.string s) ∧ Below w.heap.size w w' := by
  have h1 : Calls Try.prog 31 #[.string s] w fun e w' => e = .returned (.string s) ∧ Below w.heap.size w w' := Any.stringslite_Clone laysC s w (by omega)
  go_enter Try.func19, Try.ntmps19
  go_wp2_with (first
    | (go_at_call 31; refine h1.mono ?_; rintro e w1 ⟨rfl, b1⟩))
  go_ret
  exact ⟨rfl, b1⟩

end Go.Proofs.Ytoankfbccofllaa

/- What the program's Nodes does. -/
namespace Go.Proofs.Ytoankfbccofllaa
open Go.RowKit Go.Lib
set_option linter.unusedSimpArgs false
set_option linter.unusedVariables false
attribute [local go_sem ↓] Go.wp_at_zero Go.wp_at_succ
attribute [local go_sem] fld_i

theorem stk_len : ∀ (st : List Sg), st.length ≤ (st.map cntS).sum
  | [] => by simp
  | x :: r => by
    have := stk_len r
    have h1 : 1 ≤ cntS x := cnt_pos x.1 x.2
    simp only [List.map_cons, List.sum_cons, List.length_cons]
    omega

set_option maxRecDepth 100000 in
set_option maxHeartbeats 4000000 in
theorem pNodes_cnt (d : Nat) (t : T d) (w : World) (hc : Cl d t) (hn : cnt d t ≤ 100000) : Calls Try.prog 47 #[exV d t] w fun r w' => r = .returned (.int .i64 ((min (cnt d t) 41 : Nat) : Int)) ∧ Below w.heap.size w w' := by
  obtain ⟨i0, hi, hz0, hz1, hz2⟩ := info_parts Try.infoE
  obtain ⟨x, hx⟩ : ∃ x, exV d t = x := ⟨_, rfl⟩
  have hf := exV_form d t
  obtain ⟨N, hN⟩ : ∃ N, cnt d t = N := ⟨_, rfl⟩
  have hst : Hid (Stk (w.alloc (.cells #[x] 88)) w.heap.size (.slice (some ⟨w.heap.size, 0, none⟩) 1 1) [(⟨d, t⟩ : Sg)]) := by
    have := World.ownsRow_lit (e := 88) (base := w.heap.size) (size := 1) w #[x] 1 (Nat.le_refl _) (by simp [maxLen]) (by simp)
    show Stk _ _ _ _
    unfold Stk
    simpa [exS, hx] using this
  have hcl : Hid (∀ y ∈ [(⟨d, t⟩ : Sg)], ClS y) := fun y hy => by simp at hy; subst hy; exact hc
  have hsum : Hid (0 + (([(⟨d, t⟩ : Sg)]).map cntS).sum = N) := by show 0 + (cnt d t + 0) = N; omega
  obtain ⟨V, hV⟩ : ∃ V, min (cnt d t) 41 = V := ⟨_, rfl⟩
  rw [hV]
  have HV : Hid (min N 41 = V) := by rw [← hN]; exact hV
  rw [hN] at hn
  rw [hx] at hf ⊢
  clear hx hN hc hV
  obtain ⟨S, hS⟩ : ∃ S, [(⟨d, t⟩ : Sg)] = S := ⟨_, rfl⟩
  rw [hS] at hst hcl hsum
  clear hS t d
  rcases hf with rfl | ⟨u, y, rfl⟩
  · go_enter Try.func47, Try.ntmps47
    go_wp2
    go_loopw [3, 4] (fun a v wr => ∃ (c : Nat) (st : List Sg), a = .int .i64 (c : Int) ∧ c ≤ 41 ∧ Stk wr w.heap.size v st ∧ Hid (∀ y ∈ st, ClS y) ∧ Hid (c + (st.map cntS).sum = N) ∧ Below w.heap.size w wr) (fun a _ _ => 41 - (RowKit.intOf a).toNat)
    case atStart => exact ⟨0, S, rfl, by omega, hst.out, hcl, hsum, (Below.refl _ _).alloc (Nat.le_refl _) _⟩
    case round =>
      obtain ⟨c, st, rfl, hc41, hS, hC, hM, hb⟩ := hrel
      by_cases he : st = []
      · subst he
        obtain ⟨a, cap, rfl⟩ := hS.nil
        have hm := hM.out
        simp only [List.map_nil, List.sum_nil, Nat.add_zero] at hm
        subst hm
        have hmin : V = c := by rw [← HV.out]; omega
        subst hmin
        clear hsum
        go_wp2
        go_ret
        exact ⟨rfl, hb⟩
      obtain ⟨st', y, rfl⟩ := last_of he
      obtain ⟨g, cap, rfl, hcap, hcm, hgb, hgl, hcell, hS'⟩ := hS.pop
      have hm := hM.out
      rw [List.map_append, List.sum_append, List.map_singleton, List.sum_singleton] at hm
      have hcl1 := hC.out y (by simp)
      obtain ⟨e, t⟩ := y
      cases e with
      | zero => exact Empty.elim t
      | succ e =>
      obtain ⟨k, n, s, ps, rfl, htop⟩ := top_any (d := e) (t := t) hcl1
      have hcs : cntS ⟨e + 1, mkT k n s ps⟩ = (ps.map (cnt e)).sum + 1 := cnt_mk k n s ps
      rw [hcs] at hm
      have i1 : ((st'.length : Int) + 1 > 0) := by omega
      by_cases hc40 : c = 41
      · have i2 : ¬ (c : Int) ≤ 40 := by omega
        have hmin : V = c := by rw [← HV.out]; omega
        subst hmin
        clear hsum htop hcell hm hcs hC hM hS hS' hcl1 hst HV
        go_wp2
        go_ret
        exact ⟨rfl, hb⟩
      have i2 : (c : Int) ≤ 40 := by omega
      have hS2 := fun w1 (b : Below wr.heap.size wr w1) => hS'.on b (Nat.le_refl _)
      have hq := hb.size
      have i3 : (0 : Int) ≤ (st'.length : Int) := by omega
      have i4 : (st'.length : Int) ≤ (cap : Int) := by omega
      have i5 : (st'.length : Int) < (st'.length : Int) + 1 := by omega
      have hpl : ps.length ≤ 2 := (Cl.parts hcl1).1
      have hsl : st'.length ≤ 100000 := by
        have : st'.length ≤ (st'.map cntS).sum := stk_len st'
        omega
      have hNM : Hid (c + 1 + ((st' ++ kidS ps).map cntS).sum = N) := by
        show _ = _
        rw [List.map_append, List.sum_append, kidS_cnt]; omega
      have hNC : Hid (∀ y ∈ st' ++ kidS ps, ClS y) := fun y hy => by
        rcases List.mem_append.1 hy with h | h
        · exact hC.out y (by simp [h])
        · obtain ⟨p, hp, rfl⟩ := List.mem_map.1 h
          exact (Cl.parts hcl1).2 p hp
      obtain ⟨L, hL⟩ : ∃ L, ps.map (exV e) = L := ⟨_, rfl⟩
      obtain ⟨z, hz⟩ : ∃ z, exS ⟨e + 1, mkT k n s ps⟩ = z := ⟨_, rfl⟩
      have hzf := exS_form ⟨e + 1, mkT k n s ps⟩
      have hti : Hid (∀ v ∈ L, Ifc v) := by rw [← hL]; exact ifc_map ps
      have hLl : Hid (L.length = ps.length) := by rw [← hL]; show _ = _; simp
      have hL2 : L.length ≤ 2 := by rw [hLl.out]; exact hpl
      have htop' : ∀ w1, Calls Try.prog 49 #[z] w1 fun e w' => ∃ sl, e = .returned (.agg #[.int .i64 k, .int .i64 n, .string s, sl]) ∧ Kids w' sl L ∧ Below w1.heap.size w1 w' := by rw [← hz, ← hL]; exact htop
      rw [hz] at hcell hzf
      have hLH : Hid (ps.map (exV e) = L) := hL
      clear hL hz htop hm hcs hC hM hS hcl1 hst hsum hS'
      go_wp2
      go_region_law (first
          | (refine step_append_both _ (by rfl) (.tmp 20) (.tmp 26) 126 126 (by rfl) w.heap.size 88 i0 .nilIface 1 16 Try.underlying126 hi hz0 hz1 hz2 rfl _ st'.length _ (by rfl) ho1 _ L.length L (by rfl) (hk1.src hti.out) L.length (.inr (by omega)) (Nat.le_refl _) (by unfold maxLen; omega) (Nat.le_trans hq b1'.size) ?_; intro v4 w4 ho4 hg4 _)
          | (go_simp; refine (htop' _).mono ?_; rintro e w1 ⟨sl, rfl, hk1, b1⟩; obtain ⟨a1, rfl⟩ := hk1.form; have b1' : Below wr.heap.size wr w1 := ((Below.refl _ wr).drew).trans b1; have ho1 := hS2 w1 b1'))
      have bel4 : Below w.heap.size w w4 := (hb.trans (b1'.mono hq)).grown hg4 (Nat.le_trans hq b1'.size) (fun k hk => (World.ownsRow.lt ho1 k hk).1)
      have hS4 : Stk w4 w.heap.size v4 (st' ++ kidS ps) := Stk.push (n := st'.length + L.length) (by rw [hLl.out]) (by rw [hLH.out]; exact ho4)
      clear ho4 hg4 ho1 hk1 b1 b1' hS2 hcell htop' hb
      go_wp2
      go_roundw
      case rel => exact ⟨c + 1, st' ++ kidS ps, by go_num, by omega, hS4, hNC, hNM, bel4⟩
      case measure => simp [RowKit.intOf]; omega
  · go_enter Try.func47, Try.ntmps47
    go_wp2
    go_loopw [3, 4] (fun a v wr => ∃ (c : Nat) (st : List Sg), a = .int .i64 (c : Int) ∧ c ≤ 41 ∧ Stk wr w.heap.size v st ∧ Hid (∀ y ∈ st, ClS y) ∧ Hid (c + (st.map cntS).sum = N) ∧ Below w.heap.size w wr) (fun a _ _ => 41 - (RowKit.intOf a).toNat)
    case atStart => exact ⟨0, S, rfl, by omega, hst.out, hcl, hsum, (Below.refl _ _).alloc (Nat.le_refl _) _⟩
    case round =>
      obtain ⟨c, st, rfl, hc41, hS, hC, hM, hb⟩ := hrel
      by_cases he : st = []
      · subst he
        obtain ⟨a, cap, rfl⟩ := hS.nil
        have hm := hM.out
        simp only [List.map_nil, List.sum_nil, Nat.add_zero] at hm
        subst hm
        have hmin : V = c := by rw [← HV.out]; omega
        subst hmin
        clear hsum
        go_wp2
        go_ret
        exact ⟨rfl, hb⟩
      obtain ⟨st', y, rfl⟩ := last_of he
      obtain ⟨g, cap, rfl, hcap, hcm, hgb, hgl, hcell, hS'⟩ := hS.pop
      have hm := hM.out
      rw [List.map_append, List.sum_append, List.map_singleton, List.sum_singleton] at hm
      have hcl1 := hC.out y (by simp)
      obtain ⟨e, t⟩ := y
      cases e with
      | zero => exact Empty.elim t
      | succ e =>
      obtain ⟨k, n, s, ps, rfl, htop⟩ := top_any (d := e) (t := t) hcl1
      have hcs : cntS ⟨e + 1, mkT k n s ps⟩ = (ps.map (cnt e)).sum + 1 := cnt_mk k n s ps
      rw [hcs] at hm
      have i1 : ((st'.length : Int) + 1 > 0) := by omega
      by_cases hc40 : c = 41
      · have i2 : ¬ (c : Int) ≤ 40 := by omega
        have hmin : V = c := by rw [← HV.out]; omega
        subst hmin
        clear hsum htop hcell hm hcs hC hM hS hS' hcl1 hst HV
        go_wp2
        go_ret
        exact ⟨rfl, hb⟩
      have i2 : (c : Int) ≤ 40 := by omega
      have hS2 := fun w1 (b : Below wr.heap.size wr w1) => hS'.on b (Nat.le_refl _)
      have hq := hb.size
      have i3 : (0 : Int) ≤ (st'.length : Int) := by omega
      have i4 : (st'.length : Int) ≤ (cap : Int) := by omega
      have i5 : (st'.length : Int) < (st'.length : Int) + 1 := by omega
      have hpl : ps.length ≤ 2 := (Cl.parts hcl1).1
      have hsl : st'.length ≤ 100000 := by
        have : st'.length ≤ (st'.map cntS).sum := stk_len st'
        omega
      have hNM : Hid (c + 1 + ((st' ++ kidS ps).map cntS).sum = N) := by
        show _ = _
        rw [List.map_append, List.sum_append, kidS_cnt]; omega
      have hNC : Hid (∀ y ∈ st' ++ kidS ps, ClS y) := fun y hy => by
        rcases List.mem_append.1 hy with h | h
        · exact hC.out y (by simp [h])
        · obtain ⟨p, hp, rfl⟩ := List.mem_map.1 h
          exact (Cl.parts hcl1).2 p hp
      obtain ⟨L, hL⟩ : ∃ L, ps.map (exV e) = L := ⟨_, rfl⟩
      obtain ⟨z, hz⟩ : ∃ z, exS ⟨e + 1, mkT k n s ps⟩ = z := ⟨_, rfl⟩
      have hzf := exS_form ⟨e + 1, mkT k n s ps⟩
      have hti : Hid (∀ v ∈ L, Ifc v) := by rw [← hL]; exact ifc_map ps
      have hLl : Hid (L.length = ps.length) := by rw [← hL]; show _ = _; simp
      have hL2 : L.length ≤ 2 := by rw [hLl.out]; exact hpl
      have htop' : ∀ w1, Calls Try.prog 49 #[z] w1 fun e w' => ∃ sl, e = .returned (.agg #[.int .i64 k, .int .i64 n, .string s, sl]) ∧ Kids w' sl L ∧ Below w1.heap.size w1 w' := by rw [← hz, ← hL]; exact htop
      rw [hz] at hcell hzf
      have hLH : Hid (ps.map (exV e) = L) := hL
      clear hL hz htop hm hcs hC hM hS hcl1 hst hsum hS'
      go_wp2
      go_region_law (first
          | (refine step_append_both _ (by rfl) (.tmp 20) (.tmp 26) 126 126 (by rfl) w.heap.size 88 i0 .nilIface 1 16 Try.underlying126 hi hz0 hz1 hz2 rfl _ st'.length _ (by rfl) ho1 _ L.length L (by rfl) (hk1.src hti.out) L.length (.inr (by omega)) (Nat.le_refl _) (by unfold maxLen; omega) (Nat.le_trans hq b1'.size) ?_; intro v4 w4 ho4 hg4 _)
          | (go_simp; refine (htop' _).mono ?_; rintro e w1 ⟨sl, rfl, hk1, b1⟩; obtain ⟨a1, rfl⟩ := hk1.form; have b1' : Below wr.heap.size wr w1 := ((Below.refl _ wr).drew).trans b1; have ho1 := hS2 w1 b1'))
      have bel4 : Below w.heap.size w w4 := (hb.trans (b1'.mono hq)).grown hg4 (Nat.le_trans hq b1'.size) (fun k hk => (World.ownsRow.lt ho1 k hk).1)
      have hS4 : Stk w4 w.heap.size v4 (st' ++ kidS ps) := Stk.push (n := st'.length + L.length) (by rw [hLl.out]) (by rw [hLH.out]; exact ho4)
      clear ho4 hg4 ho1 hk1 b1 b1' hS2 hcell htop' hb
      go_wp2
      go_roundw
      case rel => exact ⟨c + 1, st' ++ kidS ps, by go_num, by omega, hS4, hNC, hNM, bel4⟩
      case measure => simp [RowKit.intOf]; omega
end Go.Proofs.Ytoankfbccofllaa

/- What an expression is by itself, its parts in new memory. -/
namespace Go.Proofs.Ytoankfbccofllaa
open Go.RowKit Go.Lib
set_option linter.unusedSimpArgs false
set_option linter.unusedVariables false
attribute [local go_sem ↓] Go.wp_at_zero Go.wp_at_succ
attribute [local go_sem] as_lit_lit as_ref_lit as_ref_ref as_not_lit as_not_ref as_not_not as_neg_lit as_neg_ref as_neg_not as_neg_neg as_bin_lit as_bin_ref as_bin_not as_bin_neg as_bin_bin

/-- The slice v holds the values l, in a block from lo on. -/
def KidsN (lo : Nat) (w : World) (v : Value) (l : List Value) : Prop := Kids w v l ∧ ∀ g, v.ownBlock = some g → lo ≤ g
end Go.Proofs.Ytoankfbccofllaa

/- What the program's Same does: what its rounds lean on. -/
namespace Go.Proofs.Ytoankfbccofllaa
open Go.RowKit Go.Lib
set_option linter.unusedSimpArgs false
set_option linter.unusedVariables false
attribute [local go_sem ↓] Go.wp_at_zero Go.wp_at_succ

theorem cell_al {w : World} {p : Addr} {v : Value} {O : Obj} (h : w.cell? p = some v) : (w.alloc O).cell? p = some v := (((Below.refl w.heap.size w).alloc (Nat.le_refl _) O).cell (World.block_lt_of_cell? w _ h)).trans h
theorem cell_pt {w : World} {X Y j : Nat} {v a b c e : Value} (h : w.cell? ⟨Y, j, none⟩ = some v) (hne : Y ≠ X) : (put4 w X a b c e).cell? ⟨Y, j, none⟩ = some v := cell_far4 (by omega) (cell_far4 (by omega) (cell_far4 (by omega) (cell_far4 (by omega) h)))
abbrev z4 (w : World) (X : Nat) : Prop := B4 w X (.int .i64 0) (.int .i64 0) (.string ⟨#[]⟩) (.slice none 0 0)

theorem cell_dr {w : World} {p : Addr} {v : Value} (h : w.cell? p = some v) : w.drew.cell? p = some v := h
theorem ne_pt {X Y i j : Nat} (h : Y ≠ X) : ¬ (X = Y ∧ i = j) := fun e => h e.1.symm
abbrev O0 : Obj := .cells #[.int .i64 0, .int .i64 0, .string ⟨#[]⟩, .slice none 0 0] 128
theorem bw2 {w w1 : World} (b : Below ((w.alloc (.cells #[.int .i64 0, .int .i64 0, .string ⟨#[]⟩, .slice none 0 0] 128)).alloc (.cells #[.int .i64 0, .int .i64 0, .string ⟨#[]⟩, .slice none 0 0] 128)).drew.heap.size ((w.alloc (.cells #[.int .i64 0, .int .i64 0, .string ⟨#[]⟩, .slice none 0 0] 128)).alloc (.cells #[.int .i64 0, .int .i64 0, .string ⟨#[]⟩, .slice none 0 0] 128)).drew w1) : Below w.heap.size w w1 := ((((Below.refl _ w).alloc (Nat.le_refl _) _).alloc (by simp) _).drew).trans (b.mono (by simp; omega))
theorem Kids.put {w : World} {sl : Value} {L : List Value} {X : Nat} {a b c e : Value} (h : Kids w sl L) (hi : ∀ v ∈ L, Ifc v) (hz : z4 w X) : Kids (put4 w X a b c e) sl L := by
  rcases h with h | ⟨g, hv, hc⟩
  · exact .inl h
  · refine .inr ⟨g, hv, fun i hl => ?_⟩
    have hne : g ≠ X := fun e => by
      subst e
      have h0 := hc 0 (by omega)
      rw [hz.c0] at h0
      have h1 := Option.some.inj h0
      rcases hi _ (List.getElem_mem (by omega : 0 < L.length)) with q | ⟨u, y, q⟩
      · rw [q] at h1; cases h1
      · rw [q] at h1; cases h1
    exact cell_pt (hc i hl) hne
theorem KidsN.put {lo : Nat} {w : World} {sl : Value} {L : List Value} {X : Nat} {a b c e : Value} (h : KidsN lo w sl L) (hi : ∀ v ∈ L, Ifc v) (hz : z4 w X) : KidsN lo (put4 w X a b c e) sl L := ⟨h.1.put hi hz, h.2⟩
theorem KidsN.al {lo : Nat} {w : World} {sl : Value} {L : List Value} {O : Obj} (h : KidsN lo w sl L) : KidsN lo (w.alloc O) sl L := ⟨h.1.below ((Below.refl _ _).alloc (Nat.le_refl _) O) (Nat.le_refl _), h.2⟩
theorem B4.at {w : World} {X : Nat} {a b c e : Value} (h : B4 w X a b c e) : At4 w X a b c e := ⟨h.c0, h.c1, h.c2, h.c3⟩
section
variable {wr w2 : World} {X Y : Nat} {a b c sl a' b' c' sl' : Value} {L M : List Value}
end

end Go.Proofs.Ytoankfbccofllaa
