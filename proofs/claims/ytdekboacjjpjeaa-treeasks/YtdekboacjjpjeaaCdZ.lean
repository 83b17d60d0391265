
/- A row with a zero element at its end, in whose place another is put. -/
import Derived.Test.YtdekboacjjpjeaaCdO
namespace Go.Proofs.Ytdekboacjjpjeaa
open Go.RowKit Go.Lib
set_option linter.unusedSimpArgs false
set_option linter.unusedVariables false

theorem setCell_far (w : World) {p q : Addr} (h : p.block ≠ q.block) (u v : Value) : (w.setCell p u).setCell q v = (w.setCell q v).setCell p u := by
  unfold World.setCell
  simp only [World.mk.injEq, and_true, true_and]
  apply Array.ext_getElem?
  intro k
  simp only [Array.getElem?_modify]
  by_cases h1 : q.block = k
  · by_cases h2 : p.block = k
    · exact absurd (h2.trans h1.symm) h
    · simp [h1, h2]
  · by_cases h2 : p.block = k
    · simp [h1, h2]
    · simp [h1, h2]
theorem putL_far (g S i : Nat) (v : Value) (h : S ≠ g) : ∀ (cs : List Value) (w : World) (o : Nat), putL (w.setCell ⟨S, i, none⟩ v) g o cs = (putL w g o cs).setCell ⟨S, i, none⟩ v
  | [], w, o => rfl
  | c :: cs, w, o => by
    unfold putL
    rw [setCell_far w (p := ⟨S, i, none⟩) (q := ⟨g, o, none⟩) h]
    exact putL_far g S i v h cs _ _
/-- The row v', of l and a zero element. -/
def ZR {α : Type} (w : World) (base : Nat) (bad : Nat → Prop) (e k : Nat) (R : (Nat → Prop) → World → α → List Value → Prop) (zs : List Value) (g cap : Nat) (l : List α) : Prop :=
  base ≤ g ∧ g < w.heap.size ∧ ¬ bad g ∧ ∃ qs : List (List Value), w.ownsRow base e k (.slice (some ⟨g, 0, none⟩) (l.length + 1) cap) (l.length + 1) (qs.flatten ++ zs) ∧ qs.length = l.length ∧ ∀ (i : Nat) (h : i < l.length) (h' : i < qs.length), (qs[i]).length = k ∧ R (fun b => base ≤ b ∧ g ≠ b ∧ ¬ bad b) w l[i] qs[i]
theorem ZR.keep {α : Type} {w w' : World} {base e k g cap : Nat} {bad : Nat → Prop} {R : (Nat → Prop) → World → α → List Value → Prop} {zs : List Value} {l : List α} (hR : Kp R) (h : ZR w base bad e k R zs g cap l) (hs : w.heap.size ≤ w'.heap.size) (hk : ∀ b, base ≤ b → ¬ bad b → b < w.heap.size → w'.heap[b]? = w.heap[b]?) : ZR w' base bad e k R zs g cap l := by
  obtain ⟨h1, h2, h3, qs, ho, hl, hr⟩ := h
  refine ⟨h1, by omega, h3, qs, ownsRow_keep ho (fun g' hg => ?_), hl, fun i h h' => ⟨(hr i h h').1, hR (hr i h h').2 (fun b hb hlt => ⟨hb, hk b hb.1 hb.2.2 hlt⟩)⟩⟩
  simp only [Value.ownBlock, Option.some.injEq] at hg
  subst hg
  exact hk g h1 h3 h2
theorem ZR.on {α : Type} {w w' : World} {base e k g cap : Nat} {bad : Nat → Prop} {R : (Nat → Prop) → World → α → List Value → Prop} {zs : List Value} {l : List α} (hR : Kp R) (h : ZR w base bad e k R zs g cap l) (hb : Below w.heap.size w w') : ZR w' base bad e k R zs g cap l := h.keep hR hb.size (fun b _ _ hlt => hb.block b hlt)
theorem ZR.fx {α : Type} {w w' : World} {base e k g cap X : Nat} {bad : Nat → Prop} {R : (Nat → Prop) → World → α → List Value → Prop} {zs : List Value} {l : List α} (hR : Kp R) (h : ZR w base bad e k R zs g cap l) (hf : Fx X w w') (hX : X < base) : ZR w' base bad e k R zs g cap l :=
  h.keep hR hf.size (fun b hb _ hlt => hf.block b hlt (fun e => by have : b = X := Option.some.inj e; omega))
theorem flat_len {k : Nat} : ∀ (qs : List (List Value)), (∀ (i : Nat) (h : i < qs.length), (qs[i]).length = k) → qs.flatten.length = qs.length * k
  | [], _ => by simp
  | x :: t, h => by
    have hx : x.length = k := h 0 (by simp)
    rw [List.flatten_cons, List.length_append, flat_len t (fun i hi => h (i + 1) (by simpa using hi)), List.length_cons, Nat.succ_mul]
    omega
theorem ZR.cells {α : Type} {w : World} {base e k g cap : Nat} {bad : Nat → Prop} {R : (Nat → Prop) → World → α → List Value → Prop} {zs : List Value} {l : List α} (h : ZR w base bad e k R zs g cap l) : ∀ j z, zs[j]? = some z → w.cell? ⟨g, l.length * k + j, none⟩ = some z ∧ w.frozen? ⟨g, l.length * k + j, none⟩ = false := by
  obtain ⟨h1, h2, h3, qs, ho, hl, hr⟩ := h
  intro j z hz
  have hfl : qs.flatten.length = l.length * k := by rw [flat_len qs (fun i hi => (hr i (by omega) hi).1), hl]
  have hc := World.ownsRow.cells ho (g := g) rfl (l.length * k + j) z (by rw [List.getElem?_append_right (by omega), hfl, Nat.add_sub_cancel_left]; exact hz)
  rw [add_plain, Nat.zero_add] at hc
  exact ⟨hc, World.ownsRow.frozenAt ho _⟩
/-- The zero element is there. -/
theorem ZR.of {α : Type} {w w' : World} {base e k : Nat} {bad : Nat → Prop} {R : (Nat → Prop) → World → α → List Value → Prop} {v v' : Value} {zs : List Value} {l : List α} {qs : List (List Value)} (hR : Kp R)
    (ho : w.ownsRow base e k v l.length qs.flatten) (hl : qs.length = l.length) (hr : ∀ (i : Nat) (h : i < l.length) (h' : i < qs.length), (qs[i]).length = k ∧ R (fun b => base ≤ b ∧ v.ownBlock ≠ some b ∧ ¬ bad b) w l[i] qs[i]) (hgb : ∀ g, v.ownBlock = some g → ¬ bad g)
    (ho' : w'.ownsRow base e k v' (l.length + 1) (qs.flatten ++ zs)) (hg : w.grownBy w' v.ownBlock) (hat : v'.ownBlock = v.ownBlock ∨ v'.ownBlock = some w.heap.size) (hbad : ∀ b, bad b → b < w.heap.size) : ∃ g cap, v' = .slice (some ⟨g, 0, none⟩) (l.length + 1) cap ∧ l.length + 1 ≤ cap ∧ cap ≤ maxLen ∧ (v.ownBlock = some g ∨ g = w.heap.size) ∧ ZR w' base bad e k R zs g cap l := by
  rcases ho'.2 with ⟨_, h2⟩ | ⟨g, cap, cur, rfl, hb, hgg, hnc, hcm, _⟩
  · omega
  · have hgl : g < w'.heap.size := (Array.getElem?_eq_some_iff.1 hgg).1
    have hat' : v.ownBlock = some g ∨ g = w.heap.size := by
      simp only [Value.ownBlock] at hat
      rcases hat with h | h
      · exact .inl h.symm
      · exact .inr (Option.some.inj h)
    have hng : ¬ bad g := by
      rcases hat' with h | h
      · exact hgb g h
      · intro q; have := hbad g q; omega
    refine ⟨g, cap, rfl, hnc, hcm, hat', hb, hgl, hng, qs, ho', hl, fun i h h' => ⟨(hr i h h').1, hR (hr i h h').2 (fun b hb hlt => ⟨⟨hb.1, fun e => ?_, hb.2.2⟩, hg.block b hlt (fun e => hb.2.1 e.symm)⟩)⟩⟩
    subst e
    rcases hat' with h | h
    · exact hb.2.1 h
    · omega
/-- The element put in. -/
theorem ZR.put {α : Type} {w : World} {base e k g cap : Nat} {bad : Nat → Prop} {R : (Nat → Prop) → World → α → List Value → Prop} {zs : List Value} {l : List α} {p : α} {cs : List Value} (hR : Kp R) (h : ZR w base bad e k R zs g cap l) (hk : cs.length = k) (hz : zs.length = k) (hp : R (fun b => base ≤ b ∧ g ≠ b ∧ ¬ bad b) w p cs) : OwnB (putL w g (l.length * k) cs) base bad e k R (.slice (some ⟨g, 0, none⟩) (l.length + 1) cap) (l ++ [p]) := by
  obtain ⟨h1, h2, h3, qs, ho, hl, hr⟩ := h
  have hfl : qs.flatten.length = l.length * k := by rw [flat_len qs (fun i hi => (hr i (by omega) hi).1), hl]
  have ho2 := putL_own cs zs qs.flatten [] w base e k g (l.length + 1) cap (l.length * k) (by omega) hfl (by simpa using ho)
  rw [List.append_nil] at ho2
  have key : ∀ b, base ≤ b ∧ g ≠ b ∧ ¬ bad b → b < w.heap.size → (base ≤ b ∧ (Value.slice (some ⟨g, 0, none⟩) (l.length + 1) cap).ownBlock ≠ some b ∧ ¬ bad b) ∧ (putL w g (l.length * k) cs).heap[b]? = w.heap[b]? := fun b hb hlt =>
    ⟨⟨hb.1, fun e => hb.2.1 (Option.some.inj e), hb.2.2⟩, putL_heap cs w g _ b (fun e => hb.2.1 e.symm)⟩
  refine ⟨qs ++ [cs], ?_, by simp [hl], fun i h h' => ?_, fun g' hg' => ?_⟩
  · rw [List.flatten_append, List.length_append]
    simpa using ho2
  · rcases Nat.lt_or_ge i l.length with hi | hi
    · rw [List.getElem_append_left hi, List.getElem_append_left (by omega)]
      exact ⟨(hr i hi (by omega)).1, hR (hr i hi (by omega)).2 key⟩
    · have : i = l.length := by simp at h; omega
      subst this
      have e1 : (l ++ [p])[l.length] = p := by simp
      have e2 : (qs ++ [cs])[l.length]'h' = cs := by simp [← hl]
      rw [e1, e2]
      exact ⟨hk, hR hp key⟩
  · simp only [Value.ownBlock, Option.some.injEq] at hg'
    subst hg'
    exact h3
/-- The zero element appended, as a step of a region. -/
theorem step_zero {α : Type} {P : Program} (wa W : World) (hW : Below wa.heap.size wa W) {ops : Array Oper} {o : Oper} {a : Act} {K : Act → World → Prop} {Q : Exit → Act → World → Prop} {E : Prop} (hgd : o.guard = none) (s x : Operand) (t : TypeId)
    (ho : o.op = .call { callee := .builtin .append, args := #[s, x], argTypes := #[t, t] })
    (base : Nat) (bad : Nat → Prop) (e : TypeId) (i : TypeInfo) (z : Value) (k bytes : Nat) (ht : P.underlying t = some (.slice e)) (hi : P.info? e = some i) (hz : i.zero = some z)
    (hsize : i.size = k) (hby : i.bytes = bytes) (hzs : z.cells.size = k) {R : (Nat → Prop) → World → α → List Value → Prop} (hR : Kp R)
    (v : Value) (l : List α) (p : α) (cs zs : List Value) (xv : Value) (lo : Nat) (hs : a.eval s = v) (hx : a.eval x = xv) (hsrc : Src P k t xv 1 zs W)
    (hown : OwnB wa base bad e k R v l) (hp : R (fun b => lo ≤ b) wa p cs) (hlo : base ≤ lo) (hv : ∀ x, v.ownBlock = some x → x < lo) (hbad : ∀ b, bad b → b < lo ∧ b < wa.heap.size) (hroom : (l.length + 1 + (l.length + 1) / 4 + 192) * bytes ≤ 281474976710656)
    (h63 : l.length + 1 ≤ maxLen) (hbase : base ≤ wa.heap.size)
    (h : ∀ g cap w', l.length + 1 ≤ cap → cap ≤ maxLen → ZR w' base bad e k R zs g cap l → R (fun b => base ≤ b ∧ g ≠ b ∧ ¬ bad b) w' p cs → W.grownBy w' v.ownBlock → Below base wa w' → ((Value.slice (some ⟨g, 0, none⟩) (l.length + 1) cap).ownBlock = v.ownBlock ∨ (Value.slice (some ⟨g, 0, none⟩) (l.length + 1) cap).ownBlock = some W.heap.size) → K (a.put o.dst (.slice (some ⟨g, 0, none⟩) (l.length + 1) cap)) w') :
    if Region.wanted o (yielded ops a.tmps) = true then Oper.wp P o a W K Q else E := by
  obtain ⟨qs, ho1, hl1, hr1, hg1⟩ := hown.on hR hW
  refine step_append_at _ hgd s x t t ho base e i z k bytes ht hi hz hsize hby hzs v l.length qs.flatten hs ho1 _ 1 zs hx hsrc 1 (.inr hroom) (Nat.le_refl _) h63 (Nat.le_trans hbase hW.size) ?_
  intro v' w' hown' hg hat
  obtain ⟨g, cap, rfl, h1, h2, h3, h4⟩ := ZR.of hR ho1 hl1 hr1 hg1 hown' hg hat (fun b q => Nat.lt_of_lt_of_le (hbad b q).2 hW.size)
  refine h g cap w' h1 h2 h4 (hR hp (fun b hb hlt => ⟨⟨by omega, fun e => ?_, fun q => ?_⟩, ?_⟩)) hg ?_ hat
  · subst e
    rcases h3 with q | q
    · have := hv g q; omega
    · have := hW.size; omega
  · have := (hbad b q).1; omega
  · rw [hg.block b (Nat.lt_of_lt_of_le hlt hW.size) (fun e => by have := hv b e.symm; omega)]
    exact hW.block b hlt
  · exact (hW.mono hbase).grown hg (Nat.le_trans hbase hW.size) (fun k hk => (World.ownsRow.lt ho1 k hk).1)
end Go.Proofs.Ytdekboacjjpjeaa
