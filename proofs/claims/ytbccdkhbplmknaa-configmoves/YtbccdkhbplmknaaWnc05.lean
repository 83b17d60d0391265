import Derived.RangeFuncNested
import Derived.RangeFuncBound
import Derived.RangeFuncCalls
import Derived.RangeFuncLeaves
import Derived.Test.YtbccdkhbplmknaaWnc04
import Derived.Test.YtbccdkhbplmknaaWnc02
import Derived.Shelf.Abstract
import Derived.Shelf.RegionOpen
import Derived.WalkKit
import Derived.OwnWalkIn
import Derived.TacticsInMore
import Derived.LoopNIn
import Derived.LoopIn
import Derived.Sort.LoopGhostIn
import Derived.Maps.OwnIn
import Derived.WalkSmall
import Derived.OrdersIn
import Derived.OrdersHeld
import Derived.Deep.RegionHeldLaw
import Derived.TacticsIn
import Derived.Test.YtbccdkhbplmknaaRows
import Derived.Shelf.Strconv.Clone
import Derived.Deep.RegionLaw
import Derived.Test.YtbccdkhbplmknaaWnc01
import Derived.Deep.LoopGhost
import Derived.Deep.DeepCutAuto
import Derived.Test.YtbccdkhbplmknaaWnc03
import Derived.Sort.CutIn
import Derived.Deep.CutBlock

/- A range over a function whose iterator keeps cells of its own: what the caller's side owns and what the iterator owns lie apart. -/
namespace Go.Proofs.Ytbccdkhbplmknaa
open Go.RowKit
set_option linter.unusedSimpArgs false
set_option linter.unusedVariables false

/-- The blocks of K that lay in A lie in B as they lay. -/
structure Sm (K : Nat → Prop) (A B : World) : Prop where
  os : B.os = A.os
  tape : B.tape = A.tape
  output : B.output = A.output
  size : A.heap.size ≤ B.heap.size
  block : ∀ k, k < A.heap.size → K k → B.heap[k]? = A.heap[k]?
theorem Sm.refl (K : Nat → Prop) (A : World) : Sm K A A := ⟨rfl, rfl, rfl, Nat.le_refl _, fun _ _ _ => rfl⟩
theorem Sm.trans {K K' : Nat → Prop} {A B C : World} (h : Sm K A B) (k : Sm K' B C) (hk : ∀ i, i < A.heap.size → K i → K' i) : Sm K A C :=
  ⟨k.os.trans h.os, k.tape.trans h.tape, k.output.trans h.output, Nat.le_trans h.size k.size, fun i hi hK => (k.block i (Nat.lt_of_lt_of_le hi h.size) (hk i hi hK)).trans (h.block i hi hK)⟩
theorem Sm.mono {K K' : Nat → Prop} {A B : World} (h : Sm K A B) (hk : ∀ i, i < A.heap.size → K' i → K i) : Sm K' A B :=
  ⟨h.os, h.tape, h.output, h.size, fun i hi hK => h.block i hi (hk i hi hK)⟩
theorem Sm.below {K : Nat → Prop} {A B : World} {n : Nat} (h : Sm K A B) (hn : n ≤ A.heap.size) (hk : ∀ i, i < n → K i) : Below n A B :=
  ⟨h.os, h.tape, h.output, h.size, fun i hi => h.block i (by omega) (hk i hi)⟩
theorem Sm.of_grown {K : Nat → Prop} {A B : World} {row : Option Nat} (h : A.grownBy B row) (hk : ∀ i, i < A.heap.size → K i → some i ≠ row) : Sm K A B :=
  ⟨h.os, h.tape, h.output, h.size, fun i hi hK => h.block i hi (hk i hi hK)⟩
theorem Sm.alloc (K : Nat → Prop) (A : World) (o : Obj) : Sm K A (A.alloc o) := Sm.of_grown (World.grownBy_alloc A o none) (fun i _ _ e => by cases e)
theorem Sm.setCell (K : Nat → Prop) (A : World) (p : Addr) (u : Value) (hl : ¬ K p.block) : Sm K A (A.setCell p u) :=
  ⟨rfl, rfl, rfl, by simp [World.setCell], fun k _ hk => Below.heap_setCell _ _ _ _ (fun e => hl (e ▸ hk))⟩
theorem Sm.drew {K : Nat → Prop} {A B : World} (h : Sm K A B) : Sm K A B.drew := ⟨h.os, h.tape, h.output, h.size, h.block⟩

/-- A step that writes blocks of o alone, and new ones. -/
def Fp (m : Nat) (o o' : Nat → Prop) (W W' : World) : Prop := Sm (fun k => k < m ∨ ¬ o k) W W' ∧ ∀ k, o' k → o k ∨ W.heap.size ≤ k
theorem Fp.refl (m : Nat) (o : Nat → Prop) (W : World) : Fp m o o W W := ⟨Sm.refl _ _, fun _ h => .inl h⟩
theorem Fp.trans {m : Nat} {o o' o'' : Nat → Prop} {A B C : World} (h : Fp m o o' A B) (k : Fp m o' o'' B C) : Fp m o o'' A C :=
  ⟨h.1.trans k.1 (fun i hi hK => by
    rcases hK with hK | hK
    · exact .inl hK
    · exact .inr (fun e => by rcases h.2 i e with h' | h'; exact hK h'; omega)),
   fun i hi => by
    rcases k.2 i hi with h' | h'
    · exact h.2 i h'
    · exact .inr (Nat.le_trans h.1.size h')⟩

end Go.Proofs.Ytbccdkhbplmknaa

/- What the iterator over all of a chart's states hands on. -/
namespace Go.Proofs.Ytbccdkhbplmknaa
open Go.RowKit Go.Lib Go.Shelf
set_option linter.unusedSimpArgs false
set_option linter.unusedVariables false
attribute [local go_sem] Oper.semAt_some

end Go.Proofs.Ytbccdkhbplmknaa

/- A region that draws its order within a round of a range over a function: as anywhere, where it defers nothing. -/
namespace Go.Proofs.Ytbccdkhbplmknaa
open Go.RowKit
set_option linter.unusedSimpArgs false
set_option linter.unusedVariables false

end Go.Proofs.Ytbccdkhbplmknaa

/- What the program's Letter, digit, inWord, runSize, remarkSize, Name do. -/
namespace Go.Proofs.Ytbccdkhbplmknaa
open Go.RowKit Go.Lib
set_option linter.unusedSimpArgs false
set_option linter.unusedVariables false

/-- What a range tells of a rune. -/
def rn (r : Int) : Int := if r = -1 then 65533 else r
/-- m runes, of k bytes, lie behind us. -/
structure Gone (l : List UInt8) (m k : Nat) : Prop where
  le : k ≤ l.length
  left : runes (l.drop k) = (runes l).drop m
  size : (byt ((runes l).take m)).length = k
  few : m ≤ k
theorem Gone.zero (l : List UInt8) : Gone l 0 0 := ⟨by omega, rfl, rfl, by omega⟩
theorem Gone.step {l : List UInt8} {m k : Nat} (h : Gone l m k) (hk : k < l.length) : Gone l (m + 1) (k + (nx (l.drop k)).2) := by
  have hne := drop_ne hk
  have hc := runes_cons hne
  have hle := nx_le hne
  have hps := nx_pos hne
  rw [List.length_drop] at hle
  have hd : (runes l).drop m = ((nx (l.drop k)).1, (l.drop k).take (nx (l.drop k)).2) :: runes ((l.drop k).drop (nx (l.drop k)).2) := by rw [← h.left, hc]
  have hd1 : (runes l).drop (m + 1) = runes (l.drop (k + (nx (l.drop k)).2)) := by
    have := congrArg List.tail hd
    rw [List.tail_drop, List.tail_cons, List.drop_drop] at this
    exact this
  refine ⟨by omega, hd1.symm, ?_, by have := h.few; omega⟩
  have e1 := byt_split (runes l) (m + 1)
  rw [hd1, byt_runes _ _ (Nat.le_refl _), byt_runes _ _ (Nat.le_refl _), List.length_drop] at e1
  omega
theorem Gone.take {l : List UInt8} {m k : Nat} (h : Gone l m k) (hk : k < l.length) : (runes l).take (m + 1) = (runes l).take m ++ [((nx (l.drop k)).1, (l.drop k).take (nx (l.drop k)).2)] := by
  have hc := runes_cons (drop_ne hk)
  rw [h.left] at hc
  have hlt : m < (runes l).length := by
    rcases Nat.lt_or_ge m (runes l).length with h1 | h1
    · exact h1
    · rw [List.drop_eq_nil_of_le h1] at hc; cases hc
  rw [List.take_succ_eq_append_getElem hlt]
  rw [List.drop_eq_getElem_cons hlt] at hc
  rw [(List.cons.inj hc).1]




abbrev ps (a b : Int) : Value := .agg #[.int .i64 a, .int .i64 b]
/-- A string's iterator. -/
def It0 (w : World) (k : Nat) (s : ByteArray) (p : Nat) : Prop := w.heap[k]? = some (.stringIter s p)
theorem It0.keepB {w w' : World} {k B : Nat} {s : ByteArray} {p : Nat} (h : It0 w k s p) (hb : Below B w w') (hB : k < B) : It0 w' k s p := (hb.block k hB).trans h
theorem It0.lt {w : World} {k : Nat} {s : ByteArray} {p : Nat} (h : It0 w k s p) : k < w.heap.size := (Array.getElem?_eq_some_iff.1 h).1
theorem It0.keep {w w' : World} {k : Nat} {s : ByteArray} {p : Nat} (h : It0 w k s p) (hb : Below w.heap.size w w') : It0 w' k s p := h.keepB hb h.lt
theorem It0.set {w : World} {k X i : Nat} {s : ByteArray} {p : Nat} (h : It0 w k s p) (hne : X ≠ k) (v : Value) : It0 (w.setCell ⟨X, i, none⟩ v) k s p := by
  unfold It0
  rw [Below.heap_setCell _ _ _ _ (fun e => hne e.symm)]
  exact h

end Go.Proofs.Ytbccdkhbplmknaa

/- What strings.Clone does: the same bytes. -/
namespace Go.Proofs.Ytbccdkhbplmknaa
open Go.Shelf Go.RowKit Go.Lib
set_option linter.unusedSimpArgs false
set_option linter.unusedVariables false

end Go.Proofs.Ytbccdkhbplmknaa

/- What the program's Nodes does. -/
namespace Go.Proofs.Ytbccdkhbplmknaa
open Go.RowKit Go.Lib
set_option linter.unusedSimpArgs false
set_option linter.unusedVariables false
attribute [local go_sem ↓] Go.wp_at_zero Go.wp_at_succ
attribute [local go_sem] fld_i

end Go.Proofs.Ytbccdkhbplmknaa

/- What an expression is by itself, its parts in new memory. -/
namespace Go.Proofs.Ytbccdkhbplmknaa
open Go.RowKit Go.Lib
set_option linter.unusedSimpArgs false
set_option linter.unusedVariables false
attribute [local go_sem ↓] Go.wp_at_zero Go.wp_at_succ
attribute [local go_sem] as_lit_lit as_ref_lit as_ref_ref as_not_lit as_not_ref as_not_not as_neg_lit as_neg_ref as_neg_not as_neg_neg as_bin_lit as_bin_ref as_bin_not as_bin_neg as_bin_bin

/-- The slice v holds the values l, in a block from lo on. -/
def KidsN (lo : Nat) (w : World) (v : Value) (l : List Value) : Prop := Kids w v l ∧ ∀ g, v.ownBlock = some g → lo ≤ g
end Go.Proofs.Ytbccdkhbplmknaa

/- What the program's Same does: what its rounds lean on. -/
namespace Go.Proofs.Ytbccdkhbplmknaa
open Go.RowKit Go.Lib
set_option linter.unusedSimpArgs false
set_option linter.unusedVariables false
attribute [local go_sem ↓] Go.wp_at_zero Go.wp_at_succ

theorem cell_pt {w : World} {X Y j : Nat} {v a b c e : Value} (h : w.cell? ⟨Y, j, none⟩ = some v) (hne : Y ≠ X) : (put4 w X a b c e).cell? ⟨Y, j, none⟩ = some v := cell_far4 (by omega) (cell_far4 (by omega) (cell_far4 (by omega) (cell_far4 (by omega) h)))
abbrev z4 (w : World) (X : Nat) : Prop := B4 w X (.int .i64 0) (.int .i64 0) (.string ⟨#[]⟩) (.slice none 0 0)

theorem Kids.put {w : World} {sl : Value} {L : List Value} {X : Nat} {a b c e : Value} (h : Kids w sl L) (hi : ∀ v ∈ L, Ifc v) (hz : z4 w X) : Kids (put4 w X a b c e) sl L := by
  rcases h with h | ⟨g, hv, hc⟩
  · exact .inl h
  · refine .inr ⟨g, hv, fun i hl => ?_⟩
    have hne : g ≠ X := fun e => by
      subst e
      have h0 := hc 0 (by omega)
      rw [hz.c0] at h0
      have h1 := Option.some.inj h0
      rcases hi _ (List.getElem_mem (by omega : 0 < L.length)) with q | ⟨u, y, q⟩
      · rw [q] at h1; cases h1
      · rw [q] at h1; cases h1
    exact cell_pt (hc i hl) hne
theorem KidsN.put {lo : Nat} {w : World} {sl : Value} {L : List Value} {X : Nat} {a b c e : Value} (h : KidsN lo w sl L) (hi : ∀ v ∈ L, Ifc v) (hz : z4 w X) : KidsN lo (put4 w X a b c e) sl L := ⟨h.1.put hi hz, h.2⟩
theorem B4.at {w : World} {X : Nat} {a b c e : Value} (h : B4 w X a b c e) : At4 w X a b c e := ⟨h.c0, h.c1, h.c2, h.c3⟩
section
variable {wr w2 : World} {X Y : Nat} {a b c sl a' b' c' sl' : Value} {L M : List Value}
end

end Go.Proofs.Ytbccdkhbplmknaa

/- What the program's Nodes answers: the nodes ahead of what follows of how deep they lie. -/
namespace Go.Proofs.Ytbccdkhbplmknaa
open Go.RowKit Go.Lib Go.Shelf
set_option linter.unusedSimpArgs false
set_option linter.unusedVariables false
attribute [local go_sem] Oper.semAt_some

/-- The row of nodes v, in memory of the call's own. -/
def OwnNd (w : World) (base : Nat) (v : Value) (l : List Nd) : Prop := w.ownsRow base 72 7 v l.length (l.map ndV).flatten
theorem OwnNd.rd {w : World} {base : Nat} {v : Value} {l : List Nd} (h : OwnNd w base v l) : RdNd (fun b => base ≤ b) w l v := by
  have h2 : OwnK w base 72 7 rNd v l := ⟨l.map ndV, h, by simp, fun i h h' => by simp [rNd, ndV]⟩
  exact h2.rd kp_nd
end Go.Proofs.Ytbccdkhbplmknaa

/- Nodes of states are formed; what the meet of two is. -/
namespace Go.Proofs.Ytbccdkhbplmknaa
open Go.RowKit Go.Lib
set_option linter.unusedSimpArgs false
set_option linter.unusedVariables false

/-- x lies in k, not being it. -/
def Ain (D : Nat → Int) (k : Int) (x : Nat) : Prop := k < x ∧ Anc D k x
theorem anc_trans {D : Nat → Int} {p q r : Int} (h : Anc D p q) (k : Anc D q r) : Anc D p r := by
  obtain ⟨a1, a2, a3⟩ := h
  obtain ⟨b1, b2, b3⟩ := k
  refine ⟨a1, by omega, fun m c d => ?_⟩
  rcases Int.lt_or_le q m with h | h
  · have := b3 m h d
    rcases Int.lt_or_le p q with h2 | h2
    · have h3 := a3 q.toNat (by omega) (by omega)
      omega
    · have : p = q := by omega
      subst this; omega
  · exact a3 m c h
theorem wiB_in {l : List Nd} (hf : fmB l = true) {i k : Nat} (hi : i < l.length) (hk : k < l.length) (hne : i ≠ k) (h : wiB l i k = true) : Ain (nD l) k i := by
  unfold wiB at h
  rw [hf, nmB_nat hi, nmB_nat hk, Bool.true_and, if_neg (by omega)] at h
  have : lsP (nB l) (i : Int) (k : Int) = true := by
    rw [decide_eq_false (by omega)] at h
    simpa using h
  exact (lsP_anc (fmB_fm hf) hi hk).1 this

/-- The number behind the last one in k. -/
def bN (l : List Nd) (k : Nat) : Nat := (nB l k).toNat
theorem rng_split (a b c : Nat) (h1 : a ≤ b) (h2 : b ≤ c) : List.range' a (c - a) = List.range' a (b - a) ++ List.range' b (c - b) := by
  have e1 : c - a = (b - a) + (c - b) := by omega
  have h : List.range' a (b - a) ++ List.range' (a + (b - a)) (c - b) = List.range' a ((b - a) + (c - b)) := List.range'_append_1
  rw [e1, ← h, show a + (b - a) = b by omega]
theorem flatMap_eq {α β : Type} {f g : α → List β} : ∀ l : List α, (∀ x ∈ l, f x = g x) → l.flatMap f = l.flatMap g
  | [], _ => rfl
  | x :: t, h => by rw [List.flatMap_cons, List.flatMap_cons, h x List.mem_cons_self, flatMap_eq t (fun y hy => h y (List.mem_cons_of_mem _ hy))]
section
variable {l : List Nd}
theorem bN_lt (hf : fmB l = true) {k : Nat} (hk : k < l.length) : k < bN l k ∧ bN l k ≤ l.length ∧ nB l k = (bN l k : Nat) := by
  have := (fmB_fm hf).beh hk
  unfold bN
  omega
theorem in_iff (hf : fmB l = true) {j k : Nat} (hj : j < l.length) (hk : k < l.length) : (j < k ∧ k < bN l j) ↔ Ain (nD l) j k := by
  have h1 := lsP_anc (fmB_fm hf) hk hj
  have h2 := bN_lt hf hj
  unfold Ain
  rw [← h1]
  unfold lsP
  rw [Bool.and_eq_true, decide_eq_true_eq, decide_eq_true_eq, Int.toNat_natCast, h2.2.2]
  omega
theorem par_of (hf : fmB l = true) {x k : Nat} (hx : x < l.length) (hk : k < l.length) (h : x < k ∧ k < bN l x) : (x : Int) ≤ nP l k ∧ nP l k < k := by
  have h1 := (in_iff hf hx hk).1 h
  have h2 := (anc_up (fmB_fm hf).par hk h1.1).1 h1.2
  exact ⟨h2.2.1, ((fmB_fm hf).plt hk).2⟩
theorem par_in (hf : fmB l = true) {x k : Nat} (hk : k < l.length) (h : nP l k = x) : x < k ∧ k < bN l x := by
  have hp := (fmB_fm hf).plt hk
  have hx : x < l.length := by omega
  refine (in_iff hf hx hk).2 ⟨by omega, (anc_up (fmB_fm hf).par hk (by omega)).2 ?_⟩
  rw [h]
  exact ⟨by omega, by omega, fun m a b => by omega⟩
theorem nest (hf : fmB l = true) {x k : Nat} (hx : x < l.length) (hk : k < l.length) (h : x < k ∧ k < bN l x) : bN l k ≤ bN l x := by
  rcases Nat.lt_or_ge (bN l x) (bN l k) with h2 | h2
  · have hb := bN_lt hf hk
    have h3 := (in_iff hf hk (k := bN l x) (by omega)).1 ⟨h.2, h2⟩
    have h4 := (in_iff hf hx hk).1 h
    have h5 : Ain (nD l) x (bN l x) := ⟨by have := h3.1; omega, anc_trans h4.2 h3.2⟩
    have := ((in_iff hf hx (k := bN l x) (by omega)).2 h5).2
    omega
  · exact h2
theorem par_nat (hf : fmB l = true) {x k : Nat} (hx : x < l.length) (hk : k < l.length) (h : x < k ∧ k < bN l x) : ∃ p : Nat, nP l k = p ∧ x ≤ p ∧ p < k ∧ p < bN l x := by
  have := par_of hf hx hk h
  exact ⟨(nP l k).toNat, by omega, by omega, by omega, by omega⟩
/-- Behind a state comes the next one right in the same, or the end. -/
theorem next_sib (hf : fmB l = true) {x s : Nat} (hx : x < l.length) (hs : s < l.length) (h : nP l s = x) (ht : bN l s < bN l x) : nP l (bN l s) = x := by
  have hbx := bN_lt hf hx
  have hbs := bN_lt hf hs
  have hxs := par_in hf hs h
  have htn : bN l s < l.length := by omega
  obtain ⟨q, hq, h1, h2, _⟩ := par_nat hf hx htn ⟨by omega, ht⟩
  rcases Nat.lt_or_ge x q with h3 | h3
  · have hqn : q < l.length := by omega
    have hqt := par_in hf htn hq
    rcases Nat.lt_or_ge q s with h4 | h4
    · have := (par_of hf hqn hs ⟨h4, by omega⟩).1
      omega
    · rcases Nat.lt_or_ge s q with h5 | h5
      · have := nest hf hs hqn ⟨h5, by omega⟩
        omega
      · have : q = s := by omega
        subst this
        omega
  · rw [hq]; omega
/-- The numbers from s on, up to the end of x, by the states right in x. -/
theorem split_in (hf : fmB l = true) {x : Nat} (hx : x < l.length) : ∀ (f s : Nat), bN l x - s ≤ f → s ≤ bN l x → (s < bN l x → nP l s = x) → (x < s) →
    List.range' s (bN l x - s) = ((List.range' s (bN l x - s)).filter (fun k => decide (nP l k = (x : Int)))).flatMap (fun c => List.range' c (bN l c - c))
  | 0, s, h1, h2, h3, _ => by
    have : bN l x - s = 0 := by omega
    rw [this]; rfl
  | f + 1, s, h1, h2, h3, hxs => by
    rcases Nat.lt_or_ge s (bN l x) with hlt | hge
    · have hbx := bN_lt hf hx
      have hs : s < l.length := by omega
      have hp := h3 hlt
      have hbs := bN_lt hf hs
      have hn := nest hf hx hs (par_in hf hs hp)
      have ih := split_in hf hx f (bN l s) (by omega) hn (fun h => next_sib hf hx hs hp h) (by omega)
      have e2 := rng_split s (bN l s) (bN l x) (by omega) hn
      have e3 : (List.range' s (bN l s - s)).filter (fun k => decide (nP l k = (x : Int))) = [s] := by
        have e4 : bN l s - s = (bN l s - (s + 1)) + 1 := by omega
        rw [e4, List.range'_succ, List.filter_cons_of_pos (by simp [hp])]
        congr 1
        apply List.filter_eq_nil_iff.2
        intro k hk
        rw [List.mem_range'_1] at hk
        have := (par_of hf hs (k := k) (by omega) ⟨by omega, by omega⟩).1
        simp
        omega
      rw [e2, List.filter_append, List.flatMap_append, e3, ← ih]
      simp
    · have : bN l x - s = 0 := by omega
      rw [this]; rfl
/-- The states right in x. -/
def innN (l : List Nd) (x : Nat) : List Nat := (List.range l.length).filter (fun k => decide (nP l k = (x : Int)))
theorem innN_in (hf : fmB l = true) {x : Nat} (hx : x < l.length) : innN l x = (List.range' (x + 1) (bN l x - (x + 1))).filter (fun k => decide (nP l k = (x : Int))) := by
  have hb := bN_lt hf hx
  unfold innN
  have e : List.range l.length = List.range' 0 (x + 1) ++ (List.range' (x + 1) (bN l x - (x + 1)) ++ List.range' (bN l x) (l.length - bN l x)) := by
    have h1 := rng_split 0 (x + 1) l.length (by omega) (by omega)
    have h2 := rng_split (x + 1) (bN l x) l.length (by omega) (by omega)
    rw [List.range_eq_range', ← h2]
    simpa using h1
  rw [e, List.filter_append, List.filter_append]
  have e1 : (List.range' 0 (x + 1)).filter (fun k => decide (nP l k = (x : Int))) = [] := by
    apply List.filter_eq_nil_iff.2
    intro k hk
    rw [List.mem_range'_1] at hk
    have := ((fmB_fm hf).plt (i := k) (by omega)).2
    simp; omega
  have e2 : (List.range' (bN l x) (l.length - bN l x)).filter (fun k => decide (nP l k = (x : Int))) = [] := by
    apply List.filter_eq_nil_iff.2
    intro k hk
    rw [List.mem_range'_1] at hk
    simp only [decide_eq_true_eq]
    intro h
    have := (par_in hf (k := k) (by omega) h).2
    omega
  rw [e1, e2, List.nil_append, List.append_nil]
theorem first_in (hf : fmB l = true) {x : Nat} (hx : x < l.length) (h : x + 1 < bN l x) : nP l (x + 1) = x := by
  have hb := bN_lt hf hx
  have := par_of hf hx (k := x + 1) (by omega) ⟨by omega, h⟩
  omega
theorem sub_in (hf : fmB l = true) {x : Nat} (hx : x < l.length) : List.range' x (bN l x - x) = x :: (innN l x).flatMap (fun c => List.range' c (bN l c - c)) := by
  have hb := bN_lt hf hx
  rw [innN_in hf hx, ← split_in hf hx (bN l x) (x + 1) (by omega) (by omega) (fun h => first_in hf hx h) (by omega)]
  rw [show bN l x - x = (bN l x - (x + 1)) + 1 by omega, List.range'_succ]
theorem innN_mem (hf : fmB l = true) {x c : Nat} (h : c ∈ innN l x) : c < l.length ∧ nP l c = x ∧ x < c ∧ c < bN l x := by
  unfold innN at h
  rw [List.mem_filter, List.mem_range, decide_eq_true_eq] at h
  exact ⟨h.1, h.2, par_in hf h.1 h.2⟩
/-- Entered within x on the way to i: x, and what follows of one that is entered. -/
def tF (l : List Nd) (i : Int) (x : Nat) : Nat → Nat → Bool
  | 0, _ => false
  | f + 1, k => if k = x then true else if x < k ∧ 0 ≤ nP l k ∧ tF l i x f (nP l k).toNat = true then foB l k i else false
def tS (l : List Nd) (i : Int) (x k : Nat) : Bool := tF l i x (k + 1) k
theorem tF_more (hf : fmB l = true) (i : Int) (x : Nat) : ∀ (f k : Nat), k < f → k < l.length → tF l i x f k = tF l i x (k + 1) k
  | 0, k, h, _ => by omega
  | f + 1, k, h, hk => by
    have hp := (fmB_fm hf).plt (i := k) hk
    unfold tF
    by_cases h1 : k = x
    · rw [if_pos h1, if_pos h1]
    rw [if_neg h1, if_neg h1]
    by_cases h0 : 0 ≤ nP l k
    · have e : tF l i x f (nP l k).toNat = tF l i x k (nP l k).toNat := by
        rw [tF_more hf i x f _ (by omega) (by omega), ← tF_more hf i x k _ (by omega) (by omega)]
      rw [e]
    · rw [if_neg (fun h => h0 h.2.1), if_neg (fun h => h0 h.2.1)]
theorem tS_eq (hf : fmB l = true) (i : Int) {x k : Nat} (hk : k < l.length) : tS l i x k = if k = x then true else if x < k ∧ 0 ≤ nP l k ∧ tS l i x (nP l k).toNat = true then foB l k i else false := by
  have hp := (fmB_fm hf).plt (i := k) hk
  unfold tS
  show (if k = x then true else if x < k ∧ 0 ≤ nP l k ∧ tF l i x k (nP l k).toNat = true then foB l k i else false) = _
  by_cases h0 : 0 ≤ nP l k
  · rw [tF_more hf i x k (nP l k).toNat (by omega) (by omega)]
  · by_cases h1 : k = x
    · rw [if_pos h1, if_pos h1]
    · rw [if_neg h1, if_neg h1, if_neg (fun h => h0 h.2.1), if_neg (fun h => h0 h.2.1)]
theorem tS_self (hf : fmB l = true) (i : Int) {x : Nat} (hx : x < l.length) : tS l i x x = true := by rw [tS_eq hf i hx, if_pos rfl]
/-- Within one right in x. -/
theorem tS_down (hf : fmB l = true) (i : Int) {x c : Nat} (hx : x < l.length) (hc : c < l.length) (hp : nP l c = x) : ∀ (f k : Nat), k < f → c ≤ k → k < bN l c → tS l i x k = (foB l c i && tS l i c k)
  | 0, k, h, _, _ => by omega
  | f + 1, k, h, h1, h2 => by
    have hbc := bN_lt hf hc
    have hxc := par_in hf hc hp
    have hk : k < l.length := by omega
    rcases Nat.lt_or_ge c k with h3 | h3
    · obtain ⟨p, hq, q1, q2, q3⟩ := par_nat hf hc hk ⟨h3, h2⟩
      have ih := tS_down hf i hx hc hp f p (by omega) q1 q3
      rw [tS_eq hf i hk, if_neg (show ¬ k = x by omega), tS_eq hf i (x := c) hk, if_neg (show ¬ k = c by omega), hq, Int.toNat_natCast, ih]
      cases hfo : foB l c i
      · rw [if_neg (by simp)]; rfl
      · cases ht : tS l i c p
        · rw [if_neg (by simp), if_neg (by simp)]; rfl
        · rw [if_pos ⟨by omega, by omega, by simp⟩, if_pos ⟨by omega, by omega, rfl⟩]; rfl
    · have : k = c := by omega
      subst this
      rw [tS_self hf i hk, tS_eq hf i hk, if_neg (by omega), hp, Int.toNat_natCast, tS_self hf i hx, Bool.and_true]
      rw [if_pos ⟨by omega, by omega, rfl⟩]
def tsL (l : List Nd) (i : Int) (x : Nat) : List Nat := (List.range' x (bN l x - x)).filter (tS l i x)
theorem tsL_eq (hf : fmB l = true) (i : Int) {x : Nat} (hx : x < l.length) : tsL l i x = x :: (innN l x).flatMap (fun c => if foB l c i then tsL l i c else []) := by
  unfold tsL
  rw [sub_in hf hx, List.filter_cons_of_pos (tS_self hf i hx), List.filter_flatMap]
  congr 1
  apply flatMap_eq
  intro c hc
  obtain ⟨h1, h2, h3, h4⟩ := innN_mem hf hc
  have hb := bN_lt hf h1
  cases hfo : foB l c i
  · rw [if_neg (by simp)]
    apply List.filter_eq_nil_iff.2
    intro k hk
    rw [List.mem_range'_1] at hk
    rw [tS_down hf i hx h1 h2 (k + 1) k (by omega) hk.1 (by omega), hfo]
    simp
  · rw [if_pos rfl]
    apply List.filter_congr
    intro k hk
    rw [List.mem_range'_1] at hk
    rw [tS_down hf i hx h1 h2 (k + 1) k (by omega) hk.1 (by omega), hfo]
    rfl
end

def bdL (l : List Nd) : Nat → Nat → List Nat
  | 0, x => [x]
  | f + 1, x => x :: (if nA l x then innN l x else (innN l x).take 1).flatMap (bdL l f)
def twL (l : List Nd) (i : Nat) : Nat → Nat → List Nat
  | 0, x => [x]
  | f + 1, x => if x = i then bdL l (f + 1) x else x :: (innN l x).flatMap (fun c : Nat => if wiB l i c then twL l i f c else if nA l x then bdL l f c else [])
section
variable {l : List Nd}
theorem hoB_nat (hf : fmB l = true) {x i : Nat} (hx : x < l.length) : hoB l x i = true ↔ (x ≤ i ∧ i < bN l x) := by
  have hb := bN_lt hf hx
  unfold hoB
  rw [Int.toNat_natCast, hb.2.2, decide_eq_false (by omega), Bool.false_or, Bool.and_eq_true, decide_eq_true_eq, decide_eq_true_eq]
  omega
theorem wiB_hoB (hf : fmB l = true) {i c : Nat} (hi : i < l.length) (hc : c < l.length) : wiB l i c = hoB l c i := by
  have h1 := hoB_nat hf (i := i) hc
  have hb := bN_lt hf hc
  rw [Bool.eq_iff_iff, h1]
  unfold wiB
  rw [hf, nmB_nat hi, nmB_nat hc, if_neg (by omega)]
  simp only [Bool.true_and, Bool.and_true, Bool.or_eq_true, decide_eq_true_eq]
  unfold lsP
  rw [Bool.and_eq_true, decide_eq_true_eq, decide_eq_true_eq, Int.toNat_natCast, hb.2.2]
  omega
theorem foB_in {x c : Nat} (i : Nat) (hp : nP l c = x) : foB l c i = if nA l x then true else if x ≠ i ∧ hoB l x i = true then hoB l c i else decide (c = x + 1) := by
  unfold foB
  rw [hp, Int.toNat_natCast]
  by_cases h : nA l x = true
  · rw [if_pos h, if_pos h]
  · rw [if_neg h, if_neg h]
    by_cases h2 : x ≠ i ∧ hoB l x i = true
    · rw [if_pos h2, if_pos ⟨by omega, h2.2⟩]
    · rw [if_neg h2, if_neg (fun h3 => h2 ⟨by omega, h3.2⟩)]
      rw [Bool.eq_iff_iff, decide_eq_true_eq, decide_eq_true_eq]
      omega
theorem inn_first (hf : fmB l = true) {x : Nat} (hx : x < l.length) : innN l x = [] ∨ ∃ r, innN l x = (x + 1) :: r ∧ x + 1 < l.length ∧ nP l (x + 1) = x ∧ ∀ c ∈ r, c ≠ x + 1 := by
  have hb := bN_lt hf hx
  rcases Nat.lt_or_ge (x + 1) (bN l x) with h | h
  · right
    have hp := first_in hf hx h
    rw [innN_in hf hx, show bN l x - (x + 1) = (bN l x - (x + 2)) + 1 by omega, List.range'_succ, List.filter_cons_of_pos (by simp [hp])]
    refine ⟨_, rfl, by omega, hp, fun c hc => ?_⟩
    have := (List.mem_filter.1 hc).1
    rw [List.mem_range'_1] at this
    omega
  · left
    rw [innN_in hf hx, show bN l x - (x + 1) = 0 by omega]
    rfl
theorem child_out (hf : fmB l = true) {x c i : Nat} (hx : x < l.length) (hc : c ∈ innN l x) (h : x = i ∨ hoB l x i = false) : c = i ∨ hoB l c i = false := by
  obtain ⟨h1, h2, h3, h4⟩ := innN_mem hf hc
  right
  cases hh : hoB l c i
  · rfl
  · have h5 := (hoB_nat hf h1).1 hh
    have h6 := nest hf hx h1 ⟨h3, h4⟩
    rcases h with rfl | h
    · omega
    · rw [(hoB_nat hf hx).2 ⟨by omega, by omega⟩] at h
      cases h
theorem bd_ts (hf : fmB l = true) (i : Nat) : ∀ (f x : Nat), x < l.length → l.length - x ≤ f → (x = i ∨ hoB l x i = false) → bdL l f x = tsL l i x
  | 0, x, hx, h, _ => by omega
  | f + 1, x, hx, h, hi => by
    have hno : ¬ (x ≠ i ∧ hoB l x i = true) := fun h2 => by
      rcases hi with h3 | h3
      · exact h2.1 h3
      · rw [h3] at h2; cases h2.2
    rw [tsL_eq hf i hx]
    unfold bdL
    congr 1
    cases ha : nA l x
    · rw [if_neg (by simp)]
      rcases inn_first hf hx with h0 | ⟨r, h0, h1, h2, h3⟩
      · rw [h0]; rfl
      · have hm : x + 1 ∈ innN l x := by rw [h0]; exact List.mem_cons_self
        rw [h0, List.take_succ_cons, List.take_zero, List.flatMap_cons, List.flatMap_cons, List.flatMap_nil, List.append_nil]
        have hfo1 : foB l (x + 1) i = true := by rw [foB_in i h2, ha, if_neg (by simp), if_neg hno]; simp
        rw [hfo1, if_pos rfl]
        have e : r.flatMap (fun c => if foB l c i then tsL l i c else []) = [] := by
          rw [flatMap_eq (g := fun _ => []) r (fun c hc => by
            have hc' : c ∈ innN l x := by rw [h0]; exact List.mem_cons_of_mem _ hc
            have hfo : foB l c i = false := by rw [foB_in i (innN_mem hf hc').2.1, ha, if_neg (by simp), if_neg hno]; simpa using h3 c hc
            rw [hfo]; rfl)]
          simp
        rw [e, List.append_nil]
        exact bd_ts hf i f (x + 1) h1 (by omega) (child_out hf hx hm hi)
    · rw [if_pos rfl]
      apply flatMap_eq
      intro c hc
      obtain ⟨h1, h2, h3, h4⟩ := innN_mem hf hc
      rw [foB_in i h2, ha, if_pos rfl, if_pos rfl]
      exact bd_ts hf i f c h1 (by omega) (child_out hf hx hc hi)
theorem tw_ts (hf : fmB l = true) {i : Nat} (hin : i < l.length) : ∀ (f x : Nat), x < l.length → l.length - x ≤ f → hoB l x i = true → twL l i f x = tsL l i x
  | 0, x, hx, h, _ => by omega
  | f + 1, x, hx, h, hi => by
    unfold twL
    by_cases e : x = i
    · rw [if_pos e]
      exact bd_ts hf i (f + 1) x hx h (.inl e)
    rw [if_neg e, tsL_eq hf i hx]
    congr 1
    apply flatMap_eq
    intro c hc
    obtain ⟨h1, h2, h3, h4⟩ := innN_mem hf hc
    rw [wiB_hoB hf hin h1, foB_in i h2]
    cases hh : hoB l c i
    · rw [if_neg (by simp)]
      cases ha : nA l x
      · have hz : (if (false : Bool) = true then true else if x ≠ i ∧ hoB l x i = true then false else decide (c = x + 1)) = false := by rw [if_neg (by simp), if_pos ⟨e, hi⟩]
        rw [hz]; rfl
      · rw [if_pos rfl, if_pos rfl, if_pos rfl]
        exact bd_ts hf i f c h1 (by omega) (.inr hh)
    · rw [if_pos rfl]
      have : (if nA l x then true else if x ≠ i ∧ hoB l x i = true then true else decide (c = x + 1)) = true := by
        cases nA l x
        · rw [if_neg (by simp), if_pos ⟨e, hi⟩]
        · rfl
      rw [this, if_pos rfl]
      exact tw_ts hf hin f c h1 (by omega) hh
/-- What is entered from o on, by numbers, is what is entered within the one right in o. -/
theorem en_ts (hf : fmB l = true) {o : Int} {x i : Nat} (hx : x < l.length) (hin : i < l.length) (hp : nP l x = o) (hi : hoB l x i = true) : ∀ (f k : Nat), k < f → k < l.length → enS l o i k = (decide (x ≤ k ∧ k < bN l x) && tS l i x k)
  | 0, k, h, _ => by omega
  | f + 1, k, h, hk => by
    have hbx := bN_lt hf hx
    have hix := (hoB_nat hf hx).1 hi
    have hpk := (fmB_fm hf).plt (i := k) hk
    have hpx := (fmB_fm hf).plt (i := x) hx
    rw [enS_eq hf o i hk]
    by_cases h1 : nP l k = o
    · rw [if_pos h1]
      by_cases e : k = x
      · subst e
        rw [hi, tS_self hf i hx, decide_eq_true ⟨by omega, by omega⟩]; rfl
      · have h2 : ¬ (x ≤ k ∧ k < bN l x) := fun h2 => by
          have := (par_of hf hx hk ⟨by omega, h2.2⟩).1
          omega
        rw [decide_eq_false h2, Bool.false_and]
        cases hh : hoB l k i
        · rfl
        · exfalso
          have h3 := (hoB_nat hf hk).1 hh
          rcases Nat.lt_or_ge k x with h4 | h4
          · have := (par_of hf hk hx ⟨h4, by omega⟩).1
            omega
          · have := (par_of hf hx hk ⟨by omega, by omega⟩).1
            omega
    · rw [if_neg h1]
      have hkx : k ≠ x := fun e => h1 (by rw [e]; exact hp)
      by_cases h0 : 0 ≤ nP l k
      · obtain ⟨p, hq⟩ : ∃ p : Nat, nP l k = p := ⟨(nP l k).toNat, by omega⟩
        have ih := en_ts hf hx hin hp hi f p (by omega) (by omega)
        rw [hq, Int.toNat_natCast, ih, tS_eq hf i hk, if_neg hkx, hq, Int.toNat_natCast]
        have hiff : (x ≤ p ∧ p < bN l x) ↔ (x < k ∧ k < bN l x) := by
          constructor
          · rintro ⟨a, b⟩
            have h2 := par_in hf hk hq
            rcases Nat.lt_or_ge x p with h3 | h3
            · have := nest hf hx (k := p) (by omega) ⟨h3, b⟩
              omega
            · have : x = p := by omega
              subst this
              omega
          · intro h2
            have := par_of hf hx hk h2
            omega
        by_cases h3 : x < k ∧ k < bN l x
        · rw [decide_eq_true (hiff.2 h3), decide_eq_true (⟨by omega, h3.2⟩ : x ≤ k ∧ k < bN l x)]
          simp only [Bool.true_and]
          cases ht : tS l i x p
          · rw [if_neg (by simp), if_neg (by simp)]
          · rw [if_pos ⟨by omega, rfl⟩, if_pos ⟨by omega, by omega, rfl⟩]
        · rw [decide_eq_false (fun h4 => h3 (hiff.1 h4)), decide_eq_false (fun h4 : x ≤ k ∧ k < bN l x => h3 ⟨by omega, h4.2⟩), Bool.false_and, Bool.false_and, if_neg (by simp)]
      · rw [if_neg (fun h => h0 h.1)]
        have h2 : ¬ (x ≤ k ∧ k < bN l x) := fun h2 => by
          have := (par_of hf hx hk ⟨by omega, h2.2⟩).1
          omega
        rw [decide_eq_false h2, Bool.false_and]
theorem et_ts (hf : fmB l = true) {o : Int} {x i : Nat} (hx : x < l.length) (hin : i < l.length) (hp : nP l x = o) (hi : hoB l x i = true) : numS (enS l o i) 40 = (tsL l i x).map (fun k : Nat => (k : Int)) := by
  have hbx := bN_lt hf hx
  have h40 := fm_40 hf
  have hen : ∀ k, enS l o i k = (decide (k < l.length) && (decide (x ≤ k ∧ k < bN l x) && tS l i x k)) := fun k => by
    by_cases hk : k < l.length
    · rw [decide_eq_true hk, Bool.true_and]
      exact en_ts hf hx hin hp hi (k + 1) k (by omega) hk
    · rw [decide_eq_false hk, Bool.false_and]
      unfold enS
      rw [if_neg hk]
  unfold numS tsL
  congr 1
  have h1 := rng_split 0 x 40 (by omega) (by omega)
  have h2 := rng_split x (bN l x) 40 (by omega) (by omega)
  rw [List.range_eq_range', show (40 : Nat) = 40 - 0 by rfl, h1, h2, List.filter_append, List.filter_append]
  have e1 : (List.range' 0 (x - 0)).filter (enS l o i) = [] := by
    apply List.filter_eq_nil_iff.2
    intro k hk
    rw [List.mem_range'_1] at hk
    rw [hen k, decide_eq_false (by omega : ¬ (x ≤ k ∧ k < bN l x))]
    simp
  have e2 : (List.range' (bN l x) (40 - bN l x)).filter (enS l o i) = [] := by
    apply List.filter_eq_nil_iff.2
    intro k hk
    rw [List.mem_range'_1] at hk
    rw [hen k, decide_eq_false (by omega : ¬ (x ≤ k ∧ k < bN l x))]
    simp
  rw [e1, e2, List.nil_append, List.append_nil]
  apply List.filter_congr
  intro k hk
  rw [List.mem_range'_1] at hk
  rw [hen k, decide_eq_true (by omega : k < l.length), decide_eq_true (by omega : x ≤ k ∧ k < bN l x)]
  rfl
end
end Go.Proofs.Ytbccdkhbplmknaa

/- What the program's Move answers. -/
namespace Go.Proofs.Ytbccdkhbplmknaa
open Go.RowKit Go.Lib Go.Shelf
set_option linter.unusedSimpArgs false
set_option linter.unusedVariables false
attribute [local go_sem ↓] Go.wp_at_zero Go.wp_at_succ

/-- The numbers xs are in the set, or not. -/
def updL (s : Nat → Bool) (xs : List Int) (b : Bool) : Nat → Bool := fun i => if xs.contains (i : Int) then b else s i
theorem updL_nil (s : Nat → Bool) (b : Bool) : updL s [] b = s := by funext i; simp [updL]
theorem updL_snoc (s : Nat → Bool) (xs : List Int) (b : Bool) (k : Nat) : updL s (xs ++ [(k : Int)]) b = upd (updL s xs b) k b := by
  funext i
  unfold updL upd
  by_cases e : i = k
  · subst e
    rw [if_pos rfl, if_pos (by simp)]
  · rw [if_neg e]
    have h2 : ((i : Int) == (k : Int)) = false := beq_eq_false_iff_ne.2 (by omega)
    have h3 : (xs ++ [(k : Int)]).contains (i : Int) = xs.contains (i : Int) := by
      simp [List.contains_eq_any_beq, List.any_append, h2]
      intro h; omega
    rw [h3]
theorem numS_mem {s : Nat → Bool} {n : Nat} {x : Int} (h : x ∈ numS s n) : ∃ k : Nat, x = k ∧ k < n := by
  unfold numS at h
  simp only [List.mem_map, List.mem_filter, List.mem_range] at h
  obtain ⟨k, ⟨h1, _⟩, rfl⟩ := h
  exact ⟨k, rfl, h1⟩
theorem lvB_mem {l : List Nd} {xs : List Int} {o x : Int} (h : x ∈ lvB l xs o) : ∃ k : Nat, x = k ∧ k < 40 := by
  unfold lvB at h
  split at h
  · exact numS_mem (List.mem_reverse.1 h)
  · simp at h
theorem etB_mem {l : List Nd} {o i x : Int} (h : x ∈ etB l o i) : ∃ k : Nat, x = k ∧ k < 40 := by
  unfold etB at h
  split at h
  · simp at h
  · exact numS_mem h
theorem lvB_len (l : List Nd) (xs : List Int) (o : Int) : (lvB l xs o).length ≤ 40 := by
  unfold lvB
  split
  · rw [List.length_reverse]; exact numS_len _ 40
  · simp
theorem etB_len (l : List Nd) (o i : Int) : (etB l o i).length ≤ 40 := by
  unfold etB
  split
  · simp
  · exact numS_len _ 40
def mvS (l : List Nd) (xs : List Int) (f t : Int) : Nat → Bool := updL (updL (stO l.length xs) (lvB l xs (mtB l f t)) false) (etB l (mtB l f t) t) true
/-- What is left, what is entered, what is active then. -/
def mvB (l : List Nd) (xs : List Int) (f t : Int) : List Int × List Int × List Int :=
  if fmB l && nmB l.length f && nmB l.length t then (lvB l xs (mtB l f t), etB l (mtB l f t) t, numS (mvS l xs f t) 40) else ([], [], [])
theorem OwnK.rdz {w : World} {base : Nat} {v : Value} {l : List Int} (h : OwnK w base 3 1 rInt v l) : RdZs (fun b => base ≤ b) w l v := h.rd kp_int
set_option maxRecDepth 100000 in
set_option maxHeartbeats 8000000 in
theorem move_any {ok ok' : Nat → Prop} {w : World} {l : List Nd} {xs : List Int} {v u : Value} (h : RdNd ok w l v) (hx : RdZs ok' w xs u) (f t : Int) :
    Calls Try.prog 22 #[v, u, .int .i64 f, .int .i64 t] w fun e w' => ∃ a1 n1 c1 a2 n2 c2 a3 n3 c3, e = .returned (.tuple #[.slice a1 n1 c1, .slice a2 n2 c2, .slice a3 n3 c3]) ∧
      RdZs (fun b => w.heap.size ≤ b) w' (mvB l xs f t).1 (.slice a1 n1 c1) ∧ RdZs (fun b => w.heap.size ≤ b) w' (mvB l xs f t).2.1 (.slice a2 n2 c2) ∧ RdZs (fun b => w.heap.size ≤ b) w' (mvB l xs f t).2.2 (.slice a3 n3 c3) ∧ Below w.heap.size w w' := by
  obtain ⟨a, cap, rfl, hlc, hcm⟩ := h.form
  have hfm := tformed_any h
  obtain ⟨xa, xc, rfl, _, _⟩ := hx.form
  unfold maxLen at hcm
  have his := fun i w1 => isState_any (w := w1) (a := a) (n := l.length) (cap := cap) i hlc (by unfold maxLen; omega)
  unfold mvB
  cases hf : fmB l with
  | false =>
    rw [hf] at hfm
    rw [if_neg (by simp)]
    go_enter Try.func22, Try.ntmps22
    go_wp2_with (first | (go_at_call 14; refine hfm.mono ?_; rintro e w1 ⟨rfl, b1⟩) | fail)
    refine bodyPost_ret (results_tmp3 rfl _ _ _) rfl ?_
    exact ⟨_, _, _, _, _, _, _, _, _, rfl, rdK_none _ _ _ _, rdK_none _ _ _ _, rdK_none _ _ _ _, b1⟩
  | true =>
    have h40 := fm_40 hf
    rw [hf] at hfm
    cases h1 : nmB l.length f with
    | false =>
      rw [if_neg (by simp)]
      have hi := his f
      rw [h1] at hi
      go_enter Try.func22, Try.ntmps22
      go_wp2_with (first | (go_at_call 14; refine hfm.mono ?_; rintro e w1 ⟨rfl, b1⟩) | (go_at_call 40; refine (hi _).mono ?_; rintro e w2 ⟨rfl, rfl⟩) | fail)
      refine bodyPost_ret (results_tmp3 rfl _ _ _) rfl ?_
      exact ⟨_, _, _, _, _, _, _, _, _, rfl, rdK_none _ _ _ _, rdK_none _ _ _ _, rdK_none _ _ _ _, b1⟩
    | true =>
      cases h2 : nmB l.length t with
      | false =>
        rw [if_neg (by simp)]
        go_enter Try.func22, Try.ntmps22
        go_wp2_with (first | (go_at_call 14; refine hfm.mono ?_; rintro e w1 ⟨rfl, b1⟩) | (go_at_call 40; refine (his _ _).mono ?_; rintro e w2 ⟨rfl, rfl⟩) | fail)
        refine bodyPost_ret (results_tmp3 rfl _ _ _) rfl ?_
        exact ⟨_, _, _, _, _, _, _, _, _, rfl, rdK_none _ _ _ _, rdK_none _ _ _ _, rdK_none _ _ _ _, b1⟩
      | true =>
        rw [if_pos (by simp)]
        have hme := fun w1 (b1 : Below w.heap.size w w1) => meet_any (h.on kp_nd b1) f t
        have hle := fun o w1 (b1 : Below w.heap.size w w1) => leave_any (h.on kp_nd b1) (RdK.on kp_int hx b1) o
        have hen := fun o w1 (b1 : Below w.heap.size w w1) => enter_any (h.on kp_nd b1) o t
        have hso := fun w1 (b1 : Below w.heap.size w w1) => setOf_any (h.on kp_nd b1) (RdK.on kp_int hx b1) h40
        have HMV := hidOf (show mvS l xs f t = updL (updL (stO l.length xs) (lvB l xs (mtB l f t)) false) (etB l (mtB l f t) t) true from rfl)
        have HL1 := hidOf (fun x (hx : x ∈ lvB l xs (mtB l f t)) => lvB_mem hx)
        have HE1 := hidOf (fun x (hx : x ∈ etB l (mtB l f t) t) => etB_mem hx)
        have HL2 := lvB_len l xs (mtB l f t)
        have HE2 := etB_len l (mtB l f t) t
        obtain ⟨m, hm⟩ : ∃ m, mtB l f t = m := ⟨_, rfl⟩
        simp only [hm] at hme HMV HL1 HE1 HL2 HE2 ⊢
        clear hm
        obtain ⟨LV, hLV⟩ : ∃ LV, lvB l xs m = LV := ⟨_, rfl⟩
        obtain ⟨ET, hET⟩ : ∃ ET, etB l m t = ET := ⟨_, rfl⟩
        have hle := hle m
        have hen := hen m
        simp only [hLV] at hle HMV HL1 HL2 ⊢
        simp only [hET] at hen HMV HE1 HE2 ⊢
        clear hLV hET
        obtain ⟨n, hn⟩ : ∃ n, l.length = n := ⟨_, rfl⟩
        simp only [hn] at hlc h40 his hfm h1 h2 hme hle hen hso HMV
        rw [hn]
        clear hn h hx hf
        obtain ⟨s0, hs0⟩ : ∃ s0, stO n xs = s0 := ⟨_, rfl⟩
        rw [hs0] at HMV
        simp only [hs0] at hso
        clear hs0
        go_enter Try.func22, Try.ntmps22
        go_upto_region 6 with (first
          | (go_at_call 14; refine hfm.mono ?_; rintro e w1 ⟨rfl, b1⟩)
          | (go_at_call 40; refine (his _ _).mono ?_; rintro e w2 ⟨rfl, rfl⟩)
          | (go_at_call 18; refine (hme _ b1).mono ?_; rintro e w3 ⟨rfl, b3⟩; have hb3 := b1.trans (b3.mono b1.size))
          | (go_at_call 41; refine (hle _ hb3).mono ?_; rintro e w4 ⟨la, ln, lc, rfl, hO4, b4⟩; have hb4 := hb3.trans (b4.mono hb3.size))
          | (go_at_call 42; refine (hen _ hb4).mono ?_; rintro e w5 ⟨ea, en, ec, rfl, hO5, b5⟩; have hb5 := hb4.trans (b5.mono hb4.size))
          | fail)
        refine wp_region_lit ?_
        go_wp2_with (first
          | (go_at_call 43; refine (hso _ hb5).mono ?_; rintro e w6 ⟨rfl, b6⟩)
          | (refine wpList_store_row rfl 93 _ _ rfl w6.heap.size (bV s0).toArray rfl rfl 93 _ (heap_alloc_last w6 _) (by rw [bV_size]; exact Try.infoSet) (by rw [bV_size]; rfl) (bV_one _) ?_; rw [World.setRow_alloc_new])
          | fail)
        have hb6 := hb5.trans (b6.mono hb5.size)
        have hal : Below w6.heap.size w6 (w6.alloc (.cells (bV s0).toArray 93)) := (Below.refl _ _).alloc (Nat.le_refl _) _
        have hA7 : Arr (w6.alloc (.cells (bV s0).toArray 93)) w6.heap.size s0 := Arr.new w6 _ _ rfl
        have hb7 := hb6.trans (hal.mono hb6.size)
        have hw6 : w.heap.size ≤ w6.heap.size := hb6.size
        obtain ⟨la', lc', he1, hlc1, hlm1⟩ := hO4.form
        obtain ⟨ea', ec', he2, hec1, hem1⟩ := hO5.form
        simp only [Value.slice.injEq] at he1 he2
        obtain ⟨rfl, rfl, rfl⟩ := he1
        obtain ⟨rfl, rfl, rfl⟩ := he2
        unfold maxLen at hlm1 hem1
        have hR4 : RdZs (fun b => w.heap.size ≤ b ∧ b < w6.heap.size) (w6.alloc (.cells (bV s0).toArray 93)) LV (.slice la LV.length lc) := hO4.rdz.stay kp_int (fun b hb hl => ⟨⟨Nat.le_trans hb3.size hb, Nat.lt_of_lt_of_le hl (Nat.le_trans b5.size b6.size)⟩, (hal.block b (Nat.lt_of_lt_of_le hl (Nat.le_trans b5.size b6.size))).trans ((b6.block b (Nat.lt_of_lt_of_le hl b5.size)).trans (b5.block b hl))⟩)
        have hR5 : RdZs (fun b => w.heap.size ≤ b ∧ b < w6.heap.size) (w6.alloc (.cells (bV s0).toArray 93)) ET (.slice ea ET.length ec) := hO5.rdz.stay kp_int (fun b hb hl => ⟨⟨Nat.le_trans hb4.size hb, Nat.lt_of_lt_of_le hl b6.size⟩, (hal.block b (Nat.lt_of_lt_of_le hl b6.size)).trans (b6.block b hl)⟩)
        generalize w6.alloc (.cells (bV s0).toArray 93) = w7 at *
        obtain ⟨Y, hY⟩ : ∃ Y, w6.heap.size = Y := ⟨_, rfl⟩
        rw [hY] at hA7 hw6 hR4 hR5 ⊢
        clear hY hso hen hle hme his hfm hO4 hO5 hb5 hb6 hb4 hb3 b1 b3 b4 b5 b6 hal
        obtain ⟨p, hp⟩ : ∃ p, LV.length = p := ⟨_, rfl⟩
        obtain ⟨q, hq⟩ : ∃ q, ET.length = q := ⟨_, rfl⟩
        rw [hp] at hlc1 HL2 hR4 ⊢
        rw [hq] at hec1 HE2 hR5 ⊢
        have HP := hidOf hp
        have HQ := hidOf hq
        clear hp hq
        go_loopw [49] (fun ix wr => ∃ (j : Nat), j ≤ p ∧ ix = .int .i64 (j : Int) ∧ Arr wr Y (updL s0 (LV.take j) false) ∧ Below w.heap.size w wr ∧ RdZs (fun b => w.heap.size ≤ b ∧ b < Y) wr LV (.slice la p lc) ∧ RdZs (fun b => w.heap.size ≤ b ∧ b < Y) wr ET (.slice ea q ec)) (fun ix _ => p - (RowKit.intOf ix).toNat)
        case atStart => exact ⟨0, Nat.zero_le _, rfl, by rw [List.take_zero, updL_nil]; exact hA7, hb7, hR4, hR5⟩
        case round =>
          obtain ⟨j, hj, rfl, hA, hb, hrl, hre⟩ := hrel
          by_cases hlt : j < p
          · have hjl : j < LV.length := by rw [HP.out]; exact hlt
            have i1 : (j : Int) < (p : Int) := by omega
            have i2 : (0 : Int) ≤ (j : Int) := by omega
            obtain ⟨b, off, hb0, hbl, c0⟩ := zs_at hrl j hjl
            obtain ⟨k, hk, hk4⟩ := HL1.out _ (List.getElem_mem hjl)
            have HT : Hid (LV.take (j + 1) = LV.take j ++ [(k : Int)]) := by rw [← hk]; exact List.take_succ_eq_append_getElem hjl
            rw [hk] at c0
            subst hb0
            have hset : Arr (wr.setCell ⟨Y, k, none⟩ (.bool false)) Y (updL s0 (LV.take (j + 1)) false) := by rw [HT.out, updL_snoc]; exact hA.set k hk4 false
            have hbw : Below w.heap.size w (wr.setCell ⟨Y, k, none⟩ (.bool false)) := hb.setCell (p := ⟨Y, k, none⟩) hw6 _
            have hrl2 := hrl.stay kp_int (ok' := fun b => w.heap.size ≤ b ∧ b < Y) (w' := wr.setCell ⟨Y, k, none⟩ (.bool false)) (fun b hb _ => ⟨hb, Below.heap_setCell _ _ _ _ (fun e => by have e' : b = Y := e; omega)⟩)
            have hre2 := hre.stay kp_int (ok' := fun b => w.heap.size ≤ b ∧ b < Y) (w' := wr.setCell ⟨Y, k, none⟩ (.bool false)) (fun b hb _ => ⟨hb, Below.heap_setCell _ _ _ _ (fun e => by have e' : b = Y := e; omega)⟩)
            have ck := hA.cell k hk4
            have fk := hA.frozen k
            have k1 : (k : Int) < 40 := by omega
            have k2 : (0 : Int) ≤ (k : Int) := by omega
            clear hrl hre hA hk
            go_wp2
            go_roundw
            case rel => exact ⟨j + 1, hlt, by go_num, hset, hbw, hrl2, hre2⟩
            case measure => simp [RowKit.intOf]; omega
          · have i1 : ¬ (j : Int) < (p : Int) := by omega
            have ht : LV.take j = LV := List.take_of_length_le (by rw [HP.out]; omega)
            rw [ht] at hA
            go_wp2
            obtain ⟨s1, hs1⟩ : ∃ s1, updL s0 LV false = s1 := ⟨_, rfl⟩
            rw [hs1] at hA
            rw [hs1] at HMV
            clear hs1 ht hR4 hR5 hA7 hb7
            go_loopw [58] (fun ix wr => ∃ (j : Nat), j ≤ q ∧ ix = .int .i64 (j : Int) ∧ Arr wr Y (updL s1 (ET.take j) true) ∧ Below w.heap.size w wr ∧ RdZs (fun b => w.heap.size ≤ b ∧ b < Y) wr LV (.slice la p lc) ∧ RdZs (fun b => w.heap.size ≤ b ∧ b < Y) wr ET (.slice ea q ec)) (fun ix _ => q - (RowKit.intOf ix).toNat)
            case atStart => exact ⟨0, Nat.zero_le _, rfl, by rw [List.take_zero, updL_nil]; exact hA, hb, hrl, hre⟩
            case round =>
              clear hb hrl hre hA
              obtain ⟨j, hj, rfl, hA, hb, hrl, hre⟩ := hrel
              by_cases hlt : j < q
              · have hjl : j < ET.length := by rw [HQ.out]; exact hlt
                have i1 : (j : Int) < (q : Int) := by omega
                have i2 : (0 : Int) ≤ (j : Int) := by omega
                obtain ⟨b, off, hb0, hbl, c0⟩ := zs_at hre j hjl
                obtain ⟨k, hk, hk4⟩ := HE1.out _ (List.getElem_mem hjl)
                have HT : Hid (ET.take (j + 1) = ET.take j ++ [(k : Int)]) := by rw [← hk]; exact List.take_succ_eq_append_getElem hjl
                rw [hk] at c0
                subst hb0
                have hset : Arr (wr.setCell ⟨Y, k, none⟩ (.bool true)) Y (updL s1 (ET.take (j + 1)) true) := by rw [HT.out, updL_snoc]; exact hA.set k hk4 true
                have hbw : Below w.heap.size w (wr.setCell ⟨Y, k, none⟩ (.bool true)) := hb.setCell (p := ⟨Y, k, none⟩) hw6 _
                have hrl2 := hrl.stay kp_int (ok' := fun b => w.heap.size ≤ b ∧ b < Y) (w' := wr.setCell ⟨Y, k, none⟩ (.bool true)) (fun b hb _ => ⟨hb, Below.heap_setCell _ _ _ _ (fun e => by have e' : b = Y := e; omega)⟩)
                have hre2 := hre.stay kp_int (ok' := fun b => w.heap.size ≤ b ∧ b < Y) (w' := wr.setCell ⟨Y, k, none⟩ (.bool true)) (fun b hb _ => ⟨hb, Below.heap_setCell _ _ _ _ (fun e => by have e' : b = Y := e; omega)⟩)
                have ck := hA.cell k hk4
                have fk := hA.frozen k
                have k1 : (k : Int) < 40 := by omega
                have k2 : (0 : Int) ≤ (k : Int) := by omega
                clear hrl hre hA hk
                go_wp2
                go_roundw
                case rel => exact ⟨j + 1, hlt, by go_num, hset, hbw, hrl2, hre2⟩
                case measure => simp [RowKit.intOf]; omega
              · have i1 : ¬ (j : Int) < (q : Int) := by omega
                have ht : ET.take j = ET := List.take_of_length_le (by rw [HQ.out]; omega)
                rw [ht, ← HMV.out] at hA
                have hnu := fun w1 => numbers_any w1 (mvS l xs f t)
                go_upto_region 17 with fail
                refine wp_region_lit ?_
                go_wp2_with (first
                  | (refine wpList_load_row rfl 93 _ rfl Y rfl 93 (bV (mvS l xs f t)).toArray (0, 0) _ hA Try.underlying93 rfl (by rw [bV_size]; exact Try.infoSet) ?_)
                  | (go_at_call 44; refine (hnu _).mono ?_; rintro e w9 ⟨ra, rn, rc, rfl, hO9, b9⟩)
                  | fail)
                refine bodyPost_ret (results_tmp3 rfl _ _ _) rfl ?_
                exact ⟨_, _, _, _, _, _, _, _, _, rfl, hrl.stay kp_int (fun b hb hl => ⟨hb.1, b9.block b hl⟩), hre.stay kp_int (fun b hb hl => ⟨hb.1, b9.block b hl⟩), (OwnK.down hO9 hb.size).rdz, hb.trans (b9.mono hb.size)⟩
end Go.Proofs.Ytbccdkhbplmknaa

/- Nodes, by parents: what is met on the way up. Math alone. -/
namespace Go.Proofs.Ytbccdkhbplmknaa
set_option linter.unusedVariables false

/-- Parents lie ahead. -/
def Ahd (n : Nat) (P : Nat → Int) : Prop := ∀ m < n, -1 ≤ P m ∧ P m < m
theorem okR_more {n : Nat} {P : Nat → Int} (hP : Ahd n P) (p : Int) : ∀ (f : Nat) (c : Int), -1 ≤ c → c < f → c < n → okR P p f c = okR P p (c + 1).toNat c
  | 0, c, h1, h2, h3 => by
    have : c = -1 := by omega
    subst this; rfl
  | f + 1, c, h1, h2, h3 => by
    by_cases h0 : c < 0
    · have : c = -1 := by omega
      subst this
      unfold okR; rw [if_pos (by omega)]; rfl
    have e : (c + 1).toNat = c.toNat + 1 := by omega
    rw [e]
    unfold okR
    rw [if_neg h0, if_neg h0]
    have hl := hP c.toNat (by omega)
    rw [okR_more hP p f (P c.toNat) (by omega) (by omega) (by omega), okR_more hP p c.toNat (P c.toNat) (by omega) (by omega) (by omega)]
theorem okR_step {n : Nat} {P : Nat → Int} (hP : Ahd n P) (p : Int) {k : Nat} (hk : k < n) : okR P p ((k : Int) + 1).toNat k = (decide (p = k) || okR P p (P k + 1).toNat (P k)) := by
  have e : ((k : Int) + 1).toNat = k + 1 := by omega
  have hl := hP k hk
  rw [e, okR, if_neg (by omega), Int.toNat_natCast, okR_more hP p k (P k) (by omega) (by omega) (by omega)]
  by_cases h : p = (k : Int)
  · rw [if_pos h, decide_eq_true h, Bool.true_or]
  · rw [if_neg h, decide_eq_false h, Bool.false_or]
theorem okR_le {n : Nat} {P : Nat → Int} (hP : Ahd n P) (p : Int) : ∀ (f : Nat) (c : Int), c < n → okR P p f c = true → 0 ≤ p ∧ p ≤ c
  | 0, c, h3, h => by simp [okR] at h
  | f + 1, c, h3, h => by
    unfold okR at h
    by_cases h0 : c < 0
    · rw [if_pos h0] at h; simp at h
    rw [if_neg h0] at h
    by_cases hp : p = c
    · omega
    · rw [if_neg hp] at h
      have hl := hP c.toNat (by omega)
      have := okR_le hP p f (P c.toNat) (by omega) h
      omega
theorem dpR_more {n : Nat} {P : Nat → Int} (hP : Ahd n P) : ∀ (f : Nat) (c : Int), -1 ≤ c → c < f → c < n → dpR P f c = dpR P (c + 1).toNat c
  | 0, c, h1, h2, h3 => by
    have : c = -1 := by omega
    subst this; rfl
  | f + 1, c, h1, h2, h3 => by
    by_cases h0 : c < 0
    · have : c = -1 := by omega
      subst this
      unfold dpR; rw [if_pos (by omega)]; rfl
    have e : (c + 1).toNat = c.toNat + 1 := by omega
    rw [e]
    unfold dpR
    rw [if_neg h0, if_neg h0]
    have hl := hP c.toNat (by omega)
    rw [dpR_more hP f (P c.toNat) (by omega) (by omega) (by omega), dpR_more hP c.toNat (P c.toNat) (by omega) (by omega) (by omega)]
theorem dpR_step {n : Nat} {P : Nat → Int} (hP : Ahd n P) {k : Nat} (hk : k < n) : dpR P ((k : Int) + 1).toNat k = 1 + dpR P (P k + 1).toNat (P k) := by
  have e : ((k : Int) + 1).toNat = k + 1 := by omega
  have hl := hP k hk
  rw [e, dpR, if_neg (by omega), Int.toNat_natCast, dpR_more hP k (P k) (by omega) (by omega) (by omega)]
theorem dpR_le {n : Nat} {P : Nat → Int} : ∀ (f : Nat) (c : Int), dpR P f c ≤ f
  | 0, c => by simp [dpR]
  | f + 1, c => by
    unfold dpR
    split
    · omega
    · have := dpR_le (n := n) (P := P) f (P c.toNat); omega
theorem bhR_le (P : Nat → Int) (i : Int) : ∀ f b : Nat, b ≤ bhR P i f b ∧ bhR P i f b ≤ b + f
  | 0, b => by unfold bhR; omega
  | f + 1, b => by
    have := bhR_le P i f (b + 1)
    unfold bhR
    split <;> omega
/-- One node, by its parents. -/
def FR (n : Nat) (D P B : Nat → Int) (L : Nat → Bool) (i : Nat) : Prop := (P i = -1 ∨ okR P (P i) i ((i : Int) - 1) = true) ∧ D i = (dpR P i (P i) : Nat) ∧ B i = (bhR P i (n - (i + 1)) (i + 1) : Nat) ∧ L i = decide (B i = (i : Int) + 1)
theorem fr_ahd {n : Nat} {P : Nat → Int} {i : Nat} (hA : Ahd i P) (h : P i = -1 ∨ okR P (P i) i ((i : Int) - 1) = true) : Ahd (i + 1) P := by
  intro m hm
  rcases Nat.lt_or_ge m i with h2 | h2
  · exact hA m h2
  · have : m = i := by omega
    subst this
    rcases h with h | h
    · omega
    · have := okR_le hA (P m) m ((m : Int) - 1) (by omega) h
      omega
end Go.Proofs.Ytbccdkhbplmknaa

/- What the document's lies answers. -/
namespace Go.Proofs.Ytbccdkhbplmknaa
open Go.RowKit Go.Lib
set_option linter.unusedSimpArgs false
set_option linter.unusedVariables false
attribute [local go_sem ↓] Go.wp_at_zero Go.wp_at_succ

set_option maxRecDepth 100000 in
set_option maxHeartbeats 4000000 in
theorem lies_any {ok : Nat → Prop} {w : World} {l : List Nd} {v : Value} (h : RdNd ok w l v) {i : Nat} (hi : i < l.length) (j : Int) :
    Calls Try.prog 64 #[v, .int .i64 (i : Int), .int .i64 j] w fun e w' => e = .returned (.bool (lsR (nP l) j (i + 1) i)) ∧ w = w' := by
  obtain ⟨a, cap, rfl, hlc, hcm⟩ := h.form
  unfold maxLen at hcm
  have HC := hidOf h
  obtain ⟨V, hV⟩ : ∃ V, lsR (nP l) j (i + 1) i = V := ⟨_, rfl⟩
  have HV := hidOf hV
  rw [hV]
  obtain ⟨b, off, rfl, hbl, c0, c1, c2, c3, c4, c5, c6⟩ := nd_at h i hi
  obtain ⟨n, hn⟩ : ∃ n, l.length = n := ⟨_, rfl⟩
  rw [hn] at hlc hi ⊢
  have HN := hidOf hn
  obtain ⟨p, hp⟩ : ∃ p, nP l i = p := ⟨_, rfl⟩
  rw [hp] at c1
  have HP := hidOf hp
  clear hV hn h hp c0 c2 c3 c4 c5 c6
  have i1 : (i : Int) < (n : Int) := by omega
  have i2 : (0 : Int) ≤ (i : Int) := by omega
  go_enter Try.func64, Try.ntmps64
  go_wp2
  clear c1
  go_loop [1, 7] (fun s t => ∃ (c : Nat) (q : Int), c < n ∧ s = .int .i64 (c : Int) ∧ t = .int .i64 q ∧ Hid (nP l c = q) ∧ Hid (lsR (nP l) j (c + 1) c = V)) (fun s _ => (RowKit.intOf s).toNat)
  case atStart => exact ⟨i, p, hi, rfl, rfl, HP, HV⟩
  case round =>
    clear HP HV i1 i2
    obtain ⟨c, q, hcn, rfl, rfl, HQ, HI⟩ := hrel
    have HI2 : Hid ((if 0 ≤ q ∧ q < c then (if q = j then true else lsR (nP l) j c q.toNat) else false) = V) := by
      have := HI.out
      rw [lsR, HQ.out] at this
      exact this
    by_cases h0 : 0 ≤ q
    · by_cases h1 : q < c
      · obtain ⟨k, rfl⟩ : ∃ k : Nat, q = k := ⟨q.toNat, by omega⟩
        have hkc : k < c := by omega
        have HI3 : Hid ((if (k : Int) = j then true else lsR (nP l) j (k + 1) k) = V) := by
          have := HI2.out
          rw [if_pos ⟨h0, h1⟩, Int.toNat_natCast, lsR_more (nP l) j c k hkc] at this
          exact this
        have i3 : (k : Int) < (n : Int) := by omega
        by_cases hj : (k : Int) = j
        · have hT : V = true := by rw [← HI3.out, if_pos hj]
          subst hT hj
          go_wp2
          go_ret
          exact ⟨rfl, rfl⟩
        · have HI4 : Hid (lsR (nP l) j (k + 1) k = V) := by have := HI3.out; rw [if_neg hj] at this; exact this
          have hj2 : ((k : Int) == j) = false := beq_eq_false_iff_ne.2 hj
          obtain ⟨b', off', he, _, _, c1, _⟩ := nd_at HC.out k (by rw [HN.out]; omega)
          simp only [Option.some.injEq, Addr.mk.injEq, and_true] at he
          obtain ⟨rfl, rfl⟩ := he
          obtain ⟨pk, hk⟩ : ∃ x, nP l k = x := ⟨_, rfl⟩
          rw [hk] at c1
          have HK := hidOf hk
          clear hk hj
          go_wp2
          go_round
          case rel => exact ⟨k, pk, by omega, rfl, rfl, HK, HI4⟩
          case measure => simp [RowKit.intOf]; omega
      · have hF : V = false := by rw [← HI2.out, if_neg (fun h => h1 h.2)]
        subst hF
        go_wp2
        go_ret
        exact ⟨rfl, rfl⟩
    · have hF : V = false := by rw [← HI2.out, if_neg (fun h => h0 h.1)]
      subst hF
      go_wp2
      go_ret
      exact ⟨rfl, rfl⟩
set_option maxHeartbeats 1000000 in
theorem stateR_any {w : World} {a : Option Addr} {n cap : Nat} (i : Int) (hlc : n ≤ cap) (hcm : cap ≤ maxLen) :
    Calls Try.prog 46 #[.slice a n cap, .int .i64 i] w fun e w' => e = .returned (.bool (nmB n i)) ∧ w = w' := by
  unfold maxLen at hcm
  by_cases h0 : 0 ≤ i
  · by_cases h1 : i < n
    · have e : nmB n i = true := by unfold nmB; simp [h0, h1]
      rw [e]
      clear e
      go_enter Try.func46, Try.ntmps46
      go_wp2
      go_ret
      exact ⟨rfl, rfl⟩
    · have e : nmB n i = false := nmB_no (fun h => h1 h.2)
      rw [e]
      clear e
      go_enter Try.func46, Try.ntmps46
      go_wp2
      go_ret
      exact ⟨rfl, rfl⟩
  · have e : nmB n i = false := nmB_no (fun h => h0 h.1)
    rw [e]
    clear e
    go_enter Try.func46, Try.ntmps46
    go_wp2
    go_ret
    exact ⟨rfl, rfl⟩

set_option maxRecDepth 100000 in
set_option maxHeartbeats 8000000 in
theorem formedR_any {ok : Nat → Prop} {w : World} {l : List Nd} {v : Value} (h : RdNd ok w l v) :
    Calls Try.prog 45 #[v] w fun e w' => e = .returned (.bool (fmB l)) ∧ w = w' := by
  obtain ⟨a, cap, rfl, hlc, hcm⟩ := h.form
  unfold maxLen at hcm
  obtain ⟨V, hV⟩ : ∃ V, fmB l = V := ⟨_, rfl⟩
  rw [hV]
  have HV : Hid (fmB l = V) := hV
  have HC := hidOf h
  have hF : ¬ (l.length ≤ 40 ∧ ∀ i < l.length, FR l.length (nD l) (nP l) (nB l) (nL l) i) → V = false := fun h => by
    rw [← HV.out]
    unfold fmB
    rw [decide_eq_false]
    exact fun h2 => h ((fm_same _ _ _ _ _).1 h2)
  have hT : (l.length ≤ 40 ∧ ∀ i < l.length, FR l.length (nD l) (nP l) (nB l) (nL l) i) → V = true := fun h => by
    rw [← HV.out]
    unfold fmB
    rw [decide_eq_true]
    exact (fm_same _ _ _ _ _).2 h
  have hls : ∀ i : Nat, i < l.length → ∀ j : Int, Calls Try.prog 64 #[.slice a l.length cap, .int .i64 (i : Int), .int .i64 j] w fun e w' => e = .returned (.bool (lsR (nP l) j (i + 1) i)) ∧ w = w' := fun i hi j => lies_any h hi j
  obtain ⟨n, hn⟩ : ∃ n, l.length = n := ⟨_, rfl⟩
  rw [hn] at hlc hF hT hls ⊢
  have HN : Hid (l.length = n) := hn
  have HT := hidOf hT
  have HF := hidOf hF
  have HLS := hidOf hls
  clear h hV hn hT hF hls
  by_cases h40 : 40 < n
  · have hF := HF.out (fun h => by omega)
    subst hF
    have i0 : (40 : Int) < (n : Int) := by omega
    go_enter Try.func45, Try.ntmps45
    go_wp2
    go_ret
    exact ⟨rfl, rfl⟩
  have i0 : ¬ (40 : Int) < (n : Int) := by omega
  go_enter Try.func45, Try.ntmps45
  go_wp2
  go_loop [14] (fun ix => ∃ (i : Nat), i ≤ n ∧ ix = .int .i64 (i : Int) ∧ Hid (Ahd i (nP l) ∧ ∀ m < i, FR n (nD l) (nP l) (nB l) (nL l) m)) (fun ix => n - (RowKit.intOf ix).toNat)
  case atStart => exact ⟨0, Nat.zero_le _, rfl, ⟨fun m hm => by omega, fun m hm => by omega⟩⟩
  case round =>
    obtain ⟨i, hin, rfl, HI⟩ := hrel
    by_cases hlt : i < n
    · obtain ⟨b, off, rfl, hbl, c0, c1, c2, c3, c4, c5, c6⟩ := nd_at HC.out i (by rw [HN.out]; exact hlt)
      have HCE : Hid (∀ k : Nat, k < n → w.cell? ⟨b, off + k * 7 + 1, none⟩ = some (.int .i64 (nP l k))) := fun k hk => by
        obtain ⟨b', off', he, _, _, k1, _⟩ := nd_at HC.out k (by rw [HN.out]; exact hk)
        simp only [Option.some.injEq, Addr.mk.injEq, and_true] at he
        obtain ⟨rfl, rfl⟩ := he
        exact k1
      have i1 : (i : Int) < (n : Int) := by omega
      have i2 : (0 : Int) ≤ (i : Int) := by omega
      obtain ⟨p, hp⟩ : ∃ p, nP l i = p := ⟨_, rfl⟩
      obtain ⟨d, hd⟩ : ∃ p, nD l i = p := ⟨_, rfl⟩
      obtain ⟨bh, hbh⟩ : ∃ p, nB l i = p := ⟨_, rfl⟩
      obtain ⟨lf, hlf⟩ : ∃ p, nL l i = p := ⟨_, rfl⟩
      rw [hp] at c1
      rw [hd] at c2
      rw [hbh] at c3
      rw [hlf] at c6
      obtain ⟨OK, hOK⟩ : ∃ x, (decide (p = -1) || okR (nP l) p i ((i : Int) - 1)) = x := ⟨_, rfl⟩
      obtain ⟨DV, hDV⟩ : ∃ x, dpR (nP l) i p = x := ⟨_, rfl⟩
      obtain ⟨BV, hBV⟩ : ∃ x, bhR (nP l) i (n - (i + 1)) (i + 1) = x := ⟨_, rfl⟩
      have HFR : Hid (FR n (nD l) (nP l) (nB l) (nL l) i ↔ (OK = true ∧ d = (DV : Int) ∧ bh = (BV : Int) ∧ lf = decide ((BV : Int) = (i : Int) + 1))) := by
        unfold FR
        rw [hp, hd, hbh, hlf, hDV, hBV, ← hOK]
        rw [Bool.or_eq_true, decide_eq_true_eq]
        constructor
        · rintro ⟨h1, h2, h3, h4⟩
          rw [h3] at h4
          exact ⟨h1, h2, h3, h4⟩
        · rintro ⟨h1, h2, h3, h4⟩
          refine ⟨h1, h2, h3, ?_⟩
          rw [h3]; exact h4
      have HOK := hidOf hOK
      have HDV := hidOf hDV
      have HBV := hidOf hBV
      have HPI := hidOf hp
      have hDl : DV ≤ i := by rw [← hDV]; exact dpR_le (n := n) i p
      have hBl : BV ≤ n := by rw [← hBV]; have := bhR_le (nP l) i (n - (i + 1)) (i + 1); omega
      clear hp hd hbh hlf hOK hDV hBV c0 c4 c5
      go_upto_block 2 with fail
      go_cut [4, 5] from 25 to 42 (fun u4 u5 wc => u4 = .bool OK ∧ Hid (w = wc))
      case first =>
        have hst : Hid (((p == -1) || okR (nP l) p (((i : Int) - 1) + 1).toNat ((i : Int) - 1)) = OK) := by
          have := HOK.out
          have e : (((i : Int) - 1) + 1).toNat = i := by omega
          rw [e]
          exact this
        go_wp2_with fail
        go_loop [4, 5] (fun s t => ∃ (o : Bool) (k : Int), -1 ≤ k ∧ k < i ∧ s = .bool o ∧ t = .int .i64 k ∧ Hid ((o || okR (nP l) p (k + 1).toNat k) = OK)) (fun _ t => (RowKit.intOf t + 1).toNat)
        case atStart => exact ⟨_, _, by omega, by omega, rfl, rfl, hst⟩
        case round =>
          obtain ⟨o, k, hk0, hk1, rfl, rfl, HO⟩ := hrel
          by_cases hneg : k < 0
          · have e : o = OK := by
              rw [← HO.out]
              have : k = -1 := by omega
              rw [this]
              show o = (o || false)
              rw [Bool.or_false]
            subst e
            go_wp2
            go_meet
            case rel => exact ⟨rfl, rfl⟩
          · cases o with
            | true =>
              have e : true = OK := by rw [← HO.out]; rfl
              subst e
              have i3 : (0 : Int) ≤ k := by omega
              go_wp2
              go_meet
              case rel => exact ⟨rfl, rfl⟩
            | false =>
              obtain ⟨kn, rfl⟩ : ∃ kn : Nat, k = kn := ⟨k.toNat, by omega⟩
              have i3 : (0 : Int) ≤ (kn : Int) := by omega
              have i4 : (kn : Int) < (n : Int) := by omega
              have hA := HI.out.1 kn (by omega)
              have HO2 : Hid ((p == (kn : Int) || okR (nP l) p (nP l kn + 1).toNat (nP l kn)) = OK) := by
                have := HO.out
                rw [Bool.false_or, okR_step HI.out.1 p (by omega)] at this
                exact this
              have k1 := HCE.out kn (by omega)
              obtain ⟨pk, hpk⟩ : ∃ x, nP l kn = x := ⟨_, rfl⟩
              rw [hpk] at k1 hA HO2
              clear hpk hneg
              go_wp2
              go_round
              case rel => exact ⟨_, _, hA.1, by omega, rfl, rfl, HO2⟩
              case measure => simp [RowKit.intOf]; omega
      case rest =>
      obtain ⟨rfl, hwc⟩ := hcut
      obtain rfl := hwc.out
      clear hwc
      have HOA : Hid (OK = true → Ahd (i + 1) (nP l) ∧ -1 ≤ p ∧ p < i) := fun h => by
        have h2 := HOK.out
        rw [h, Bool.or_eq_true, decide_eq_true_eq, ← HPI.out] at h2
        have hA := fr_ahd (n := n) HI.out.1 h2
        have := hA i (by omega)
        rw [HPI.out] at this
        exact ⟨hA, this⟩
      clear HOK
      cases OK with
      | false =>
        have hF := HF.out (fun h => by have := (HFR.out.1 (h.2 i hlt)).1; simp at this)
        subst hF
        go_wp2
        go_ret
        exact ⟨rfl, rfl⟩
      | true =>
      have HA2 : Hid (Ahd (i + 1) (nP l) ∧ -1 ≤ p ∧ p < i) := HOA.out rfl
      go_upto_block 4 with fail
      go_cut [6, 7] from 50 to 58 (fun u6 u7 wc => u6 = .int .i64 (DV : Int) ∧ Hid (w = wc))
      case first =>
        have hst : Hid (0 + dpR (nP l) (p + 1).toNat p = DV) := by
          have := HDV.out
          rw [dpR_more HA2.out.1 i p HA2.out.2.1 HA2.out.2.2 (by have := HA2.out.2.2; omega)] at this
          rw [Nat.zero_add]; exact this
        have hp0 := HA2.out.2
        go_wp2_with fail
        go_loop [6, 7] (fun s t => ∃ (dd : Nat) (k : Int), -1 ≤ k ∧ k < i ∧ s = .int .i64 (dd : Int) ∧ t = .int .i64 k ∧ Hid (dd + dpR (nP l) (k + 1).toNat k = DV)) (fun _ t => (RowKit.intOf t + 1).toNat)
        case atStart => exact ⟨0, p, by omega, by omega, rfl, rfl, hst⟩
        case round =>
          clear hst hp0
          obtain ⟨dd, k, hk0, hk1, rfl, rfl, HO⟩ := hrel
          by_cases hneg : k < 0
          · have e : dd = DV := by
              rw [← HO.out]
              have : k = -1 := by omega
              rw [this]
              rfl
            subst e
            have i3 : ¬ (0 : Int) ≤ k := by omega
            go_wp2
            go_meet
            case rel => exact ⟨rfl, rfl⟩
          · obtain ⟨kn, rfl⟩ : ∃ kn : Nat, k = kn := ⟨k.toNat, by omega⟩
            have i3 : (0 : Int) ≤ (kn : Int) := by omega
            have i4 : (kn : Int) < (n : Int) := by omega
            have hA := HI.out.1 kn (by omega)
            have HO2 : Hid (dd + 1 + dpR (nP l) (nP l kn + 1).toNat (nP l kn) = DV) := by
              have := HO.out
              rw [dpR_step HI.out.1 (by omega)] at this
              exact (Nat.add_assoc _ _ _).trans this
            have hdd : dd ≤ 40 := by have := HO.out; omega
            have k1 := HCE.out kn (by omega)
            obtain ⟨pk, hpk⟩ : ∃ x, nP l kn = x := ⟨_, rfl⟩
            rw [hpk] at k1 hA HO2
            clear hpk hneg
            go_wp2
            go_round
            case rel => exact ⟨dd + 1, pk, hA.1, by omega, by go_num, rfl, HO2⟩
            case measure => simp [RowKit.intOf]; omega
      case rest =>
      obtain ⟨rfl, hwc⟩ := hcut
      obtain rfl := hwc.out
      clear hwc HDV
      go_upto_block 6 with fail
      go_cut [8] from 61 to 72 (fun u8 wc => u8 = .int .i64 (BV : Int) ∧ Hid (w = wc))
      case first =>
        have ei : ((i + 1 : Nat) : Int) = (i : Int) + 1 := by omega
        have HEI := hidOf ei
        clear ei
        go_wp2_with fail
        go_loop [8] (fun t => ∃ (k : Nat), i + 1 ≤ k ∧ k ≤ n ∧ t = .int .i64 (k : Int) ∧ Hid (bhR (nP l) i (n - k) k = BV)) (fun t => n - (RowKit.intOf t).toNat)
        case atStart => exact ⟨i + 1, Nat.le_refl _, by omega, by rw [HEI.out], HBV⟩
        case round =>
          obtain ⟨k, hk0, hk1, rfl, HO⟩ := hrel
          by_cases hkn : k < n
          · have hl := HLS.out k hkn i
            have HO2 : Hid ((if lsR (nP l) i (k + 1) k then bhR (nP l) i (n - (k + 1)) (k + 1) else k) = BV) := by
              have := HO.out
              have e : n - k = (n - (k + 1)) + 1 := by omega
              rw [e, bhR] at this
              exact this
            have i3 : (k : Int) < (n : Int) := by omega
            cases hx : lsR (nP l) i (k + 1) k with
            | false =>
              rw [hx] at hl
              have e : k = BV := by have := HO2.out; rw [hx] at this; exact this
              subst e
              clear hx
              go_wp2_with (first | (go_at_call 64; refine hl.mono ?_; rintro e w1 ⟨rfl, rfl⟩) | fail)
              go_meet
              case rel => exact ⟨rfl, rfl⟩
            | true =>
              rw [hx] at hl
              have HO3 : Hid (bhR (nP l) i (n - (k + 1)) (k + 1) = BV) := by have := HO2.out; rw [hx] at this; exact this
              clear hx
              go_wp2_with (first | (go_at_call 64; refine hl.mono ?_; rintro e w1 ⟨rfl, rfl⟩) | fail)
              go_round
              case rel => exact ⟨k + 1, by omega, by omega, by go_num, HO3⟩
              case measure => simp [RowKit.intOf]; omega
          · have e : k = BV := by
              rw [← HO.out]
              have : n - k = 0 := by omega
              rw [this]; rfl
            subst e
            have i3 : ¬ (k : Int) < (n : Int) := by omega
            go_wp2
            go_meet
            case rel => exact ⟨rfl, rfl⟩
      case rest =>
      obtain ⟨rfl, hwc⟩ := hcut
      obtain rfl := hwc.out
      clear hwc HBV
      obtain ⟨L, hL⟩ : ∃ L, ((BV : Int) == (i : Int) + 1) = L := ⟨_, rfl⟩
      have HL : Hid (decide ((BV : Int) = (i : Int) + 1) = L) := hL
      have hx : ((d == (DV : Int)) = false ∧ ¬ FR n (nD l) (nP l) (nB l) (nL l) i) ∨ (d = (DV : Int) ∧ (bh == (BV : Int)) = false ∧ ¬ FR n (nD l) (nP l) (nB l) (nL l) i) ∨ (d = (DV : Int) ∧ bh = (BV : Int) ∧ (lf == L) = false ∧ ¬ FR n (nD l) (nP l) (nB l) (nL l) i) ∨ (d = (DV : Int) ∧ bh = (BV : Int) ∧ lf = L ∧ FR n (nD l) (nP l) (nB l) (nL l) i) := by
        by_cases h1 : d = (DV : Int)
        · by_cases h2 : bh = (BV : Int)
          · by_cases h3 : lf = L
            · exact .inr (.inr (.inr ⟨h1, h2, h3, HFR.out.2 ⟨rfl, h1, h2, h3.trans HL.out.symm⟩⟩))
            · exact .inr (.inr (.inl ⟨h1, h2, beq_eq_false_iff_ne.2 h3, fun h => h3 ((HFR.out.1 h).2.2.2.trans HL.out)⟩))
          · exact .inr (.inl ⟨h1, beq_eq_false_iff_ne.2 h2, fun h => h2 (HFR.out.1 h).2.2.1⟩)
        · exact .inl ⟨beq_eq_false_iff_ne.2 h1, fun h => h1 (HFR.out.1 h).2.1⟩
      rcases hx with ⟨u1, hne⟩ | ⟨rfl, u1, hne⟩ | ⟨rfl, rfl, u1, hne⟩ | ⟨rfl, rfl, rfl, he⟩
      · have hF := HF.out (fun h => hne (h.2 i hlt))
        subst hF
        have u2 : (d != (DV : Int)) = true := by simp [bne, u1]
        go_wp2
        go_ret
        exact ⟨rfl, rfl⟩
      · have hF := HF.out (fun h => hne (h.2 i hlt))
        subst hF
        have u2 : (bh != (BV : Int)) = true := by simp [bne, u1]
        go_wp2
        go_ret
        exact ⟨rfl, rfl⟩
      · have hF := HF.out (fun h => hne (h.2 i hlt))
        subst hF
        have u2 : (lf != L) = true := by simp [bne, u1]
        go_wp2
        go_ret
        exact ⟨rfl, rfl⟩
      · go_wp2
        go_round
        case rel => exact ⟨i + 1, hlt, by go_num, ⟨HA2.out.1, fun m hm => by
          rcases Nat.lt_or_ge m i with h2 | h2
          · exact HI.out.2 m h2
          · have h3 : m = i := by omega
            rw [h3]; exact he⟩⟩
        case measure => simp [RowKit.intOf]; omega
    · have i1 : ¬ (i : Int) < (n : Int) := by omega
      have hT := HT.out ⟨by omega, fun m hm => HI.out.2 m (by omega)⟩
      subst hT
      go_wp2
      go_ret
      exact ⟨rfl, rfl⟩
end Go.Proofs.Ytbccdkhbplmknaa
