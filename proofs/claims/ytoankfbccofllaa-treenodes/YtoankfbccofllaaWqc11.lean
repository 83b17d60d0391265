import Derived.Test.YtoankfbccofllaaWqc10
import Derived.Test.YtoankfbccofllaaWqc09
import Derived.Test.YtoankfbccofllaaRows
import Derived.Test.YtoankfbccofllaaWqc02
import Derived.Lib.SlicesCompact
import Derived.Sort.Walk0
import Derived.Test.YtoankfbccofllaaWqc04
import Derived.Test.YtoankfbccofllaaWqc07
import Derived.Test.YtoankfbccofllaaWqc01
import Derived.Sort.OwnSorted
import Derived.Lib.OwnBridge
import Derived.Deep.LoopGhost

/- What is left to strip: the places of rows; and what follows when they are stripped. -/
namespace Go.Proofs.Ytoankfbccofllaa
open Go.RowKit Go.Lib
set_option linter.unusedSimpArgs false
set_option linter.unusedVariables false

abbrev Fo := (d : Nat) × List (St d)
abbrev Pd := (Nat × Nat) × Fo
def pdA (p : Pd) : Addr := ⟨p.1.1, p.1.2, none⟩
def pdV (p : Pd) : Value := .pointer (some (pdA p))
/-- The value reads as the list, stripped; all of it from block B on. -/
def RdSp (B : Nat) (w : World) (x : Fo) (v : Value) : Prop := RdK (Nw B w) w 11 (rSt x.1 (Nw B w) w) (x.2.map (stS x.1)) v
/-- Nothing has turned but these cells, and the blocks of X. -/
structure Agr (X : Nat → Prop) (P : List Pd) (w w' : World) : Prop where
  size : w.heap.size ≤ w'.heap.size
  block : ∀ b, b < w.heap.size → ¬ X b → (∀ p ∈ P, p.1.1 ≠ b) → w'.heap[b]? = w.heap[b]?
  cell : ∀ b o, b < w.heap.size → ¬ X b → (∀ p ∈ P, p.1 ≠ (b, o)) → w'.cell? ⟨b, o, none⟩ = w.cell? ⟨b, o, none⟩
  fz : ∀ b o, b < w.heap.size → ¬ X b → w'.frozen? ⟨b, o, none⟩ = w.frozen? ⟨b, o, none⟩
theorem Agr.refl (X : Nat → Prop) (P : List Pd) (w : World) : Agr X P w w := ⟨Nat.le_refl _, fun _ _ _ _ => rfl, fun _ _ _ _ _ => rfl, fun _ _ _ _ => rfl⟩
/-- When all of these are stripped, R holds. -/
def Wnd (B : Nat) (X : Nat → Prop) (P : List Pd) (w : World) (R : World → Prop) : Prop := ∀ w', Agr X P w w' → (∀ p ∈ P, ∃ v, w'.cell? (pdA p) = some v ∧ RdSp B w' p.2 v) → R w'
theorem Wnd.end {B : Nat} {X : Nat → Prop} {w : World} {R : World → Prop} (h : Wnd B X [] w R) : R w := h w (Agr.refl _ _ _) (fun p hp => by cases hp)
/-- The world has moved on, these places as they were. -/
theorem Wnd.move {B : Nat} {X X' : Nat → Prop} {P : List Pd} {w w1 : World} {R : World → Prop} (h : Wnd B X P w R) (hs : w.heap.size ≤ w1.heap.size) (hX : ∀ b, X' b → X b ∨ w.heap.size ≤ b) (hb : ∀ b, b < w.heap.size → ¬ X b → w1.heap[b]? = w.heap[b]?) : Wnd B X' P w1 R := fun w' hA hr => by
  have nx : ∀ b, b < w.heap.size → ¬ X b → ¬ X' b := fun b hl hn q => by
    rcases hX b q with h | h
    · exact hn h
    · omega
  exact h w' ⟨Nat.le_trans hs hA.size, fun b hl hn hp => (hA.block b (Nat.lt_of_lt_of_le hl hs) (nx b hl hn) hp).trans (hb b hl hn), fun b o hl hn hp => (hA.cell b o (Nat.lt_of_lt_of_le hl hs) (nx b hl hn) hp).trans (World.cell?_of_block (w := w) (a := ⟨b, o, none⟩) (hb b hl hn)), fun b o hl hn => (hA.fz b o (Nat.lt_of_lt_of_le hl hs) (nx b hl hn)).trans (frozen_of_block (hb b hl hn))⟩ hr
/-- An empty row is one at any depth. -/
theorem Wnd.zero {B : Nat} {X : Nat → Prop} {P : List Pd} {a : Nat × Nat} {l : List (St 0)} {w : World} {R : World → Prop} (h : Wnd B X (P ++ [(a, ⟨0, l⟩)]) w R) : Wnd B X (P ++ [(a, (⟨1, []⟩ : Fo))]) w R := fun w' hA hr => by
  cases l with
  | cons x _ => exact Empty.elim x
  | nil =>
    refine h w' ⟨hA.size, fun b hl hn hp => hA.block b hl hn (fun p hp' => ?_), fun b o hl hn hp => hA.cell b o hl hn (fun p hp' => ?_), hA.fz⟩ (fun p hp => ?_)
    · rcases List.mem_append.1 hp' with h | h
      · exact hp p (List.mem_append_left _ h)
      · have : p = (a, (⟨1, []⟩ : Fo)) := by simpa using h
        subst this
        exact hp (a, (⟨0, []⟩ : Fo)) (List.mem_append_right _ List.mem_cons_self)
    · rcases List.mem_append.1 hp' with h | h
      · exact hp p (List.mem_append_left _ h)
      · have : p = (a, (⟨1, []⟩ : Fo)) := by simpa using h
        subst this
        exact hp (a, (⟨0, []⟩ : Fo)) (List.mem_append_right _ List.mem_cons_self)
    · rcases List.mem_append.1 hp with h | h
      · exact hr p (List.mem_append_left _ h)
      · have : p = (a, (⟨0, []⟩ : Fo)) := by simpa using h
        subst this
        obtain ⟨v, h1, a1, cap, h2, h3, h4, _⟩ := hr (a, (⟨1, []⟩ : Fo)) (List.mem_append_right _ List.mem_cons_self)
        exact ⟨v, h1, a1, cap, h2, h3, h4, fun i hi => absurd hi (by simp)⟩
/-- The rows within a row's elements. -/
def kidC (G d : Nat) : Nat → List (St (d + 1)) → List Pd
  | _, [] => []
  | i, t :: l => ((G, i * 11 + 10), ⟨d, t.2⟩) :: kidC G d (i + 1) l
theorem kid_mem {G : Nat} : ∀ {i d : Nat} {l : List (St (d + 1))} {p : Pd}, p ∈ kidC G d i l → ∃ (j : Nat) (hj : j < l.length), p = ((G, (i + j) * 11 + 10), ⟨d, l[j].2⟩)
  | i, d, [], p, h => by cases h
  | i, d, t :: l, p, h => by
    rcases List.mem_cons.1 h with rfl | h
    · exact ⟨0, by simp, rfl⟩
    · obtain ⟨j, hj, rfl⟩ := kid_mem h
      exact ⟨j + 1, by simpa using hj, by rw [show i + 1 + j = i + (j + 1) by omega]; rfl⟩
theorem kid_of {G : Nat} : ∀ {i d : Nat} {l : List (St (d + 1))} (j : Nat) (hj : j < l.length), (((G, (i + j) * 11 + 10), ⟨d, l[j].2⟩) : Pd) ∈ kidC G d i l
  | i, d, [], j, hj => by simp at hj
  | i, d, t :: l, 0, _ => List.mem_cons_self
  | i, d, t :: l, j + 1, hj => by
    have := kid_of (G := G) (i := i + 1) (d := d) (l := l) j (by simpa using hj)
    rw [show i + 1 + j = i + (j + 1) by omega] at this
    exact List.mem_cons_of_mem _ this
theorem kid_len {G : Nat} : ∀ (i d : Nat) (l : List (St (d + 1))), (kidC G d i l).length = l.length
  | i, d, [] => rfl
  | i, d, t :: l => congrArg (· + 1) (kid_len (i + 1) d l)
theorem kid_get {G : Nat} : ∀ (i d : Nat) (l : List (St (d + 1))) (j : Nat) (hj : j < l.length) (hj' : j < (kidC G d i l).length), (kidC G d i l)[j] = (((G, (i + j) * 11 + 10), ⟨d, l[j].2⟩) : Pd)
  | i, d, [], j, hj, _ => by simp at hj
  | i, d, t :: l, 0, _, _ => rfl
  | i, d, t :: l, j + 1, hj, hj' => by
    have := kid_get (G := G) (i + 1) d l j (by simpa using hj) (by rw [kid_len]; simpa using hj)
    rw [show i + 1 + j = i + (j + 1) by omega] at this
    exact this
/-- One row stripped by itself, and put in its place. -/
theorem Wnd.step {B : Nat} {X : Nat → Prop} {P : List Pd} {p : Pd} {w w1 : World} {R : World → Prop} {d : Nat} {l : List (St (d + 1))} {okO : Nat → Prop} {wO : World} (hp : p.2 = ⟨d + 1, l⟩) (hW : Wnd B X (P ++ [p]) w R) (hX : ∀ b, X b → b < w.heap.size) (hXp : ¬ X p.1.1) (hb : Below w.heap.size w w1) (hB : B ≤ w.heap.size) (pb : p.1.1 < w.heap.size)
    (hnd : ∀ q ∈ P, q.1 ≠ p.1) (hlt : ∀ q ∈ P, q.1.1 < w.heap.size) (hc0 : ∃ v, w.cell? (pdA p) = some v) (hu : RowG w1 w.heap.size 11 l.length (rHf d okO wO) l) (hG : w.heap.size < w1.heap.size) (hm : l.length ≤ maxLen) :
    Wnd B X (P ++ kidC w.heap.size d 0 l) (w1.setCell (pdA p) (.slice (some ⟨w.heap.size, 0, none⟩) l.length l.length)) R := by
  intro w' hA hr
  obtain ⟨u, hu'⟩ : ∃ u, Value.slice (some ⟨w.heap.size, 0, none⟩) l.length l.length = u := ⟨_, rfl⟩
  rw [hu'] at hA
  have hs2 : (w1.setCell (pdA p) u).heap.size = w1.heap.size := by simp
  have hsw := hb.size
  have hA1 := hA.size
  rw [hs2] at hA1
  have hkb : ∀ q ∈ kidC w.heap.size d 0 l, q.1.1 = w.heap.size := fun q hq => by
    obtain ⟨j, hj, rfl⟩ := kid_mem hq
    rfl
  have nofar : ∀ b o, b < w.heap.size → ¬ X b → (∀ q ∈ P ++ [p], q.1 ≠ (b, o)) → w'.cell? ⟨b, o, none⟩ = w.cell? ⟨b, o, none⟩ := fun b o hl hn hq => by
    have h1 := hA.cell b o (by rw [hs2]; omega) hn (fun q hq' => by
      rcases List.mem_append.1 hq' with h | h
      · exact hq q (List.mem_append_left _ h)
      · intro e
        have := hkb q h
        rw [e] at this
        have : b = w.heap.size := this
        omega)
    rw [h1]
    have hne : p.1 ≠ (b, o) := hq p (List.mem_append_right _ List.mem_cons_self)
    have h2 : (w1.setCell (pdA p) u).cell? ⟨b, o, none⟩ = w1.cell? ⟨b, o, none⟩ := World.cell?_setCell_other w1 (pdA p) ⟨b, o, none⟩ u (fun e => hne (by
      unfold pdA at e
      simp only [Addr.mk.injEq, and_true] at e
      exact Prod.ext e.1 e.2))
    rw [h2]
    exact hb.cell (p := ⟨b, o, none⟩) hl
  refine hW w' ⟨by omega, fun b hl hn hq => ?_, nofar, fun b o hl hn => ((hA.fz b o (by rw [hs2]; omega) hn).trans (World.frozen?_setCell _ _ _ _)).trans (hb.frozen (p := ⟨b, o, none⟩) hl)⟩ (fun q hq => ?_)
  · have h1 := hA.block b (by rw [hs2]; omega) hn (fun q hq' => by
      rcases List.mem_append.1 hq' with h | h
      · exact hq q (List.mem_append_left _ h)
      · rw [hkb q h]; omega)
    rw [h1, Below.heap_setCell _ _ _ _ (fun e => hq p (List.mem_append_right _ List.mem_cons_self) e.symm)]
    exact hb.block b hl
  · rcases List.mem_append.1 hq with h | h
    · exact hr q (List.mem_append_left _ h)
    · have : q = p := by simpa using h
      subst this
      have hcell : w'.cell? (pdA q) = some u := by
        have h1 := hA.cell q.1.1 q.1.2 (by rw [hs2]; omega) hXp (fun q' hq' => by
          rcases List.mem_append.1 hq' with h | h
          · exact fun e => hnd q' h e
          · intro e
            have := hkb q' h
            rw [e] at this
            have : q.1.1 = w.heap.size := this
            omega)
        show w'.cell? ⟨q.1.1, q.1.2, none⟩ = _
        rw [h1]
        obtain ⟨v, hv⟩ := hc0
        exact cell_same4 ((hb.cell (p := pdA q) pb).trans hv)
      refine ⟨u, hcell, ?_⟩
      rw [hp]
      subst hu'
      refine ⟨some ⟨w.heap.size, 0, none⟩, l.length, by rw [List.length_map], by rw [List.length_map]; exact Nat.le_refl _, hm, fun i hi => ?_⟩
      have hil : i < l.length := by simpa using hi
      obtain ⟨cs, hk, ⟨so, si, rfl, hso, hsi⟩, hcs⟩ := hu.2.1 i hil
      have hkid := hr _ (List.mem_append_right _ (kid_of (G := w.heap.size) (i := 0) i hil))
      obtain ⟨v, hv1, hv2⟩ := hkid
      refine ⟨w.heap.size, 0, hdV (stH l[i].1) so v, rfl, ⟨hB, fun j => ((hA.fz w.heap.size j (by rw [hs2]; exact hG) (fun q => by have := hX _ q; omega)).trans (World.frozen?_setCell _ _ _ _)).trans (hu.2.2 j)⟩, by omega, rfl, ?_, fun j x hx => ?_⟩
      · have e1 : (l.map (stS (d + 1)))[i] = stS (d + 1) l[i] := by simp
        rw [e1]
        refine ⟨so, v, rfl, ?_, hv2⟩
        refine hso.stay kp_on (fun b hb'' hl => hb''.to (by have := hb''.1; omega) ?_)
        have hb' := hb''.1
        have h1 := hA.block b (by rw [hs2]; exact hl) (fun q => by have := hX b q; omega) (fun q' hq' => by
          rcases List.mem_append.1 hq' with h | h
          · have := hlt q' h; omega
          · rw [hkb q' h]; omega)
        rw [h1]
        exact Below.heap_setCell _ _ _ _ (fun e => by have e2 : b = q.1.1 := e; omega)
      · rw [Nat.zero_add]
        by_cases hj : j = 10
        · subst hj
          have : x = v := by
            have : (hdV (stH l[i].1) so v)[10]? = some v := rfl
            rw [this] at hx
            exact (Option.some.inj hx).symm
          subst this
          rw [Nat.zero_add] at hv1
          exact hv1
        · have hj11 : j < 11 := (List.getElem?_eq_some_iff.1 hx).1
          have hx' : (hdV (stH l[i].1) so si)[j]? = some x := by
            rw [← hx]
            match j, hj11, hj with
            | 0, _, _ => rfl
            | 1, _, _ => rfl
            | 2, _, _ => rfl
            | 3, _, _ => rfl
            | 4, _, _ => rfl
            | 5, _, _ => rfl
            | 6, _, _ => rfl
            | 7, _, _ => rfl
            | 8, _, _ => rfl
            | 9, _, _ => rfl
            | 10, _, h => exact absurd rfl h
          have h1 := hA.cell w.heap.size (i * 11 + j) (by rw [hs2]; exact hG) (fun q => by have := hX _ q; omega) (fun q' hq' => by
            rcases List.mem_append.1 hq' with h | h
            · intro e; have := hlt q' h; rw [e] at this; exact absurd this (by simp)
            · obtain ⟨j', hj', rfl⟩ := kid_mem h
              intro e
              have : (0 + j') * 11 + 10 = i * 11 + j := congrArg Prod.snd e
              omega)
          rw [h1, World.cell?_setCell_far _ _ _ _ (by show q.1.1 ≠ w.heap.size; omega)]
          exact hcs j x hx'
/-- How much is left. -/
def szL : (d : Nat) → List (St d) → Nat
  | 0, _ => 1
  | d + 1, l => (l.map (fun t => szL d t.2)).sum + 1
def szF (p : Pd) : Nat := szL p.2.1 p.2.2
theorem szL_pos : ∀ (d : Nat) (l : List (St d)), 1 ≤ szL d l
  | 0, _ => Nat.le_refl _
  | d + 1, l => by
    show 1 ≤ (l.map (fun t => szL d t.2)).sum + 1
    omega
theorem kid_sz {G : Nat} : ∀ (i d : Nat) (l : List (St (d + 1))), ((kidC G d i l).map szF).sum + 1 = szL (d + 1) l
  | i, d, [] => rfl
  | i, d, t :: l => by
    have := kid_sz (G := G) (i + 1) d l
    have e1 : szL (d + 1) l = (l.map (fun t => szL d t.2)).sum + 1 := rfl
    have e2 : szL (d + 1) (t :: l) = (szL d t.2 + (l.map (fun t => szL d t.2)).sum) + 1 := rfl
    have e3 : ((kidC G d i (t :: l)).map szF).sum = szL d t.2 + ((kidC G d (i + 1) l).map szF).sum := rfl
    omega

def StOk : (d : Nat) → St d → Prop
  | 0, t => Empty.elim t
  | d + 1, t => HdOk t.1 ∧ t.2.length ≤ 100000 ∧ ∀ x ∈ t.2, StOk d x
def FoOk (x : Fo) : Prop := x.2.length ≤ 100000 ∧ ∀ t ∈ x.2, StOk x.1 t
def POk (N : Nat) (X : Nat → Prop) (w : World) (p : Pd) : Prop :=
  N ≤ p.1.1 ∧ p.1.1 < w.heap.size ∧ w.frozen? (pdA p) = false ∧ ¬ X p.1.1 ∧ FoOk p.2 ∧ ∃ u, w.cell? (pdA p) = some u ∧ RdK (fun b => b < N) w 11 (rSt p.2.1 (fun b => b < N) w) p.2.2 u
structure PInv (N : Nat) (R : World → Prop) (X : Nat → Prop) (w : World) (v : Value) (P : List Pd) : Prop where
  row : w.ownsRow N 112 1 v P.length (P.map pdV)
  ok : ∀ p ∈ P, POk N X w p
  nd : P.Pairwise (fun a b => a.1 ≠ b.1)
  wnd : Wnd (N + 2) X P w R
  x1 : ∀ b, X b → b < w.heap.size ∧ N ≤ b
  x2 : ∀ g, v.ownBlock = some g → X g
  big : N + 2 ≤ w.heap.size
theorem rowV_pop {w : World} {base e : Nat} {v : Value} {xs : List Value} {x : Value} {n : Nat} (hn : n = xs.length) (h : w.ownsRow base e 1 v (n + 1) (xs ++ [x])) : ∃ g cap, v = .slice (some ⟨g, 0, none⟩) (n + 1) cap ∧ n + 1 ≤ cap ∧ cap ≤ maxLen ∧ base ≤ g ∧ g < w.heap.size ∧
    w.cell? ⟨g, n, none⟩ = some x ∧ w.ownsRow base e 1 (.slice (some ⟨g, 0, none⟩) n cap) n xs := by
  subst hn
  have hc := fun g => World.ownsRow.cells h (g := g)
  rcases h.2 with ⟨_, h2⟩ | ⟨g, cap, cur, rfl, hb, hg, hnc, hcm, hcs, htake⟩
  · omega
  · have h1 := hc g rfl xs.length x (by simp)
    rw [show (⟨g, 0, none⟩ : Addr).add xs.length = ⟨g, xs.length, none⟩ by unfold Addr.add; split <;> simp_all] at h1
    refine ⟨g, cap, rfl, hnc, hcm, hb, (Array.getElem?_eq_some_iff.1 hg).1, h1, by simp, .inr ⟨g, cap, cur, rfl, hb, hg, by omega, hcm, hcs, ?_⟩⟩
    have h3 := congrArg (List.take xs.length) htake
    rw [List.take_take] at h3
    simp only [Nat.mul_one] at h3 ⊢
    rw [Nat.min_eq_left (by omega), List.take_left' (by simp)] at h3
    exact h3
theorem rowV_nil {w : World} {base e : Nat} {v : Value} (h : w.ownsRow base e 1 v 0 []) : ∃ a cap, v = .slice a 0 cap := by
  rcases h.2 with ⟨h1, _⟩ | ⟨g, cap, cur, rfl, _⟩
  · exact ⟨_, _, h1⟩
  · exact ⟨_, _, rfl⟩
/-- The last one, an empty row, as one at depth 1. -/
theorem PInv.deep {N : Nat} {R : World → Prop} {X : Nat → Prop} {w : World} {v : Value} {P : List Pd} {p : Pd} (h : PInv N R X w v (P ++ [p])) : ∃ (d : Nat) (l : List (St (d + 1))), PInv N R X w v (P ++ [(p.1, ⟨d + 1, l⟩)]) ∧ szF p = szL (d + 1) l := by
  obtain ⟨a, d, l⟩ := p
  cases d with
  | succ d => exact ⟨d, l, h, rfl⟩
  | zero =>
    cases l with
    | cons x _ => exact Empty.elim x
    | nil =>
      refine ⟨0, [], ⟨?_, fun q hq => ?_, ?_, h.wnd.zero, h.x1, h.x2, h.big⟩, rfl⟩
      · have := h.row
        rw [List.map_append, List.length_append] at this ⊢
        exact this
      · rcases List.mem_append.1 hq with hq | hq
        · exact h.ok q (List.mem_append_left _ hq)
        · have e : q = (a, (⟨1, []⟩ : Fo)) := by simpa using hq
          subst e
          obtain ⟨h1, h2, h3, h4, h5, u, h6, a1, cap, h7, h8, h9, _⟩ := h.ok (a, (⟨0, []⟩ : Fo)) (List.mem_append_right _ List.mem_cons_self)
          exact ⟨h1, h2, h3, h4, ⟨by simp, fun t ht => by cases ht⟩, u, h6, a1, cap, h7, h8, h9, fun i hi => absurd hi (by simp)⟩
      · have := h.nd
        rw [List.pairwise_append] at this ⊢
        refine ⟨this.1, List.pairwise_singleton _ _, fun x hx y hy => ?_⟩
        have e : y = (a, (⟨1, []⟩ : Fo)) := by simpa using hy
        subst e
        exact this.2.2 x hx (a, (⟨0, []⟩ : Fo)) List.mem_cons_self
theorem szF_len : ∀ P : List Pd, P.length ≤ (P.map szF).sum
  | [] => by simp
  | p :: P => by
    have := szF_len P
    have := szL_pos p.2.1 p.2.2
    show P.length + 1 ≤ szL p.2.1 p.2.2 + (P.map szF).sum
    omega
theorem kid_pair {G d : Nat} : ∀ (i : Nat) (l : List (St (d + 1))), (kidC G d i l).Pairwise (fun a b => a.1 ≠ b.1)
  | i, [] => List.Pairwise.nil
  | i, t :: l => by
    refine List.Pairwise.cons (fun q hq => ?_) (kid_pair (i + 1) l)
    obtain ⟨j, hj, rfl⟩ := kid_mem hq
    intro e
    have : i * 11 + 10 = (i + 1 + j) * 11 + 10 := congrArg Prod.snd e
    omega
theorem PInv.step {N : Nat} {R : World → Prop} {X : Nat → Prop} {w w1 w2 : World} {v v2 : Value} {P : List Pd} {a : Nat × Nat} {d : Nat} {l : List (St (d + 1))} {g : Nat} (h : PInv N R X w v (P ++ [(a, ⟨d + 1, l⟩)])) (hb : Below w.heap.size w w1) (hu : RowG w1 w.heap.size 11 l.length (rHf d (fun b => b < N) w) l) (hG : w.heap.size < w1.heap.size) (hv : v.ownBlock = some g)
    (hrow : w2.ownsRow N 112 1 v2 (P ++ kidC w.heap.size d 0 l).length ((P ++ kidC w.heap.size d 0 l).map pdV)) (hgr : (w1.setCell ⟨a.1, a.2, none⟩ (.slice (some ⟨w.heap.size, 0, none⟩) l.length l.length)).grownBy w2 (some g)) (hl2 : ∀ g', v2.ownBlock = some g' → g = g' ∨ w1.heap.size ≤ g') (hl3 : ∀ g', v2.ownBlock = some g' → g' < w2.heap.size) :
    PInv N R (fun b => X b ∨ v2.ownBlock = some b) w2 v2 (P ++ kidC w.heap.size d 0 l) := by
  have hN := h.big
  obtain ⟨U, hU⟩ : ∃ U, Value.slice (some ⟨w.heap.size, 0, none⟩) l.length l.length = U := ⟨_, rfl⟩
  rw [hU] at hgr
  have hs1 : (w1.setCell ⟨a.1, a.2, none⟩ U).heap.size = w1.heap.size := by simp
  have hXg := h.x2 g hv
  obtain ⟨g1, g2⟩ := h.x1 g hXg
  have hpo := h.ok (a, ⟨d + 1, l⟩) (List.mem_append_right _ List.mem_cons_self)
  obtain ⟨p1, p2, p3, p4, p5, u0, p6, p7⟩ := hpo
  have p1 : N ≤ a.1 := p1
  have p2 : a.1 < w.heap.size := p2
  have p4 : ¬ X a.1 := p4
  have hag : a.1 ≠ g := fun e => p4 (e ▸ hXg)
  have hsw := hb.size
  have hgs := hgr.size
  rw [hs1] at hgs
  have far : ∀ b, b < w1.heap.size → b ≠ g → w2.heap[b]? = (w1.setCell ⟨a.1, a.2, none⟩ U).heap[b]? := fun b hl hn => hgr.block b (by rw [hs1]; exact hl) (fun e => hn (Option.some.inj e))
  have far2 : ∀ b, b < w1.heap.size → b ≠ g → b ≠ a.1 → w2.heap[b]? = w1.heap[b]? := fun b hl hn hn2 => (far b hl hn).trans (Below.heap_setCell _ _ _ _ (fun e => hn2 e))
  have far3 : ∀ b, b < w.heap.size → b ≠ g → b ≠ a.1 → w2.heap[b]? = w.heap[b]? := fun b hl hn hn2 => (far2 b (by omega) hn hn2).trans (hb.block b hl)
  have low : ∀ b, b < N → b < w.heap.size → b < N ∧ w2.heap[b]? = w.heap[b]? := fun b hbN hl => ⟨hbN, far3 b hl (by omega) (by omega)⟩
  have hnd := List.pairwise_append.1 h.nd
  have hne : ∀ q ∈ P, q.1 ≠ a := fun q hq => hnd.2.2 q hq (a, ⟨d + 1, l⟩) List.mem_cons_self
  have nX : ∀ b, b < w1.heap.size → ¬ X b → ¬ (X b ∨ v2.ownBlock = some b) := fun b hl hn q => by
    rcases q with q | q
    · exact hn q
    · rcases hl2 b q with e | e
      · exact hn (e ▸ hXg)
      · omega
  refine ⟨hrow, fun q hq => ?_, ?_, ?_, fun b q => ?_, fun g' hg' => .inr hg', by omega⟩
  · rcases List.mem_append.1 hq with hq | hq
    · obtain ⟨q1, q2, q3, q4, q5, u, q6, q7⟩ := h.ok q (List.mem_append_left _ hq)
      have hqg : q.1.1 ≠ g := fun e => q4 (e ▸ hXg)
      have hblk := far q.1.1 (by omega) hqg
      have hne2 : (⟨a.1, a.2, none⟩ : Addr) ≠ pdA q := fun e => hne q hq (by
        unfold pdA at e
        simp only [Addr.mk.injEq, and_true] at e
        exact Prod.ext e.1.symm e.2.symm)
      refine ⟨q1, by omega, ?_, nX _ (by omega) q4, q5, u, ?_, q7.stay (kp_st _) low⟩
      · rw [show pdA q = ⟨q.1.1, q.1.2, none⟩ from rfl] at q3 ⊢
        rw [frozen_of_block hblk, World.frozen?_setCell, hb.frozen (p := ⟨q.1.1, q.1.2, none⟩) q2]
        exact q3
      · rw [World.cell?_of_block (w := w1.setCell ⟨a.1, a.2, none⟩ U) (a := pdA q) hblk, World.cell?_setCell_other w1 _ _ U hne2, hb.cell (p := pdA q) q2]
        exact q6
    · obtain ⟨j, hj, rfl⟩ := kid_mem hq
      obtain ⟨cs, hk, ⟨so, si, rfl, hso, hsi⟩, hcs⟩ := hu.2.1 j hj
      have hGg : w.heap.size ≠ g := by omega
      have hblk := far2 w.heap.size hG hGg (by omega)
      have hc10 := hcs 10 si rfl
      have hfr := (hu.1 (j * 11 + 10) (mul_in hj (by omega))).2
      refine ⟨by show N ≤ w.heap.size; omega, by show w.heap.size < _; omega, ?_, nX _ hG (fun q => absurd (show w.heap.size < w.heap.size from (h.x1 _ q).1) (Nat.lt_irrefl _)), ⟨(p5.2 _ (List.getElem_mem hj)).2.1, (p5.2 _ (List.getElem_mem hj)).2.2⟩, si, ?_, hsi.stay (kp_st d) low⟩
      · show w2.frozen? ⟨w.heap.size, (0 + j) * 11 + 10, none⟩ = false
        rw [Nat.zero_add, frozen_of_block hblk]
        exact hfr
      · show w2.cell? ⟨w.heap.size, (0 + j) * 11 + 10, none⟩ = some si
        rw [Nat.zero_add, World.cell?_of_block (w := w1) (a := ⟨w.heap.size, j * 11 + 10, none⟩) hblk]
        exact hc10
  · rw [List.pairwise_append]
    refine ⟨hnd.1, kid_pair 0 l, fun q hq k hk => ?_⟩
    obtain ⟨j, hj, rfl⟩ := kid_mem hk
    intro e
    have h1 := (h.ok q (List.mem_append_left _ hq)).2.1
    rw [e] at h1
    exact absurd h1 (by simp)
  · have hst := Wnd.step (p := (a, ⟨d + 1, l⟩)) rfl h.wnd (fun b q => (h.x1 b q).1) p4 hb hN p2 (fun q hq => hne q hq) (fun q hq => (h.ok q (List.mem_append_left _ hq)).2.1) ⟨u0, p6⟩ hu hG (by unfold maxLen; have := p5.1; simp only at this; omega)
    rw [hU] at hst
    refine hst.move (by show (w1.setCell ⟨a.1, a.2, none⟩ U).heap.size ≤ _; rw [hs1]; exact hgs) (fun b q => ?_) (fun b hl hn => ?_)
    · rcases q with q | q
      · exact .inl q
      · rcases hl2 b q with e | e
        · exact .inl (e ▸ hXg)
        · right
          show (w1.setCell ⟨a.1, a.2, none⟩ U).heap.size ≤ b
          rw [hs1]; exact e
    · have hl' : b < w1.heap.size := by
        have : b < (w1.setCell ⟨a.1, a.2, none⟩ U).heap.size := hl
        rw [hs1] at this; exact this
      exact far b hl' (fun e => hn (e ▸ hXg))
  · rcases q with q | q
    · have := h.x1 b q
      exact ⟨by omega, this.2⟩
    · refine ⟨hl3 b q, ?_⟩
      rcases hl2 b q with e | e
      · omega
      · omega

def cS (ls : List ByteArray) : List Value := ls.map .string
/-- The slice v, made by calls of ours, holds the texts ls. -/
def RdS (w : World) (v : Value) (ls : List ByteArray) : Prop := w.ownsRow 0 9 1 v ls.length (cS ls)
theorem RdS.below {w w' : World} {v : Value} {ls : List ByteArray} {B : Nat} (h : RdS w v ls) (hb : Below B w w') (hB : w.heap.size ≤ B) : RdS w' v ls := by
  refine ⟨h.1, ?_⟩
  rcases h.2 with hn | ⟨g, cap, cur, rfl, hbg, hg, rest⟩
  · exact .inl hn
  · exact .inr ⟨g, cap, cur, rfl, hbg, by rw [hb.block g (by have := (Array.getElem?_eq_some_iff.1 hg).1; omega)]; exact hg, rest⟩
theorem RdS.form {w : World} {v : Value} {ls : List ByteArray} (h : RdS w v ls) : (v = .slice none 0 0 ∧ ls = []) ∨ ∃ g cap, v = .slice (some ⟨g, 0, none⟩) ls.length cap ∧ ls.length ≤ cap ∧ cap ≤ maxLen ∧ ∀ (i : Nat) (hi : i < ls.length), w.cell? ⟨g, i, none⟩ = some (.string ls[i]) := by
  rcases h.2 with ⟨h1, h2⟩ | ⟨g, cap, cur, rfl, hb, hg, hnc, hcm, _⟩
  · exact .inl ⟨h1, List.eq_nil_of_length_eq_zero h2⟩
  · refine .inr ⟨g, cap, rfl, hnc, hcm, fun i hi => ?_⟩
    have h1 := World.ownsRow.cells h (g := g) rfl i (.string ls[i]) (by simp [cS, hi])
    have hp : (⟨g, 0, none⟩ : Addr).add i = ⟨g, i, none⟩ := by unfold Addr.add; split <;> simp_all
    rw [hp] at h1
    exact h1


abbrev Bs := List UInt8
def Up (l : List Bs) : Prop := l.Pairwise (· < ·)
end Go.Proofs.Ytoankfbccofllaa

/- Nothing of it is needed here. -/
namespace Go.Proofs.Ytoankfbccofllaa
end Go.Proofs.Ytoankfbccofllaa

/- What the program's addNames and Refs do. -/
namespace Go.Proofs.Ytoankfbccofllaa
open Go.RowKit Go.Lib
set_option linter.unusedSimpArgs false
set_option linter.unusedVariables false
attribute [local go_sem ↓] Go.wp_at_zero Go.wp_at_succ

/-- Nothing has turned but the row of v, and new blocks; the row is where it was, or new. -/
structure Fr (w w' : World) (v u : Value) : Prop where
  grown : w.grownBy w' v.ownBlock
  lies : ∀ g, u.ownBlock = some g → v.ownBlock = some g ∨ w.heap.size ≤ g
theorem Fr.of {w w' : World} {B : Nat} (h : Below B w w') (hB : w.heap.size ≤ B) (v : Value) : Fr w w' v v := ⟨⟨h.os, h.tape, h.output, h.size, fun k hk _ => h.block k (by omega)⟩, fun g hg => .inl hg⟩
theorem Fr.trans {w w1 w2 : World} {v u t : Value} (h : Fr w w1 v u) (k : Fr w1 w2 u t) : Fr w w2 v t := by
  refine ⟨⟨k.grown.os.trans h.grown.os, k.grown.tape.trans h.grown.tape, k.grown.output.trans h.grown.output, Nat.le_trans h.grown.size k.grown.size, fun j hj hne => ?_⟩, fun g hg => ?_⟩
  · rw [k.grown.block j (Nat.lt_of_lt_of_le hj h.grown.size) (fun e => ?_), h.grown.block j hj hne]
    rcases h.lies j e.symm with q | q
    · exact hne q.symm
    · omega
  · rcases k.lies g hg with q | q
    · exact h.lies g q
    · exact .inr (Nat.le_trans h.grown.size q)
theorem Fr.below {w w' : World} {v u : Value} {B : Nat} (h : Fr w w' v u) (hB : B ≤ w.heap.size) (hv : ∀ g, v.ownBlock = some g → B ≤ g) : Below B w w' := (Below.refl B w).grown h.grown hB (fun k hk => hv k hk)

theorem Try.infoPS : (Try.prog.info? 112).map (fun i => (i.zero, i.size, i.bytes)) = some (some (.pointer none), 1, 8) := by kernel_rfl
theorem cstr_res {w4 : World} {R : Nat} {a b c d e f : Value} {tmps : Array Value} (hR : Bn w4 R [a, b, c, d, e, f]) (ht : tmps.getD 2 undef = .pointer (some ⟨R, 0, none⟩)) : (results Try.f33 tmps).run Try.prog w4 = .ok (.agg #[a, b, c, d, e, f]) w4 := by
  have ht' : tmps[2]?.getD undef = .pointer (some ⟨R, 0, none⟩) := by simpa using ht
  have c0 := (hR 0 _ rfl).1
  have c1 := (hR 1 _ rfl).1
  have c2 := (hR 2 _ rfl).1
  have c3 := (hR 3 _ rfl).1
  have c4 := (hR 4 _ rfl).1
  have c5 := (hR 5 _ rfl).1
  simp [results, Try.results33, go_sem, ht', c0, c1, c2, c3, c4, c5]
theorem own_formP {w : World} {base e size : Nat} {v : Value} {n : Nat} {xs : List Value} (h : w.ownsRow base e size v n xs) : ∃ a cap, v = .slice a n cap ∧ n ≤ cap ∧ cap ≤ maxLen := by
  rcases h.2 with ⟨h1, h2⟩ | ⟨g, cap, cur, h1, _, _, h3, h4, _⟩
  · exact ⟨none, 0, by rw [h1, h2], by omega, by simp [maxLen]⟩
  · exact ⟨_, _, h1, h3, h4⟩
def stG (d : Nat) (c : ChG d) : ChG d := ((c.1.1, (0, 0)), c.2.1, c.2.2.1.map spV, c.2.2.2.map (stS d))
theorem last_ofP {α : Type} {l : List α} (h : l ≠ []) : ∃ l' x, l = l' ++ [x] := ⟨l.dropLast, l.getLast h, (List.dropLast_concat_getLast h).symm⟩
structure ChOk (d : Nat) (c : ChG d) : Prop where
  nm : c.1.1.length ≤ 140737488351232
  vl : c.2.2.1.length ≤ 100000
  vn : ∀ x ∈ c.2.2.1, x.1.length ≤ 140737488351232
  fo : FoOk ⟨d, c.2.2.2⟩
  sz : szL d c.2.2.2 ≤ 1000000
/-- What there is when all is stripped. -/
def RStr (N d : Nat) (c : ChG d) (nm : ByteArray) (vn : Int) (u1 : Option Addr) (n u3 : Nat) (w' : World) : Prop :=
  (∀ j u, [.string nm, .int .i64 vn, .int .i64 0, .int .i64 0, .slice u1 n u3][j]? = some u → w'.cell? ⟨N, j, none⟩ = some u) ∧ (∃ s5, w'.cell? ⟨N, 5, none⟩ = some s5 ∧ RdSp (N + 2) w' ⟨d, c.2.2.2⟩ s5) ∧ RdK (Nw (N + 2) w') w' 4 (rVar (Nw (N + 2) w') w') (c.2.2.1.map spV) (.slice u1 n u3) ∧ Bn w' (N + 1) [.string ⟨#[]⟩, .int .i64 0, .int .i64 0, .int .i64 0, .slice none 0 0, .slice none 0 0]
theorem strip_start {N d : Nat} {c : ChG d} {nm : ByteArray} {vn : Int} {u1 : Option Addr} {n u3 : Nat} {w7 : World} {s5 : Value} (hX : Bn w7 N [.string nm, .int .i64 vn, .int .i64 0, .int .i64 0, .slice u1 n u3, s5]) (hR : Bn w7 (N + 1) [.string ⟨#[]⟩, .int .i64 0, .int .i64 0, .int .i64 0, .slice none 0 0, .slice none 0 0]) (hr : RdK (Nw (N + 2) w7) w7 4 (rVar (Nw (N + 2) w7) w7) (c.2.2.1.map spV) (.slice u1 n u3)) (hs : RdK (fun b => b < N) w7 11 (rSt d (fun b => b < N) w7) c.2.2.2 s5) (hf : FoOk ⟨d, c.2.2.2⟩) (hN : N + 2 ≤ w7.heap.size) :
    PInv N (RStr N d c nm vn u1 n u3) (fun b => b = w7.heap.size) (w7.alloc (.cells #[.pointer (some ⟨N, 5, none⟩)] 112)) (.slice (some ⟨w7.heap.size, 0, none⟩) 1 1) [((N, 5), ⟨d, c.2.2.2⟩)] := by
  have hal := (Below.refl w7.heap.size w7).alloc (Nat.le_refl _) (.cells #[.pointer (some ⟨N, 5, none⟩)] 112)
  have hX8 := hX.on hal
  have hR8 := hR.on hal
  have hsz : (w7.alloc (.cells #[.pointer (some ⟨N, 5, none⟩)] 112)).heap.size = w7.heap.size + 1 := by simp
  have hrow := World.ownsRow_lit (e := 112) (base := N) (size := 1) w7 #[.pointer (some ⟨N, 5, none⟩)] 1 (by omega) (by simp [maxLen]) (by simp)
  have hr8 := hr.stay kp_var (ok' := fun b => Nw (N + 2) (w7.alloc (.cells #[.pointer (some ⟨N, 5, none⟩)] 112)) b ∧ b < w7.heap.size) (w' := w7.alloc (.cells #[.pointer (some ⟨N, 5, none⟩)] 112)) (fun b hb hl => ⟨⟨(hb.to hb.1 (hal.block b hl)).1, hl⟩, hal.block b hl⟩)
  have hs8 := hs.stay (kp_st d) (ok' := fun b => b < N) (w' := w7.alloc (.cells #[.pointer (some ⟨N, 5, none⟩)] 112)) (fun b hb hl => ⟨hb, hal.block b hl⟩)
  generalize w7.alloc (.cells #[.pointer (some ⟨N, 5, none⟩)] 112) = w8 at *
  refine ⟨by simpa [pdV, pdA] using hrow, fun p hp => ?_, List.pairwise_singleton _ _, fun w' hA hrd => ?_, fun b hb => ?_, fun g hg => ?_, by omega⟩
  · have : p = ((N, 5), ⟨d, c.2.2.2⟩) := by simpa using hp
    subst this
    obtain ⟨c5, f5⟩ := hX8 5 _ rfl
    exact ⟨Nat.le_refl _, by show N < _; omega, f5, by show ¬ N = _; omega, hf, s5, c5, hs8⟩
  · obtain ⟨v, h1, h2⟩ := hrd _ List.mem_cons_self
    refine ⟨fun j u hu => ?_, ⟨v, h1, h2⟩, hr8.stay kp_var (fun b hb hl => hb.1.to hb.1.1 (hA.block b hl (by show ¬ b = _; omega) (fun p hp => by
      have : p = ((N, 5), ⟨d, c.2.2.2⟩) := by simpa using hp
      subst this
      show N ≠ b
      have := hb.1.1
      omega))), hR8.blk (hA.block _ (by omega) (by show ¬ N + 1 = _; omega) (fun p hp => by
      have : p = ((N, 5), ⟨d, c.2.2.2⟩) := by simpa using hp
      subst this
      show N ≠ N + 1
      omega))⟩
    have hj : j < 5 := (List.getElem?_eq_some_iff.1 hu).1
    rw [hA.cell N j (by omega) (by show ¬ N = _; omega) (fun p hp => by
      have : p = ((N, 5), ⟨d, c.2.2.2⟩) := by simpa using hp
      subst this
      intro e
      have : 5 = j := congrArg Prod.snd e
      omega)]
    refine (hX8 j u ?_).1
    match j, hj with
    | 0, _ => exact hu
    | 1, _ => exact hu
    | 2, _ => exact hu
    | 3, _ => exact hu
    | 4, _ => exact hu
  · have : b = w7.heap.size := hb
    omega
  · simp only [Value.ownBlock, Option.some.injEq] at hg
    exact hg.symm
set_option maxRecDepth 100000 in
set_option maxHeartbeats 16000000 in
theorem strip_nw {ok : Nat → Prop} {w : World} {d : Nat} {c : ChG d} {v : Value} (h : RdC ok w d c v) (hok : ChOk d c) :
    Calls Try.prog 33 #[v] w fun e w' => ∃ u, e = .returned u ∧ RdC (Nw w.heap.size w') w' d (stG d c) u ∧ Below w.heap.size w w' := by
  obtain ⟨ip, hip, hip0, hip1, hip2⟩ := info_parts Try.infoPS
  obtain ⟨sv, ss, rfl, hv, hs⟩ := h
  obtain ⟨a, cap, rfl, hlc, hcm⟩ := hv.form
  obtain ⟨p4, p6, rfl, _⟩ := hs.form
  have HV := mkHid hv
  have HS := mkHid hs
  obtain ⟨nm, hnm⟩ : ∃ nv : ByteArray, ⟨c.1.1.toArray⟩ = nv := ⟨_, rfl⟩
  have hz1 : nm.size ≤ 140737488351232 := by rw [← hnm]; show c.1.1.toArray.size ≤ _; simpa using hok.nm
  obtain ⟨n, hn⟩ : ∃ n, c.2.2.1.length = n := ⟨_, rfl⟩
  obtain ⟨i, hi⟩ : ∃ n, c.2.2.2.length = n := ⟨_, rfl⟩
  obtain ⟨vn, hvn⟩ : ∃ x, c.2.1 = x := ⟨_, rfl⟩
  obtain ⟨ln, hln⟩ : ∃ x, c.1.2.1 = x := ⟨_, rfl⟩
  obtain ⟨co, hco⟩ : ∃ x, c.1.2.2 = x := ⟨_, rfl⟩
  rw [show sV c.1.1 = .string nm from by unfold sV; rw [hnm], hvn, hln, hco, hi, hn]
  rw [hi] at HS
  rw [hn] at HV
  have HOK := mkHid hok
  have HN : Hid (c.2.2.1.length = n) := hn
  have HE : Hid (∀ (w' : World) (u1 : Option Addr) (u3 : Nat) (s5 : Value), RdK (Nw w.heap.size w') w' 4 (rVar (Nw w.heap.size w') w') (c.2.2.1.map spV) (.slice u1 n u3) → RdSp w.heap.size w' ⟨d, c.2.2.2⟩ s5 → RdC (Nw w.heap.size w') w' d (stG d c) (.agg #[.string nm, .int .i64 vn, .int .i64 0, .int .i64 0, .slice u1 n u3, s5])) := by
    intro w' u1 u3 s5 h1 h2
    refine ⟨_, _, ?_, h1, h2⟩
    show _ = Value.agg #[sV c.1.1, .int .i64 c.2.1, .int .i64 0, .int .i64 0, _, _]
    rw [show sV c.1.1 = .string nm from by unfold sV; rw [hnm], hvn]
  clear hv hs hok hnm hn hi hvn hln hco hcm hlc
  have g1 := fun w1 => pClone_any nm w1 hz1
  have hal : Below w.heap.size w ((w.alloc (.cells #[.string nm, .int .i64 vn, .int .i64 ln, .int .i64 co, .slice a n cap, .slice p4 i p6] 37)).alloc (.cells #[.string ⟨#[]⟩, .int .i64 0, .int .i64 0, .int .i64 0, .slice none 0 0, .slice none 0 0] 37)) := ((Below.refl w.heap.size w).alloc (Nat.le_refl _) _).alloc (by simp) _
  have hX : Bn ((w.alloc (.cells #[.string nm, .int .i64 vn, .int .i64 ln, .int .i64 co, .slice a n cap, .slice p4 i p6] 37)).alloc (.cells #[.string ⟨#[]⟩, .int .i64 0, .int .i64 0, .int .i64 0, .slice none 0 0, .slice none 0 0] 37)) w.heap.size [.string nm, .int .i64 vn, .int .i64 ln, .int .i64 co, .slice a n cap, .slice p4 i p6] := (Bn.new w [.string nm, .int .i64 vn, .int .i64 ln, .int .i64 co, .slice a n cap, .slice p4 i p6] 37 _ rfl).on ((Below.refl _ _).alloc (Nat.le_refl _) _)
  have hR : Bn ((w.alloc (.cells #[.string nm, .int .i64 vn, .int .i64 ln, .int .i64 co, .slice a n cap, .slice p4 i p6] 37)).alloc (.cells #[.string ⟨#[]⟩, .int .i64 0, .int .i64 0, .int .i64 0, .slice none 0 0, .slice none 0 0] 37)) (w.heap.size + 1) [.string ⟨#[]⟩, .int .i64 0, .int .i64 0, .int .i64 0, .slice none 0 0, .slice none 0 0] := Bn.new (w.alloc (.cells #[.string nm, .int .i64 vn, .int .i64 ln, .int .i64 co, .slice a n cap, .slice p4 i p6] 37)) [.string ⟨#[]⟩, .int .i64 0, .int .i64 0, .int .i64 0, .slice none 0 0, .slice none 0 0] 37 _ (by simp)
  have hsz : w.heap.size + 2 ≤ ((w.alloc (.cells #[.string nm, .int .i64 vn, .int .i64 ln, .int .i64 co, .slice a n cap, .slice p4 i p6] 37)).alloc (.cells #[.string ⟨#[]⟩, .int .i64 0, .int .i64 0, .int .i64 0, .slice none 0 0, .slice none 0 0] 37)).heap.size := by simp
  go_enter Try.func33, Try.ntmps33
  go_upto_region 1 with fail
  generalize ((w.alloc (.cells #[.string nm, .int .i64 vn, .int .i64 ln, .int .i64 co, .slice a n cap, .slice p4 i p6] 37)).alloc (.cells #[.string ⟨#[]⟩, .int .i64 0, .int .i64 0, .int .i64 0, .slice none 0 0, .slice none 0 0] 37)) = wx at *
  obtain ⟨c0, e0⟩ := hX 0 _ rfl
  go_upto_region 2 with (first
    | (go_at_call 19; refine (g1 _).mono ?_; rintro e w1 ⟨rfl, b1⟩; have hX1 := hX.on b1; obtain ⟨x0, y0⟩ := hX1 0 _ rfl))
  have hX2 := hX1.set (i := 0) (by simp) (.string nm)
  have hR2 := (hR.on b1).far (X := w.heap.size) (i := 0) (by omega) (.string nm)
  have hB2 : Below w.heap.size w (w1.setCell ⟨w.heap.size, 0, none⟩ (.string nm)) := (hal.trans (b1.mono (by omega))).setCell (Nat.le_refl _) _
  have hs2 : w.heap.size + 2 ≤ (w1.setCell ⟨w.heap.size, 0, none⟩ (.string nm)).heap.size := by simpa using Nat.le_trans hsz b1.size
  clear hX hR hX1 x0 y0 c0 e0 b1 hal hsz g1
  generalize w1.setCell ⟨w.heap.size, 0, none⟩ (.string nm) = w2 at *
  obtain ⟨a1, q1⟩ := hX2 2 _ rfl
  obtain ⟨a2, q2⟩ := hX2 3 _ rfl
  go_upto_region 3 with fail
  have hX3 := (hX2.set (i := 2) (by simp) (.int .i64 0)).set (i := 3) (by simp) (.int .i64 0)
  have hR3 := (hR2.far (X := w.heap.size) (i := 2) (by omega) (.int .i64 0)).far (X := w.heap.size) (i := 3) (by omega) (.int .i64 0)
  have hB3 : Below w.heap.size w ((w2.setCell ⟨w.heap.size, 2, none⟩ (.int .i64 0)).setCell ⟨w.heap.size, 3, none⟩ (.int .i64 0)) := (hB2.setCell (p := ⟨w.heap.size, 2, none⟩) (Nat.le_refl _) _).setCell (p := ⟨w.heap.size, 3, none⟩) (Nat.le_refl _) _
  have hs3 : w.heap.size + 2 ≤ ((w2.setCell ⟨w.heap.size, 2, none⟩ (.int .i64 0)).setCell ⟨w.heap.size, 3, none⟩ (.int .i64 0)).heap.size := by simpa using hs2
  clear hX2 hR2 hB2 hs2 a1 q1 a2 q2
  generalize (w2.setCell ⟨w.heap.size, 2, none⟩ (.int .i64 0)).setCell ⟨w.heap.size, 3, none⟩ (.int .i64 0) = w3 at *
  have hE : Calls Try.prog 37 #[.slice a n cap, .func (.func 38) #[] #[]] w3 fun e w' => ∃ u1 u3, e = .returned (.slice u1 n u3) ∧ RdK (Nw w3.heap.size w') w' 4 (rVar (Nw w3.heap.size w') w') (c.2.2.1.map spV) (.slice u1 n u3) ∧ Below w3.heap.size w3 w' := by
    refine (eachVar_any (HV.out.stay kp_var (ok' := ok) (w' := w3) (fun b hb hl => ⟨hb, hB3.block b hl⟩)) HOK.out.vl HOK.out.vn).mono ?_
    rintro e w' ⟨u, h1, h2, h3⟩
    obtain ⟨u1, u3, rfl, _⟩ := h2.form
    rw [List.length_map, HN.out] at h1 h2
    exact ⟨u1, u3, h1, h2, h3⟩
  obtain ⟨c4, e4⟩ := hX3 4 _ rfl
  go_upto_region 4 with (first
    | (go_at_call 37; refine hE.mono ?_; rintro e w4 ⟨u1, u3, rfl, hr, b4⟩; have hX4 := hX3.on b4; obtain ⟨x4, y4⟩ := hX4 4 _ rfl))
  have hX5 : Bn (w4.setCell ⟨w.heap.size, 4, none⟩ (.slice u1 n u3)) w.heap.size [.string nm, .int .i64 vn, .int .i64 0, .int .i64 0, .slice u1 n u3, .slice p4 i p6] := hX4.set (i := 4) (by simp) (.slice u1 n u3)
  have hR5 := (hR3.on b4).far (X := w.heap.size) (i := 4) (by omega) (.slice u1 n u3)
  have hB5 : Below w.heap.size w (w4.setCell ⟨w.heap.size, 4, none⟩ (.slice u1 n u3)) := (hB3.trans (b4.mono (by omega))).setCell (Nat.le_refl _) _
  have hs5 : w.heap.size + 2 ≤ (w4.setCell ⟨w.heap.size, 4, none⟩ (.slice u1 n u3)).heap.size := by simpa using Nat.le_trans hs3 b4.size
  have hr5 := hr.stay kp_var (ok' := Nw (w.heap.size + 2) (w4.setCell ⟨w.heap.size, 4, none⟩ (.slice u1 n u3))) (w' := w4.setCell ⟨w.heap.size, 4, none⟩ (.slice u1 n u3)) (fun b hb hl => hb.to (by have := hb.1; omega) (Below.heap_setCell _ _ _ _ (fun e => by have e2 : b = w.heap.size := e; have := hb.1; omega)))
  clear hX3 hR3 hX4 x4 y4 c4 e4 b4 hB3 hs3 hr hE
  generalize w4.setCell ⟨w.heap.size, 4, none⟩ (.slice u1 n u3) = w5 at *
  have hst := strip_start (c := c) hX5 hR5 hr5 (HS.out.stay (kp_st d) (ok' := fun b => b < w.heap.size) (w' := w5) (fun b hb hl => ⟨hl, hB5.block b hl⟩)) HOK.out.fo hs5
  have hb6 : Below w.heap.size w (w5.alloc (.cells #[.pointer (some ⟨w.heap.size, 5, none⟩)] 112)) := hB5.alloc (by omega) _
  have HST := mkHid hst
  clear hst hX5 hR5 hr5 hB5 hs5 HV HS
  go_wp2
  go_loopg [3] 1000000 (fun gn v wr => ∃ (P : List Pd) (X : Nat → Prop), Hid (PInv w.heap.size (RStr w.heap.size d c nm vn u1 n u3) X wr v P) ∧ Hid ((P.map szF).sum ≤ gn ∧ gn ≤ 1000000) ∧ Below w.heap.size w wr)
  case atStart =>
    refine ⟨_, _, HST, ⟨?_, Nat.le_refl _⟩, hb6⟩
    show szL d c.2.2.2 + 0 ≤ 1000000
    have := HOK.out.sz
    omega
  case round =>
    obtain ⟨P, X, hI, hM, hb⟩ := hrel
    by_cases he : P = []
    · subst he
      obtain ⟨ra, rc, rfl⟩ := rowV_nil hI.out.row
      obtain ⟨hc5, ⟨s5, hs5, hrs⟩, hrv, hRb⟩ := hI.out.wnd.end
      obtain ⟨y1, y3, hy, _⟩ := hrs.form
      rw [List.length_map] at hy
      subst hy
      obtain ⟨y2, hy2⟩ : ∃ y2, c.2.2.2.length = y2 := ⟨_, rfl⟩
      simp only [hy2] at hs5 hrs
      have k0 := hc5 0 _ rfl
      have k1 := hc5 1 _ rfl
      have k2 := hc5 2 _ rfl
      have k3 := hc5 3 _ rfl
      have k4 := hc5 4 _ rfl
      have hfin := HE.out (putL wr (w.heap.size + 1) 0 [.string nm, .int .i64 vn, .int .i64 0, .int .i64 0, .slice u1 n u3, .slice y1 y2 y3]) u1 u3 (.slice y1 y2 y3) (hrv.stay kp_var (fun b hb hl => hb.to (by have := hb.1; omega) (putL_heap _ _ _ _ _ (by have := hb.1; omega)))) (hrs.stay (kp_st d) (fun b hb hl => hb.to (by have := hb.1; omega) (putL_heap _ _ _ _ _ (by have := hb.1; omega))))
      have hbz := putL_below [.string nm, .int .i64 vn, .int .i64 0, .int .i64 0, .slice u1 n u3, .slice y1 y2 y3] wr (w.heap.size + 1) 0 hb (by omega)
      obtain ⟨r0, f0⟩ := hRb 0 _ rfl
      obtain ⟨r1, f1⟩ := hRb 1 _ rfl
      obtain ⟨r2, f2⟩ := hRb 2 _ rfl
      obtain ⟨r3, f3⟩ := hRb 3 _ rfl
      obtain ⟨r4, f4⟩ := hRb 4 _ rfl
      obtain ⟨r5, f5⟩ := hRb 5 _ rfl
      have hRz := (((((hRb.set (i := 0) (by simp) (.string nm)).set (i := 1) (by simp) (.int .i64 vn)).set (i := 2) (by simp) (.int .i64 0)).set (i := 3) (by simp) (.int .i64 0)).set (i := 4) (by simp) (.slice u1 n u3)).set (i := 5) (by simp) (.slice y1 y2 y3)
      clear hI hM hrs hrv hc5
      go_wp2
      exact bodyPost_ret (cstr_res hRz rfl) rfl ⟨_, rfl, hfin, hbz⟩
    · obtain ⟨P', p, rfl⟩ := last_ofP he
      obtain ⟨dd, l, hI2, hszp⟩ := hI.out.deep
      obtain ⟨pp, hpp⟩ : ∃ x, p.1 = x := ⟨_, rfl⟩
      rw [hpp] at hI2
      obtain ⟨pb, po⟩ := pp
      have hm := hM.out
      rw [List.map_append, List.sum_append, List.map_singleton, List.sum_singleton, hszp] at hm
      have hpl : P'.length ≤ 1000000 := by
        have : P'.length ≤ (P'.map szF).sum := szF_len P'
        omega
      obtain ⟨o1, o2, o3, o4, o5, u0, o6, o7⟩ := hI2.ok _ (List.mem_append_right _ List.mem_cons_self)
      have o1 : w.heap.size ≤ pb := o1
      have o2 : pb < wr.heap.size := o2
      have o3 : wr.frozen? ⟨pb, po, none⟩ = false := o3
      have o6 : wr.cell? ⟨pb, po, none⟩ = some u0 := o6
      obtain ⟨s1, s3, rfl, _⟩ := o7.form
      have hrow := hI2.row
      rw [List.map_append, List.length_append, List.map_singleton, List.length_singleton] at hrow
      obtain ⟨g, cap', rfl, hcap, hcm, hgb, hgl, hcell, hpop⟩ := rowV_pop (by simp) hrow
      have hcell : wr.cell? ⟨g, P'.length, none⟩ = some (.pointer (some ⟨pb, po, none⟩)) := hcell
      have hXg := hI2.x2 g rfl
      have hgp : g ≠ pb := fun e => o4 (e ▸ hXg)
      have hsz2 : w.heap.size + 2 ≤ wr.heap.size := hI2.big
      have hcall : Calls Try.prog 39 #[.slice s1 l.length s3, .func (.func 40) #[] #[]] wr fun e w' => e = .returned (.slice (some ⟨wr.heap.size, 0, none⟩) l.length l.length) ∧ Hid (RowG w' wr.heap.size 11 l.length (rHf dd (fun b => b < w.heap.size) wr) l) ∧ Below wr.heap.size wr w' ∧ wr.heap.size < w'.heap.size := eachSt_any o7 o5.1 (fun s hs => (o5.2 s hs).1)
      have hll : l.length ≤ 100000 := o5.1
      have HI2 := mkHid hI2
      have HPOP := mkHid hpop
      have HM2 : Hid ((P'.map szF).sum + szL (dd + 1) l ≤ gk ∧ gk ≤ 1000000) := hm
      obtain ⟨m, hml⟩ : ∃ m, P'.length = m := ⟨_, rfl⟩
      obtain ⟨nl, hnl⟩ : ∃ m, l.length = m := ⟨_, rfl⟩
      rw [hml] at hcell hcap hpl ⊢
      rw [hnl] at hcall hll o6
      have HML : Hid (P'.length = m) := hml
      have HNL : Hid (l.length = nl) := hnl
      clear hI hM hI2 hm hrow hpop he hml hnl o5 o7 hszp hXg
      have i1 : ((m : Int) + 1 > 0) := by omega
      have i3 : (0 : Int) ≤ (m : Int) := by omega
      have i4 : (m : Int) ≤ (cap' : Int) := by omega
      have i5 : (m : Int) < (m : Int) + 1 := by omega
      go_upto_region 8 with (first
        | (go_at_call 39; refine hcall.mono ?_; rintro e w6 ⟨rfl, hu, b6, hG6⟩))
      have G1 := (b6.cell (p := ⟨g, m, none⟩) hgl).trans hcell
      have Q1 := (b6.cell (p := ⟨pb, po, none⟩) o2).trans o6
      have Q2 := (b6.frozen (p := ⟨pb, po, none⟩) o2).trans o3
      go_upto_region 9 with fail
      obtain ⟨w7, hw7⟩ : ∃ x, w6.setCell ⟨pb, po, none⟩ (.slice (some ⟨wr.heap.size, 0, none⟩) nl nl) = x := ⟨_, rfl⟩
      have hs7 : w7.heap.size = w6.heap.size := by rw [← hw7]; simp
      have hb7 : Below w.heap.size w w7 := by rw [← hw7]; exact (hb.trans (b6.mono hb.size)).setCell o1 _
      have hrow7 : w7.ownsRow w.heap.size 112 1 (.slice (some ⟨g, 0, none⟩) m cap') m (P'.map pdV) := by
        have h1 := own_on HPOP.out b6 (Nat.le_refl _)
        rw [HML.out] at h1
        rw [← hw7]
        refine ownsRow_keep h1 (fun g' hg' => ?_)
        have : g = g' := Option.some.inj hg'
        subst this
        exact Below.heap_setCell _ _ _ _ (fun e => hgp e)
      rw [hw7]
      have HW7 := mkHid hw7
      obtain ⟨GB, hGB⟩ : ∃ x, wr.heap.size = x := ⟨_, rfl⟩
      rw [hGB]
      have HGB := mkHid hGB
      have HU := mkHid hu
      clear hw7 hGB hcell o6 o3 G1 Q1 Q2 hcall hu
      have hr0 : Hid (w7.ownsRow w.heap.size 112 1 (.slice (some ⟨g, 0, none⟩) m cap') (m + 0) ((P' ++ (kidC wr.heap.size dd 0 l).take 0).map pdV)) := by
        show w7.ownsRow _ _ _ _ _ _
        rw [List.take_zero, List.append_nil]
        exact hrow7
      have hsw7 : w.heap.size ≤ w7.heap.size := hb7.size
      clear hrow7
      go_wp2
      go_loopw [3, 43] (fun v3 ix wr => ∃ (j : Nat), j ≤ nl ∧ ix = .int .i64 (j : Int) ∧ Hid (wr.ownsRow w.heap.size 112 1 v3 (m + j) ((P' ++ (kidC GB dd 0 l).take j).map pdV)) ∧ Hid (Fr w7 wr (.slice (some ⟨g, 0, none⟩) m cap') v3)) (fun _ ix _ => nl - (RowKit.intOf ix).toNat)
      case atStart => exact ⟨0, Nat.zero_le _, rfl, by rw [← HGB.out]; exact hr0, Fr.of (Below.refl w7.heap.size w7) (Nat.le_refl _) _⟩
      case round =>
        obtain ⟨wo, hwo⟩ : ∃ x, x = wr := ⟨_, rfl⟩
        clear hr0
        obtain ⟨j, hj, rfl, hrj, hfj⟩ := hrel
        obtain ⟨ra, rc, rfl, hrl, hrm⟩ := own_formP hrj.out
        have hws := hfj.out.grown.size
        by_cases hjl : j < nl
        · have i6 : (j : Int) < (nl : Int) := by omega
          have i7 : (0 : Int) ≤ (j : Int) := by omega
          have hjll : j < l.length := by rw [HNL.out]; exact hjl
          have hkj : (kidC GB dd 0 l).take (j + 1) = (kidC GB dd 0 l).take j ++ [((GB, j * 11 + 10), ⟨dd, l[j].2⟩)] := by
            rw [List.take_succ_eq_append_getElem (by rw [kid_len]; exact hjll), kid_get 0 dd l j hjll, Nat.zero_add]
          have hxs : (P' ++ (kidC GB dd 0 l).take (j + 1)).map pdV = (P' ++ (kidC GB dd 0 l).take j).map pdV ++ [(.pointer (some ⟨GB, j * 11 + 10, none⟩))] := by
            rw [hkj, ← List.append_assoc, List.map_append]; rfl
          go_wp2_with (first
            | (at_builtin; refine wpList_append_at _ rfl _ _ 113 113 rfl w.heap.size 112 ip (.pointer none) 1 8 Try.underlying113 hip hip0 hip1 hip2 rfl (.slice ra (m + j) rc) (m + j) ((P' ++ (kidC GB dd 0 l).take j).map pdV) rfl (World.ownsRow.alloc hrj.out _) _ 1 [(.pointer (some ⟨GB, j * 11 + 10, none⟩))] rfl (src_row Try.underlying113 _ [(.pointer (some ⟨GB, j * 11 + 10, none⟩))] rfl (by simp [Value.oneCell'])) 1 (.inr (by omega)) (Nat.le_refl _) (by unfold maxLen; omega) (by simp; omega) ?_; intro vb wb hown hgr hat)
            | fail)
          have hfr : Hid (Fr w7 wb (.slice (some ⟨g, 0, none⟩) m cap') vb) := by
            have h1 : Fr wr (wr.alloc (.cells #[.pointer (some ⟨GB, j * 11 + 10, none⟩)] 112)) (.slice ra (m + j) rc) (.slice ra (m + j) rc) := Fr.of ((Below.refl wr.heap.size wr).alloc (Nat.le_refl _) _) (Nat.le_refl _) _
            have h2 : Fr (wr.alloc (.cells #[.pointer (some ⟨GB, j * 11 + 10, none⟩)] 112)) wb (.slice ra (m + j) rc) vb := ⟨hgr, fun g' hg' => by
              rcases hat with e | e
              · exact .inl (e ▸ hg')
              · rw [e] at hg'
                have : _ = g' := Option.some.inj hg'
                exact .inr (by omega)⟩
            exact (hfj.out.trans h1).trans h2
          have hown2 : Hid (wb.ownsRow w.heap.size 112 1 vb (m + (j + 1)) ((P' ++ (kidC GB dd 0 l).take (j + 1)).map pdV)) := by
            show wb.ownsRow _ _ _ _ _ _
            rw [hxs]
            exact hown
          clear hown hgr hat hrj hfj hxs hkj
          go_wp2
          go_roundw
          case rel => exact ⟨j + 1, hjl, by go_num, hown2, hfr⟩
          case measure => simp [RowKit.intOf]; omega
        · have i6 : ¬ (j : Int) < (nl : Int) := by omega
          have hjn : j = nl := by omega
          subst hjn
          have hfull : (kidC GB dd 0 l).take j = kidC GB dd 0 l := List.take_of_length_le (by rw [kid_len, HNL.out]; exact Nat.le_refl _)
          have hrf := hrj.out
          rw [hfull] at hrf
          have hF := hfj.out
          have hlen : (P' ++ kidC GB dd 0 l).length = m + j := by rw [List.length_append, kid_len, HML.out, HNL.out]
          have hrf2 : wr.ownsRow w.heap.size 112 1 (.slice ra (m + j) rc) (P' ++ kidC GB dd 0 l).length ((P' ++ kidC GB dd 0 l).map pdV) := by rw [hlen]; exact hrf
          have HU2 := HU.out.out
          rw [← HNL.out] at HU2
          have hpi : PInv w.heap.size (RStr w.heap.size d c nm vn u1 n u3) (fun b => X b ∨ (Value.slice ra (m + j) rc).ownBlock = some b) wr (.slice ra (m + j) rc) (P' ++ kidC GB dd 0 l) := by
            have hs6 : w6.heap.size = w7.heap.size := hs7.symm
            have hst := PInv.step (w2 := wr) (v2 := .slice ra (m + j) rc) (g := g) HI2.out b6 HU2 hG6 rfl (by rw [HGB.out]; exact hrf2) (by rw [HNL.out, HW7.out]; exact hF.grown) (fun g' hg' => by
              rcases hF.lies g' hg' with e | e
              · exact .inl (Option.some.inj e)
              · exact .inr (by omega)) (fun g' hg' => (ownsRow_lt hrf2 g' hg').2)
            rw [HGB.out] at hst
            exact hst
          have hbf : Below w.heap.size w wr := hb7.trans (hF.below hsw7 (fun g' hg' => by have : g = g' := Option.some.inj hg'; omega))
          have hsum := HM2.out
          have hks := kid_sz (G := GB) 0 dd l
          have hsum2 : (((P' ++ kidC GB dd 0 l)).map szF).sum = (P'.map szF).sum + ((kidC GB dd 0 l).map szF).sum := by rw [List.map_append, List.sum_append]
          clear hrj hfj hF hrf hrf2 hfull HU2
          go_wp2
          go_roundg ((P'.map szF).sum + ((kidC GB dd 0 l).map szF).sum)
          case measure => omega
          case rel => exact ⟨P' ++ kidC GB dd 0 l, _, hpi, ⟨by rw [hsum2]; exact Nat.le_refl _, by omega⟩, hbf⟩
end Go.Proofs.Ytoankfbccofllaa

/- States in memory but for their numbers: what stays when numbers turn. -/
namespace Go.Proofs.Ytoankfbccofllaa
open Go.RowKit Go.Lib
set_option linter.unusedSimpArgs false
set_option linter.unusedVariables false

/-- A cell stays, or a number turns into another. -/
def Ri (u u' : Value) : Prop := u' = u ∨ ∃ x y, u = .int .i64 x ∧ u' = .int .i64 y
theorem Ri.trans {a b c : Value} (h : Ri a b) (k : Ri b c) : Ri a c := by
  rcases h with rfl | ⟨x, y, rfl, rfl⟩
  · exact k
  · rcases k with rfl | ⟨x', y', h1, rfl⟩
    · exact .inr ⟨x, y, rfl, rfl⟩
    · exact .inr ⟨x, y', rfl, rfl⟩
theorem Ri.int {x : Int} {u : Value} (h : Ri (.int .i64 x) u) : ∃ y, u = .int .i64 y := by
  rcases h with rfl | ⟨_, y, _, rfl⟩
  · exact ⟨_, rfl⟩
  · exact ⟨_, rfl⟩
theorem Ri.str {x : ByteArray} {u : Value} (h : Ri (.string x) u) : u = .string x := by
  rcases h with rfl | ⟨_, y, h, rfl⟩
  · rfl
  · cases h
theorem Ri.bool {x : Bool} {u : Value} (h : Ri (.bool x) u) : u = .bool x := by
  rcases h with rfl | ⟨_, y, h, rfl⟩
  · rfl
  · cases h
theorem Ri.slice {a : Option Addr} {n c : Nat} {u : Value} (h : Ri (.slice a n c) u) : u = .slice a n c := by
  rcases h with rfl | ⟨_, y, h, rfl⟩
  · rfl
  · cases h
/-- Nothing turns but numbers in the blocks from A to K. -/
structure Iw (A K : Nat) (w w' : World) : Prop where
  os : w'.os = w.os
  tape : w'.tape = w.tape
  output : w'.output = w.output
  size : w.heap.size ≤ w'.heap.size
  block : ∀ b, b < w.heap.size → b < A ∨ K ≤ b → w'.heap[b]? = w.heap[b]?
  cell : ∀ b o u, b < w.heap.size → w.cell? ⟨b, o, none⟩ = some u → ∃ u', w'.cell? ⟨b, o, none⟩ = some u' ∧ Ri u u'
  fz : ∀ b o, b < w.heap.size → w'.frozen? ⟨b, o, none⟩ = w.frozen? ⟨b, o, none⟩
theorem Iw.of {A K : Nat} {w w' : World} (h : Below w.heap.size w w') : Iw A K w w' :=
  ⟨h.os, h.tape, h.output, h.size, fun b hl _ => h.block b hl, fun b o u hl hu => ⟨u, (h.cell (p := ⟨b, o, none⟩) hl).trans hu, .inl rfl⟩, fun b o hl => h.frozen (p := ⟨b, o, none⟩) hl⟩
theorem Iw.refl (A K : Nat) (w : World) : Iw A K w w := .of (Below.refl _ _)
theorem Iw.trans {A K : Nat} {w w1 w2 : World} (h : Iw A K w w1) (k : Iw A K w1 w2) : Iw A K w w2 :=
  ⟨k.os.trans h.os, k.tape.trans h.tape, k.output.trans h.output, Nat.le_trans h.size k.size, fun b hl hq => (k.block b (Nat.lt_of_lt_of_le hl h.size) hq).trans (h.block b hl hq), fun b o u hl hu => by
    obtain ⟨u1, h1, r1⟩ := h.cell b o u hl hu
    obtain ⟨u2, h2, r2⟩ := k.cell b o u1 (Nat.lt_of_lt_of_le hl h.size) h1
    exact ⟨u2, h2, r1.trans r2⟩, fun b o hl => (k.fz b o (Nat.lt_of_lt_of_le hl h.size)).trans (h.fz b o hl)⟩
theorem Iw.below {A K : Nat} {w w' : World} (h : Iw A K w w') (hA : A ≤ w.heap.size) : Below A w w' := ⟨h.os, h.tape, h.output, h.size, fun b hb => h.block b (by omega) (.inl hb)⟩
/-- A number is put in a number's place. -/
theorem Iw.put {A K b o : Nat} {w : World} {x y : Int} (hA : A ≤ b) (hK : b < K) (hc : w.cell? ⟨b, o, none⟩ = some (.int .i64 x)) : Iw A K w (w.setCell ⟨b, o, none⟩ (.int .i64 y)) :=
  ⟨rfl, rfl, rfl, by simp, fun b' _ hq => Below.heap_setCell _ _ _ _ (fun e => by have e2 : b' = b := e; omega), fun b' o' u _ hu => by
    by_cases e : (⟨b, o, none⟩ : Addr) = ⟨b', o', none⟩
    · rw [← e] at hu ⊢
      rw [hc] at hu
      obtain rfl := Option.some.inj hu
      exact ⟨_, cell_same4 hc, .inr ⟨x, y, rfl, rfl⟩⟩
    · exact ⟨u, (World.cell?_setCell_other w _ _ _ e).trans hu, .inl rfl⟩, fun b' o' _ => World.frozen?_setCell _ _ _ _⟩
/-- A block from A to K, of which no string has a part. -/
def Nk (A K : Nat) (w : World) (b : Nat) : Prop := A ≤ b ∧ b < K ∧ ∀ j, w.frozen? ⟨b, j, none⟩ = false
theorem Nk.on {A K b : Nat} {w w' : World} (h : Nk A K w b) (hw : Iw A K w w') (hl : b < w.heap.size) : Nk A K w' b := ⟨h.1, h.2.1, fun j => (hw.fz b j hl).trans (h.2.2 j)⟩
theorem rdK_iw {α : Type} {A K : Nat} {w w' : World} {k : Nat} {R R' : α → List Value → Prop} {l : List α} {v : Value} (h : RdK (Nk A K w) w k R l v) (hw : Iw A K w w') (hR : ∀ x ∈ l, ∀ cs cs' : List Value, cs.length = k → cs'.length = k → (∀ (j : Nat) u, cs[j]? = some u → ∃ u', cs'[j]? = some u' ∧ Ri u u') → R x cs → R' x cs') : RdK (Nk A K w') w' k R' l v := by
  obtain ⟨a, cap, rfl, hc, hm, hcell⟩ := h
  refine ⟨a, cap, rfl, hc, hm, fun i hi => ?_⟩
  obtain ⟨b, off, cs, ha, ho, hb, hl, hr, hcs⟩ := hcell i hi
  have key : ∀ j, j < k → ∃ u u', cs[j]? = some u ∧ w'.cell? ⟨b, off + i * k + j, none⟩ = some u' ∧ Ri u u' := fun j hj => by
    have hj' : j < cs.length := by omega
    obtain ⟨u', h1, h2⟩ := hw.cell b (off + i * k + j) cs[j] hb (hcs j _ (List.getElem?_eq_getElem hj'))
    exact ⟨cs[j], u', List.getElem?_eq_getElem hj', h1, h2⟩
  refine ⟨b, off, (List.range k).map (fun j => (w'.cell? ⟨b, off + i * k + j, none⟩).getD .nilIface), ha, ho.on hw hb, Nat.lt_of_lt_of_le hb hw.size, by simp, hR _ (List.getElem_mem hi) cs _ hl (by simp) (fun j u hu => ?_) hr, fun j u hu => ?_⟩
  · have hj : j < k := by have := (List.getElem?_eq_some_iff.1 hu).1; omega
    obtain ⟨u1, u', h1, h2, h3⟩ := key j hj
    rw [h1] at hu
    obtain rfl := Option.some.inj hu
    refine ⟨u', ?_, h3⟩
    rw [List.getElem?_map, List.getElem?_range hj]
    simp [h2]
  · have hj : j < k := by have := (List.getElem?_eq_some_iff.1 hu).1; simpa using this
    obtain ⟨u1, u', h1, h2, h3⟩ := key j hj
    rw [List.getElem?_map, List.getElem?_range hj] at hu
    simp [h2] at hu
    rw [← hu]
    exact h2
theorem rdK_map {α β : Type} {ok : Nat → Prop} {w : World} {k : Nat} {R : β → List Value → Prop} {R' : α → List Value → Prop} {f : α → β} {l : List α} {v : Value} (h : RdK ok w k R (l.map f) v) (hR : ∀ x ∈ l, ∀ cs, R (f x) cs → R' x cs) : RdK ok w k R' l v := by
  obtain ⟨a, cap, rfl, hc, hm, hcell⟩ := h
  rw [List.length_map] at hc ⊢
  refine ⟨a, cap, rfl, hc, hm, fun i hi => ?_⟩
  obtain ⟨b, off, cs, ha, ho, hb, hl, hr, hcs⟩ := hcell i (by simpa using hi)
  exact ⟨b, off, cs, ha, ho, hb, hl, hR _ (List.getElem_mem hi) _ (by simpa using hr), hcs⟩
/-- An on: its place is two numbers. -/
def rOnS (o : OnC) (cs : List Value) : Prop := ∃ a b c e x y, cs = [a, b, c, e, .int .i64 x, .int .i64 y]
theorem rOnS_iw {o : OnC} {cs cs' : List Value} (hl : cs'.length = 6) (h : ∀ (j : Nat) u, cs[j]? = some u → ∃ u', cs'[j]? = some u' ∧ Ri u u') (hr : rOnS o cs) : rOnS o cs' := by
  obtain ⟨a, b, c, e, x, y, rfl⟩ := hr
  obtain ⟨u0, g0, _⟩ := h 0 _ rfl
  obtain ⟨u1, g1, _⟩ := h 1 _ rfl
  obtain ⟨u2, g2, _⟩ := h 2 _ rfl
  obtain ⟨u3, g3, _⟩ := h 3 _ rfl
  obtain ⟨u4, g4, r4⟩ := h 4 _ rfl
  obtain ⟨u5, g5, r5⟩ := h 5 _ rfl
  obtain ⟨y4, rfl⟩ := r4.int
  obtain ⟨y5, rfl⟩ := r5.int
  refine ⟨u0, u1, u2, u3, y4, y5, ?_⟩
  apply List.ext_getElem?
  intro j
  match j with
  | 0 => exact g0
  | 1 => exact g1
  | 2 => exact g2
  | 3 => exact g3
  | 4 => exact g4
  | 5 => exact g5
  | j + 6 => rw [List.getElem?_eq_none (by omega), List.getElem?_eq_none (by simp)]
/-- A state: its name, its place, its ons and those right in it. -/
def rSh : (d : Nat) → (Nat → Prop) → World → St d → List Value → Prop
  | 0, _, _, t, _ => Empty.elim t
  | d + 1, ok, w, t, cs => ∃ (i1 i2 : Int) (c3 c4 : Bool) (c5 c6 : ByteArray) (c7 c8 : Int) (so si : Value), cs = [sV t.1.1.1, .int .i64 i1, .int .i64 i2, .bool c3, .bool c4, .string c5, .string c6, .int .i64 c7, .int .i64 c8, so, si] ∧ RdK ok w 6 rOnS t.1.2.2.2.2 so ∧ RdK ok w 11 (rSh d ok w) t.2 si
theorem rSh_iw {A K : Nat} {w w' : World} (hw : Iw A K w w') : ∀ (d : Nat) (t : St d) (cs cs' : List Value), cs'.length = 11 → (∀ (j : Nat) u, cs[j]? = some u → ∃ u', cs'[j]? = some u' ∧ Ri u u') → rSh d (Nk A K w) w t cs → rSh d (Nk A K w') w' t cs'
  | 0, t, _, _, _, _, _ => Empty.elim t
  | d + 1, t, cs, cs', hl, h, hr => by
    obtain ⟨i1, i2, c3, c4, c5, c6, c7, c8, so, si, rfl, ho, hi⟩ := hr
    obtain ⟨sa, sc, rfl, _⟩ := ho.form
    obtain ⟨ia, ic, rfl, _⟩ := hi.form
    obtain ⟨u0, g0, r0⟩ := h 0 _ rfl
    obtain ⟨u1, g1, r1⟩ := h 1 _ rfl
    obtain ⟨u2, g2, r2⟩ := h 2 _ rfl
    obtain ⟨u3, g3, r3⟩ := h 3 _ rfl
    obtain ⟨u4, g4, r4⟩ := h 4 _ rfl
    obtain ⟨u5, g5, r5⟩ := h 5 _ rfl
    obtain ⟨u6, g6, r6⟩ := h 6 _ rfl
    obtain ⟨u7, g7, r7⟩ := h 7 _ rfl
    obtain ⟨u8, g8, r8⟩ := h 8 _ rfl
    obtain rfl := r3.bool
    obtain rfl := r4.bool
    obtain rfl := r5.str
    obtain rfl := r6.str
    obtain ⟨y7, rfl⟩ := r7.int
    obtain ⟨y8, rfl⟩ := r8.int
    obtain ⟨u9, g9, r9⟩ := h 9 _ rfl
    obtain ⟨u10, g10, r10⟩ := h 10 _ rfl
    obtain ⟨y1, rfl⟩ := r1.int
    obtain ⟨y2, rfl⟩ := r2.int
    obtain rfl := Ri.str r0
    obtain rfl := r9.slice
    obtain rfl := r10.slice
    refine ⟨y1, y2, c3, c4, c5, c6, y7, y8, _, _, ?_, rdK_iw ho hw (fun x _ cs cs' _ h2 h3 h4 => rOnS_iw h2 h3 h4), rdK_iw hi hw (fun x _ cs cs' _ h2 h3 h4 => rSh_iw hw d x cs cs' h2 h3 h4)⟩
    apply List.ext_getElem?
    intro j
    match j with
    | 0 => exact g0
    | 1 => exact g1
    | 2 => exact g2
    | 3 => exact g3
    | 4 => exact g4
    | 5 => exact g5
    | 6 => exact g6
    | 7 => exact g7
    | 8 => exact g8
    | 9 => exact g9
    | 10 => exact g10
    | j + 11 => rw [List.getElem?_eq_none (by omega), List.getElem?_eq_none (by simp)]
abbrev RdSh (A K : Nat) (w : World) (d : Nat) (l : List (St d)) (v : Value) : Prop := RdK (Nk A K w) w 11 (rSh d (Nk A K w) w) l v
theorem RdSh.on {A K d : Nat} {w w' : World} {l : List (St d)} {v : Value} (h : RdSh A K w d l v) (hw : Iw A K w w') : RdSh A K w' d l v := rdK_iw h hw (fun x _ cs cs' _ h2 h3 h4 => rSh_iw hw d x cs cs' h2 h3 h4)
theorem rdS_iw {A K : Nat} {w w' : World} {l : List OnC} {v : Value} (h : RdK (Nk A K w) w 6 rOnS l v) (hw : Iw A K w w') : RdK (Nk A K w') w' 6 rOnS l v := rdK_iw h hw (fun x _ cs cs' _ h2 h3 h4 => rOnS_iw h2 h3 h4)
/-- What was stripped has the shape of what it was stripped of. -/
theorem rSh_of {ok : Nat → Prop} {w : World} : ∀ (d : Nat) (t : St d) (cs : List Value), rSt d ok w (stS d t) cs → rSh d ok w t cs
  | 0, t, _, _ => Empty.elim t
  | d + 1, t, cs, h => by
    obtain ⟨so, si, rfl, h1, h2⟩ := h
    refine ⟨_, _, _, _, _, _, _, _, so, si, rfl, ?_, ?_⟩
    · refine rdK_map (f := stO) (R := rOn ok w) h1 (fun o _ cs hr => ?_)
      obtain ⟨sl, rfl, _⟩ := hr
      exact ⟨_, _, _, _, _, _, rfl⟩
    · exact rdK_map (f := stS d) (R := rSt d ok w) h2 (fun t _ cs hr => rSh_of d t cs hr)
theorem rdSh_of {N d : Nat} {w : World} {l : List (St d)} {v : Value} (h : RdK (Nw N w) w 11 (rSt d (Nw N w) w) (l.map (stS d)) v) : RdSh N w.heap.size w d l v := by
  have h2 := h.stay (kp_st d) (ok' := Nk N w.heap.size w) (w' := w) (fun b hb hl => ⟨⟨hb.1, hl, hb.2⟩, rfl⟩)
  exact rdK_map h2 (fun t _ cs hr => rSh_of d t cs hr)
/-- A state's cells. -/
theorem sh_at {A K : Nat} {w : World} {d : Nat} {l : List (St (d + 1))} {a : Option Addr} {n cap : Nat} (h : RdSh A K w (d + 1) l (.slice a n cap)) (j : Nat) (hj : j < l.length) : ∃ (b off : Nat) (i1 i2 : Int) (c3 c4 : Bool) (c5 c6 : ByteArray) (c7 c8 : Int) (p1 : Option Addr) (p3 : Nat) (p4 : Option Addr) (p6 : Nat), a = some ⟨b, off, none⟩ ∧ A ≤ b ∧ b < K ∧ b < w.heap.size ∧ (∀ o, w.frozen? ⟨b, o, none⟩ = false) ∧ RdK (Nk A K w) w 6 rOnS l[j].1.2.2.2.2 (.slice p1 l[j].1.2.2.2.2.length p3) ∧ RdSh A K w d l[j].2 (.slice p4 l[j].2.length p6) ∧ ∀ i u, [sV l[j].1.1.1, .int .i64 i1, .int .i64 i2, .bool c3, .bool c4, .string c5, .string c6, .int .i64 c7, .int .i64 c8, .slice p1 l[j].1.2.2.2.2.length p3, .slice p4 l[j].2.length p6][i]? = some u → w.cell? ⟨b, off + j * 11 + i, none⟩ = some u := by
  obtain ⟨a1, cap1, he, h1, h2, h3⟩ := h
  simp only [Value.slice.injEq] at he
  obtain ⟨rfl, rfl, rfl⟩ := he
  obtain ⟨b, off, cs, ha, hok, hb, hl, ⟨i1, i2, c3, c4, c5, c6, c7, c8, so, si, rfl, hs, hi⟩, hc⟩ := h3 j hj
  obtain ⟨p1, p3, rfl, _⟩ := hs.form
  obtain ⟨p4, p6, rfl, _⟩ := hi.form
  exact ⟨b, off, i1, i2, c3, c4, c5, c6, c7, c8, p1, p3, p4, p6, ha, hok.1, hok.2.1, hb, hok.2.2, hs, hi, hc⟩
theorem onS_at {A K : Nat} {w : World} {l : List OnC} {a : Option Addr} {n cap : Nat} (h : RdK (Nk A K w) w 6 rOnS l (.slice a n cap)) (j : Nat) (hj : j < l.length) : ∃ b off x y, a = some ⟨b, off, none⟩ ∧ A ≤ b ∧ b < K ∧ b < w.heap.size ∧ (∀ o, w.frozen? ⟨b, o, none⟩ = false) ∧ w.cell? ⟨b, off + j * 6 + 4, none⟩ = some (.int .i64 x) ∧ w.cell? ⟨b, off + j * 6 + 5, none⟩ = some (.int .i64 y) := by
  obtain ⟨a1, cap1, he, h1, h2, h3⟩ := h
  simp only [Value.slice.injEq] at he
  obtain ⟨rfl, rfl, rfl⟩ := he
  obtain ⟨b, off, cs, ha, hok, hb, hl, ⟨_, _, _, _, x, y, rfl⟩, hc⟩ := h3 j hj
  exact ⟨b, off, x, y, ha, hok.1, hok.2.1, hb, hok.2.2, hc 4 _ rfl, hc 5 _ rfl⟩
theorem onP_at {ok : Nat → Prop} {w : World} {l : List OnC} {a : Option Addr} {n cap : Nat} (h : RdK ok w 6 (rOn ok w) l (.slice a n cap)) (j : Nat) (hj : j < l.length) : ∃ b off x y, a = some ⟨b, off, none⟩ ∧ ok b ∧ b < w.heap.size ∧ w.cell? ⟨b, off + j * 6 + 4, none⟩ = some (.int .i64 x) ∧ w.cell? ⟨b, off + j * 6 + 5, none⟩ = some (.int .i64 y) := by
  obtain ⟨a1, cap1, he, h1, h2, h3⟩ := h
  simp only [Value.slice.injEq] at he
  obtain ⟨rfl, rfl, rfl⟩ := he
  obtain ⟨b, off, cs, ha, hok, hb, hl, ⟨sl, rfl, _⟩, hc⟩ := h3 j hj
  exact ⟨b, off, _, _, ha, hok, hb, hc 4 _ rfl, hc 5 _ rfl⟩
end Go.Proofs.Ytoankfbccofllaa

/- The program's putOwnPlaces: numbers turn, nothing else. -/
namespace Go.Proofs.Ytoankfbccofllaa
open Go.RowKit Go.Lib
set_option linter.unusedSimpArgs false
set_option linter.unusedVariables false
attribute [local go_sem ↓] Go.wp_at_zero Go.wp_at_succ
theorem ne_cell {w : World} {p q : Addr} {x : Int} {a : Option Addr} {n c : Nat} (h : w.cell? p = some (.int .i64 x)) (k : w.cell? q = some (.slice a n c)) : p ≠ q := fun e => by rw [e, k] at h; cases h
theorem cell_ne {w : World} {p q : Addr} {u v : Value} (h : p ≠ q) (hc : w.cell? q = some u) : (w.setCell p v).cell? q = some u := (World.cell?_setCell_other w _ _ _ h).trans hc
set_option maxRecDepth 100000 in
set_option maxHeartbeats 16000000 in
theorem putOwn_any {w : World} {A K b off : Nat} {ons : List OnC} {i1 i2 : Int} {a1 : Option Addr} {n c1 : Nat} (hA : A ≤ b) (hK : b < K) (hKw : K ≤ w.heap.size) (hn : ons.length = n)
    (hf : ∀ o, w.frozen? ⟨b, o, none⟩ = false) (h1 : w.cell? ⟨b, off + 1, none⟩ = some (.int .i64 i1)) (h2 : w.cell? ⟨b, off + 2, none⟩ = some (.int .i64 i2)) (h9 : w.cell? ⟨b, off + 9, none⟩ = some (.slice a1 n c1))
    (hS : RdK (Nk A K w) w 6 rOnS ons (.slice a1 n c1)) (f0 : ByteArray) (f1 f2 : Int) (f3 f4 : Bool) (f5 f6 : ByteArray) (f7 f8 : Int) (p1 : Option Addr) (p3 : Nat) (p4 : Option Addr) (p5 p6 : Nat) (hO : RdK (fun b => b < A) w 6 (rOn (fun b => b < A) w) ons (.slice p1 n p3)) :
    Calls Try.prog 41 #[.pointer (some ⟨b, off, none⟩), .agg #[.string f0, .int .i64 f1, .int .i64 f2, .bool f3, .bool f4, .string f5, .string f6, .int .i64 f7, .int .i64 f8, .slice p1 n p3, .slice p4 p5 p6]] w fun e w' => (∃ v, e = .returned v) ∧ Iw A K w w' := by
  have hal : Below w.heap.size w (w.alloc (.cells #[.string f0, .int .i64 f1, .int .i64 f2, .bool f3, .bool f4, .string f5, .string f6, .int .i64 f7, .int .i64 f8, .slice p1 n p3, .slice p4 p5 p6] 45)) := (Below.refl w.heap.size w).alloc (Nat.le_refl _) _
  have hX : Bn (w.alloc (.cells #[.string f0, .int .i64 f1, .int .i64 f2, .bool f3, .bool f4, .string f5, .string f6, .int .i64 f7, .int .i64 f8, .slice p1 n p3, .slice p4 p5 p6] 45)) w.heap.size [.string f0, .int .i64 f1, .int .i64 f2, .bool f3, .bool f4, .string f5, .string f6, .int .i64 f7, .int .i64 f8, .slice p1 n p3, .slice p4 p5 p6] := Bn.new w [.string f0, .int .i64 f1, .int .i64 f2, .bool f3, .bool f4, .string f5, .string f6, .int .i64 f7, .int .i64 f8, .slice p1 n p3, .slice p4 p5 p6] 45 _ rfl
  obtain ⟨hcn, hcm⟩ : n ≤ c1 ∧ c1 ≤ maxLen := by
    obtain ⟨_, _, he, k1, k2⟩ := hS.form
    simp only [Value.slice.injEq] at he
    rw [hn] at k1
    omega
  have hbw : b < w.heap.size := by omega
  go_enter Try.func41, Try.ntmps41
  go_upto_region 1 with fail
  have hI := Iw.of (A := A) (K := K) hal
  have y1 := (hal.cell (p := ⟨b, off + 1, none⟩) hbw).trans h1
  have y2 := (hal.cell (p := ⟨b, off + 2, none⟩) hbw).trans h2
  have y9 := (hal.cell (p := ⟨b, off + 9, none⟩) hbw).trans h9
  have z1 := (hal.frozen (p := ⟨b, off + 1, none⟩) hbw).trans (hf _)
  have z2 := (hal.frozen (p := ⟨b, off + 2, none⟩) hbw).trans (hf _)
  have hsx : w.heap.size < (w.alloc (.cells #[.string f0, .int .i64 f1, .int .i64 f2, .bool f3, .bool f4, .string f5, .string f6, .int .i64 f7, .int .i64 f8, .slice p1 n p3, .slice p4 p5 p6] 45)).heap.size := by simp
  generalize (w.alloc (.cells #[.string f0, .int .i64 f1, .int .i64 f2, .bool f3, .bool f4, .string f5, .string f6, .int .i64 f7, .int .i64 f8, .slice p1 n p3, .slice p4 p5 p6] 45)) = wx at *
  obtain ⟨x1, _⟩ := hX 1 _ rfl
  obtain ⟨x2, _⟩ := hX 2 _ rfl
  obtain ⟨X, hXX⟩ : ∃ X, w.heap.size = X := ⟨_, rfl⟩
  rw [hXX] at x1 x2 hX hsx ⊢
  have HXX := mkHid hXX
  clear hXX
  go_upto_region 2 with fail
  have hb1 : b ≠ X := by have := HXX.out; omega
  have hI2 : Iw A K wx ((wx.setCell ⟨b, off + 1, none⟩ (.int .i64 f1)).setCell ⟨b, off + 2, none⟩ (.int .i64 f2)) := (Iw.put hA hK y1).trans (Iw.put hA hK (x := i2) (cell_ne (by intro e; simp only [Addr.mk.injEq] at e; omega) y2))
  have y9' : ((wx.setCell ⟨b, off + 1, none⟩ (.int .i64 f1)).setCell ⟨b, off + 2, none⟩ (.int .i64 f2)).cell? ⟨b, off + 9, none⟩ = some (.slice a1 n c1) := cell_ne (by intro e; simp only [Addr.mk.injEq] at e; omega) (cell_ne (by intro e; simp only [Addr.mk.injEq] at e; omega) y9)
  have hX2 : Bn ((wx.setCell ⟨b, off + 1, none⟩ (.int .i64 f1)).setCell ⟨b, off + 2, none⟩ (.int .i64 f2)) X _ := (hX.far (i := off + 1) hb1 (.int .i64 f1)).far (i := off + 2) hb1 (.int .i64 f2)
  clear x1 x2 y1 y2 z1 z2 y9 hX
  have hIw : Iw A K w ((wx.setCell ⟨b, off + 1, none⟩ (.int .i64 f1)).setCell ⟨b, off + 2, none⟩ (.int .i64 f2)) := hI.trans hI2
  have hs2 : X < ((wx.setCell ⟨b, off + 1, none⟩ (.int .i64 f1)).setCell ⟨b, off + 2, none⟩ (.int .i64 f2)).heap.size := by simpa using hsx
  generalize ((wx.setCell ⟨b, off + 1, none⟩ (.int .i64 f1)).setCell ⟨b, off + 2, none⟩ (.int .i64 f2)) = w2 at *
  obtain ⟨x9, _⟩ := hX2 9 _ rfl
  have HS := mkHid (rdS_iw hS hIw)
  have HO := mkHid (hO.stay kp_on (ok' := fun b => b < A) (w' := w2) (fun b hb hl => ⟨hb, hIw.block b hl (.inl hb)⟩))
  have HN := mkHid hn
  have hXK : K ≤ X := by have := HXX.out; omega
  clear hS hO hn hI hI2 h1 h2 h9 hal hX2
  unfold maxLen at hcm
  go_wp2
  go_loopw [15] (fun ix wr => ∃ (j : Nat), j ≤ n ∧ ix = .int .i64 (j : Int) ∧ Iw A K w2 wr) (fun ix _ => n - (RowKit.intOf ix).toNat)
  case atStart => exact ⟨0, Nat.zero_le _, rfl, Iw.refl _ _ _⟩
  case round =>
    obtain ⟨j, hj, rfl, hw⟩ := hrel
    have q9 : wr.cell? ⟨X, 9, none⟩ = some (.slice p1 n p3) := (World.cell?_of_block (w := w2) (a := ⟨X, 9, none⟩) (hw.block X hs2 (.inr hXK))).trans x9
    have t9 : wr.cell? ⟨b, off + 9, none⟩ = some (.slice a1 n c1) := by
      obtain ⟨u, h1, h2⟩ := hw.cell b (off + 9) _ (World.block_lt_of_cell? w2 _ y9') y9'
      rw [h1, h2.slice]
    by_cases hlt : j < n
    · have i6 : (j : Int) < (n : Int) := by omega
      have i7 : (0 : Int) ≤ (j : Int) := by omega
      have hjl : j < ons.length := by rw [HN.out]; exact hlt
      obtain ⟨g, og, x, y, rfl, hgA, hgK, hgl, hgf, g4, g5⟩ := onS_at (rdS_iw HS.out hw) j hjl
      obtain ⟨g', og', x', y', rfl, hgA', hgl', k4, k5⟩ := onP_at (HO.out.stay kp_on (ok' := fun b => b < A) (w' := wr) (fun b hb hl => ⟨hb, hw.block b hl (.inl hb)⟩)) j hjl
      have gf4 := hgf (og + j * 6 + 4)
      have gf5 := hgf (og + j * 6 + 5)
      have n1 : (⟨g, og + j * 6 + 4, none⟩ : Addr) ≠ ⟨b, off + 9, none⟩ := ne_cell g4 t9
      have n2 : (⟨g, og + j * 6 + 5, none⟩ : Addr) ≠ ⟨b, off + 9, none⟩ := ne_cell g5 t9
      have n3 : X ≠ g := by omega
      have n4 : g' ≠ g := by omega
      clear hgf
      go_upto_region 5 with fail
      go_region_held_law (fun w' => w'.cell? ⟨X, 9, none⟩ = some (.slice (some ⟨g', og', none⟩) n p3) ∧ w'.cell? ⟨b, off + 9, none⟩ = some (.slice (some ⟨g, og, none⟩) n c1) ∧ w'.cell? ⟨g', og' + j * 6 + 4, none⟩ = some (.int .i64 x') ∧ w'.cell? ⟨g', og' + j * 6 + 5, none⟩ = some (.int .i64 y'))
        ((refine ⟨?_, ?_, ?_, ?_⟩ <;> (repeat (first | (with_reducible exact q9) | (with_reducible exact t9) | (with_reducible exact k4) | (with_reducible exact k5) | (with_reducible refine cell_dr ?_) | (with_reducible refine cell_ne n1 ?_) | (with_reducible refine cell_ne n2 ?_) | (with_reducible refine cell_far4 (ne_pt n3) ?_) | (with_reducible refine cell_far4 (ne_pt n4) ?_))) <;> done))
        (fail)
      have hf1 : Iw A K wr ((wr.setCell ⟨g, og + j * 6 + 4, none⟩ (.int .i64 x')).setCell ⟨g, og + j * 6 + 4 + 1, none⟩ (.int .i64 y')) := (Iw.put hgA hgK g4).trans (Iw.put hgA hgK (x := y) (cell_ne (by intro e; simp only [Addr.mk.injEq] at e; omega) g5))
      have hf2 : Iw A K w2 ((wr.setCell ⟨g, og + j * 6 + 4, none⟩ (.int .i64 x')).setCell ⟨g, og + j * 6 + 4 + 1, none⟩ (.int .i64 y')).drew := (hw.trans hf1).trans (.of ((Below.refl _ _).drew))
      clear hf1
      generalize ((wr.setCell ⟨g, og + j * 6 + 4, none⟩ (.int .i64 x')).setCell ⟨g, og + j * 6 + 4 + 1, none⟩ (.int .i64 y')).drew = wz at *
      go_wp2
      go_roundw
      case rel => exact ⟨j + 1, hlt, by go_num, hf2⟩
      case measure => simp [RowKit.intOf]; omega
    · have i6 : ¬ (j : Int) < (n : Int) := by omega
      go_wp2
      go_end0
      exact ⟨⟨_, rfl⟩, hIw.trans hw⟩
end Go.Proofs.Ytoankfbccofllaa
