import Derived.Test.YtifgbioacknjpaaGreatDoorWsc03
import Derived.Test.YtifgbioacknjpaaGreatDoorWsc05
import Derived.Test.YtifgbioacknjpaaGreatDoorWsc02
import Derived.Laws.MakeOwn

/- Blocks of n cells; rows of k cells an element, read, and the call's own. -/
namespace Go.Proofs.YtifgbioacknjpaaGreatDoor
open Go.RowKit Go.Lib
set_option linter.unusedSimpArgs false
set_option linter.unusedVariables false

/-- A block of cells that may be written. -/
def Bn (w : World) (Y : Nat) (cs : List Value) : Prop := ∀ j u, cs[j]? = some u → w.cell? ⟨Y, j, none⟩ = some u ∧ w.frozen? ⟨Y, j, none⟩ = false
theorem Bn.lt {w : World} {Y : Nat} {c : Value} {cs : List Value} (h : Bn w Y (c :: cs)) : Y < w.heap.size := World.block_lt_of_cell? w _ (h 0 c rfl).1
theorem frozen_of_block {w w' : World} {Y j : Nat} (h : w'.heap[Y]? = w.heap[Y]?) : w'.frozen? ⟨Y, j, none⟩ = w.frozen? ⟨Y, j, none⟩ := by
  unfold World.frozen?
  rw [h]
theorem Bn.blk {w w' : World} {Y : Nat} {cs : List Value} (h : Bn w Y cs) (hb : w'.heap[Y]? = w.heap[Y]?) : Bn w' Y cs := fun j u hu =>
  ⟨keep_cell (p := ⟨Y, j, none⟩) hb (h j u hu).1, (frozen_of_block hb).trans (h j u hu).2⟩
theorem Bn.on {w w' : World} {Y : Nat} {c : Value} {cs : List Value} (h : Bn w Y (c :: cs)) (hb : Below w.heap.size w w') : Bn w' Y (c :: cs) := h.blk (hb.block Y h.lt)
theorem Bn.fx {w w' : World} {X Y : Nat} {c : Value} {cs : List Value} (h : Bn w Y (c :: cs)) (hf : Fx X w w') (hne : Y ≠ X) : Bn w' Y (c :: cs) := h.blk (hf.block Y h.lt (fun e => hne (Option.some.inj e)))
theorem Bn.far {w : World} {Y X i : Nat} {cs : List Value} (h : Bn w Y cs) (hne : X ≠ Y) (v : Value) : Bn (w.setCell ⟨X, i, none⟩ v) Y cs := h.blk (Below.heap_setCell _ _ _ _ (fun e => hne e.symm))
theorem Bn.set {w : World} {Y i : Nat} {cs : List Value} (h : Bn w Y cs) (hi : i < cs.length) (v : Value) : Bn (w.setCell ⟨Y, i, none⟩ v) Y (cs.set i v) := fun j u hu => by
  refine ⟨?_, (World.frozen?_setCell _ _ _ _).trans ?_⟩
  · by_cases hj : i = j
    · subst hj
      rw [List.getElem?_set_self hi] at hu
      obtain rfl := Option.some.inj hu
      exact cell_same4 (h i _ (List.getElem?_eq_getElem hi)).1
    · rw [List.getElem?_set_ne hj] at hu
      exact cell_far4 (by omega) (h j u hu).1
  · have hl : j < cs.length := by
      have := (List.getElem?_eq_some_iff.1 hu).1
      rwa [List.length_set] at this
    exact (h j _ (List.getElem?_eq_getElem hl)).2
theorem Bn.drew {w : World} {Y : Nat} {cs : List Value} (h : Bn w Y cs) : Bn w.drew Y cs := h
theorem Bn.new (w : World) (cs : List Value) (t : TypeId) (n : Nat) (hn : n = w.heap.size) : Bn (w.alloc (.cells cs.toArray t)) n cs := by
  subst hn
  intro j u hu
  refine ⟨?_, by simp⟩
  rw [World.cell?_alloc_new]
  simpa using hu

/-- The slice v reads as the list l, k cells an element. -/
def RdK {α : Type} (ok : Nat → Prop) (w : World) (k : Nat) (R : α → List Value → Prop) (l : List α) (v : Value) : Prop :=
  ∃ a cap, v = .slice a l.length cap ∧ l.length ≤ cap ∧ cap ≤ maxLen ∧
    ∀ (i : Nat) (hi : i < l.length), ∃ b off cs, a = some ⟨b, off, none⟩ ∧ ok b ∧ b < w.heap.size ∧ cs.length = k ∧ R l[i] cs ∧ ∀ j u, cs[j]? = some u → w.cell? ⟨b, off + i * k + j, none⟩ = some u
theorem rdK_none {α : Type} (ok : Nat → Prop) (w : World) (k : Nat) (R : α → List Value → Prop) : RdK ok w k R [] (.slice none 0 0) := ⟨none, 0, rfl, by simp, by simp [maxLen], fun i hi => absurd hi (by simp)⟩
theorem RdK.keep {α : Type} {ok ok' : Nat → Prop} {w w' : World} {k : Nat} {R R' : α → List Value → Prop} {l : List α} {v : Value} (h : RdK ok w k R l v) (hR : ∀ x ∈ l, ∀ u, R x u → R' x u) (hk : ∀ b, ok b → b < w.heap.size → ok' b ∧ w'.heap[b]? = w.heap[b]?) : RdK ok' w' k R' l v := by
  obtain ⟨a, cap, rfl, hc, hm, hcell⟩ := h
  refine ⟨a, cap, rfl, hc, hm, fun i hi => ?_⟩
  obtain ⟨b, off, cs, ha, ho, hb, hl, hr, hcs⟩ := hcell i hi
  obtain ⟨ho', hs⟩ := hk _ ho hb
  refine ⟨b, off, cs, ha, ho', ?_, hl, hR _ (List.getElem_mem hi) _ hr, fun j u hu => keep_cell (p := ⟨b, off + i * k + j, none⟩) hs (hcs j u hu)⟩
  rcases Nat.lt_or_ge b w'.heap.size with h | h
  · exact h
  · rw [Array.getElem?_eq_none h, Array.getElem?_eq_getElem hb] at hs
    cases hs
theorem RdK.form {α : Type} {ok : Nat → Prop} {w : World} {k : Nat} {R : α → List Value → Prop} {l : List α} {v : Value} (h : RdK ok w k R l v) : ∃ a cap, v = .slice a l.length cap ∧ l.length ≤ cap ∧ cap ≤ maxLen := by
  obtain ⟨a, cap, h1, h2, h3, _⟩ := h
  exact ⟨a, cap, h1, h2, h3⟩
/-- A reading that stays where its blocks stay. -/
def Kp {α : Type} (R : (Nat → Prop) → World → α → List Value → Prop) : Prop := ∀ ⦃ok ok' : Nat → Prop⦄ ⦃w w' : World⦄ ⦃x : α⦄ ⦃cs : List Value⦄, R ok w x cs → (∀ b, ok b → b < w.heap.size → ok' b ∧ w'.heap[b]? = w.heap[b]?) → R ok' w' x cs
/-- The slice v is the call's own, from block base on, of k cells an element, and holds l; what lies behind its cells lies apart. -/
def OwnK {α : Type} (w : World) (base e k : Nat) (R : (Nat → Prop) → World → α → List Value → Prop) (v : Value) (l : List α) : Prop :=
  ∃ qs : List (List Value), w.ownsRow base e k v l.length qs.flatten ∧ qs.length = l.length ∧ ∀ (i : Nat) (h : i < l.length) (h' : i < qs.length), (qs[i]).length = k ∧ R (fun b => base ≤ b ∧ v.ownBlock ≠ some b) w l[i] qs[i]
theorem OwnK.keep {α : Type} {w w' : World} {base e k : Nat} {R : (Nat → Prop) → World → α → List Value → Prop} {v : Value} {l : List α} (hR : Kp R) (h : OwnK w base e k R v l) (hk : ∀ b, base ≤ b → b < w.heap.size → w'.heap[b]? = w.heap[b]?) : OwnK w' base e k R v l := by
  obtain ⟨qs, ho, hl, hr⟩ := h
  refine ⟨qs, ownsRow_keep ho (fun g hg => ?_), hl, fun i h h' => ⟨(hr i h h').1, hR (hr i h h').2 (fun b hb hlt => ⟨hb, hk b hb.1 hlt⟩)⟩⟩
  obtain ⟨a, b⟩ := ownsRow_lt ho g hg
  exact hk g a b
theorem OwnK.on {α : Type} {w w' : World} {base e k : Nat} {R : (Nat → Prop) → World → α → List Value → Prop} {v : Value} {l : List α} (hR : Kp R) (h : OwnK w base e k R v l) (hb : Below w.heap.size w w') : OwnK w' base e k R v l := h.keep hR (fun b _ hlt => hb.block b hlt)
theorem OwnK.fx {α : Type} {w w' : World} {base e k X : Nat} {R : (Nat → Prop) → World → α → List Value → Prop} {v : Value} {l : List α} (hR : Kp R) (h : OwnK w base e k R v l) (hf : Fx X w w') (hX : X < base) : OwnK w' base e k R v l :=
  h.keep hR (fun b hb hlt => hf.block b hlt (fun e => by have : b = X := Option.some.inj e; omega))
theorem OwnK.set {α : Type} {w : World} {base e k : Nat} {R : (Nat → Prop) → World → α → List Value → Prop} {v : Value} {l : List α} (hR : Kp R) (h : OwnK w base e k R v l) {X i : Nat} (hX : X < base) (u : Value) : OwnK (w.setCell ⟨X, i, none⟩ u) base e k R v l :=
  h.keep hR (fun b hb _ => Below.heap_setCell _ _ _ _ (fun e => by have : b = X := e; omega))
theorem OwnK.form {α : Type} {w : World} {base e k : Nat} {R : (Nat → Prop) → World → α → List Value → Prop} {v : Value} {l : List α} (h : OwnK w base e k R v l) : ∃ a cap, v = .slice a l.length cap ∧ l.length ≤ cap ∧ cap ≤ maxLen := by
  obtain ⟨qs, ho, _⟩ := h
  rcases ho.2 with ⟨h1, h2⟩ | ⟨g, cap, cur, h1, _, _, h3, h4, _⟩
  · exact ⟨none, 0, by rw [h1, h2], by omega, by simp [maxLen]⟩
  · exact ⟨_, _, h1, h3, h4⟩
/-- One more. The new one's memory lies from lo on, and the old row's block below. -/
theorem OwnK.snoc {α : Type} {w w' : World} {base e k lo n : Nat} {R : (Nat → Prop) → World → α → List Value → Prop} {v v' : Value} {l : List α} {p : α} {cs : List Value} {qs : List (List Value)} (hR : Kp R) (hk : cs.length = k)
    (hn : l.length = n) (ho : w.ownsRow base e k v n qs.flatten) (hl : qs.length = l.length) (hr : ∀ (i : Nat) (h : i < l.length) (h' : i < qs.length), (qs[i]).length = k ∧ R (fun b => base ≤ b ∧ v.ownBlock ≠ some b) w l[i] qs[i])
    (ho' : w'.ownsRow base e k v' (n + 1) (qs.flatten ++ cs)) (hg : w.grownBy w' v.ownBlock) (hat : v'.ownBlock = v.ownBlock ∨ v'.ownBlock = some w.heap.size)
    (hp : R (fun b => lo ≤ b) w p cs) (hlo : base ≤ lo) (hv : ∀ x, v.ownBlock = some x → x < lo) : OwnK w' base e k R v' (l ++ [p]) := by
  subst hn
  have key : ∀ b, base ≤ b ∧ v.ownBlock ≠ some b → b < w.heap.size → (base ≤ b ∧ v'.ownBlock ≠ some b) ∧ w'.heap[b]? = w.heap[b]? := fun b hb hlt => by
    refine ⟨⟨hb.1, fun e => ?_⟩, hg.block b hlt (fun e => hb.2 e.symm)⟩
    rcases hat with h | h
    · exact hb.2 (h ▸ e)
    · rw [h] at e; have : w.heap.size = b := Option.some.inj e; omega
  refine ⟨qs ++ [cs], ?_, by simp [hl], fun i h h' => ?_⟩
  · rw [List.flatten_append, List.length_append]
    simpa using ho'
  · rcases Nat.lt_or_ge i l.length with hi | hi
    · rw [List.getElem_append_left hi, List.getElem_append_left (by omega)]
      exact ⟨(hr i hi (by omega)).1, hR (hr i hi (by omega)).2 key⟩
    · have : i = l.length := by simp at h; omega
      subst this
      have e1 : (l ++ [p])[l.length] = p := by simp
      have e2 : (qs ++ [cs])[l.length]'h' = cs := by simp [← hl]
      rw [e1, e2]
      exact ⟨hk, hR hp (fun b hb hlt => key b ⟨by omega, fun e => by have := hv b e; omega⟩ hlt)⟩
theorem flat_at {k : Nat} : ∀ (qs : List (List Value)) (i j : Nat) (h : i < qs.length) (u : Value), (∀ (i : Nat) (h : i < qs.length), (qs[i]).length = k) → (qs[i])[j]? = some u → qs.flatten[i * k + j]? = some u
  | [], i, j, h, u, _, _ => by simp at h
  | x :: t, 0, j, h, u, hk, hu => by
    have hu' : x[j]? = some u := hu
    have hj := (List.getElem?_eq_some_iff.1 hu').1
    rw [List.flatten_cons, Nat.zero_mul, Nat.zero_add, List.getElem?_append_left hj]
    exact hu'
  | x :: t, i + 1, j, h, u, hk, hu => by
    have hx : x.length = k := hk 0 (by simp)
    have e : (i + 1) * k + j = x.length + (i * k + j) := by rw [hx, Nat.succ_mul]; omega
    rw [List.flatten_cons, e, List.getElem?_append_right (by omega), Nat.add_sub_cancel_left]
    exact flat_at t i j (by simpa using h) u (fun i h => hk (i + 1) (by simpa using h)) hu
/-- It reads as the list. -/
theorem OwnK.rd {α : Type} {w : World} {base e k : Nat} {R : (Nat → Prop) → World → α → List Value → Prop} {v : Value} {l : List α} (hR : Kp R) (h : OwnK w base e k R v l) : RdK (fun b => base ≤ b) w k (R (fun b => base ≤ b) w) l v := by
  obtain ⟨qs, ho, hl, hr⟩ := h
  have hc := fun g => World.ownsRow.cells ho (g := g)
  rcases ho.2 with ⟨rfl, hn⟩ | ⟨g, cap, cur, rfl, hb, hg, hnc, hcm, hcs, htake⟩
  · have hx : l = [] := List.eq_nil_of_length_eq_zero hn
    subst hx
    exact rdK_none _ w k _
  · refine ⟨some ⟨g, 0, none⟩, cap, rfl, hnc, hcm, fun i hi => ⟨g, 0, qs[i], rfl, hb, (Array.getElem?_eq_some_iff.1 hg).1, (hr i hi (by omega)).1, hR (hr i hi (by omega)).2 (fun b hb _ => ⟨hb.1, rfl⟩), fun j u hu => ?_⟩⟩
    have := hc g rfl (i * k + j) u (flat_at qs i j (by omega) u (fun i h => (hr i (by omega) h).1) hu)
    rw [add_plain] at this
    rw [Nat.zero_add]
    rwa [Nat.zero_add] at this
/-- Read from a lower block on. -/
theorem RdK.low {α : Type} {w : World} {base lo k : Nat} {R : (Nat → Prop) → World → α → List Value → Prop} {v : Value} {l : List α} (hR : Kp R) (h : RdK (fun b => base ≤ b) w k (R (fun b => base ≤ b) w) l v) (hlo : lo ≤ base) : RdK (fun b => lo ≤ b) w k (R (fun b => lo ≤ b) w) l v :=
  h.keep (fun x _ u hu => hR hu (fun b hb _ => ⟨by omega, rfl⟩)) (fun b hb _ => ⟨by omega, rfl⟩)
theorem RdK.stay {α : Type} {ok ok' : Nat → Prop} {w w' : World} {k : Nat} {R : (Nat → Prop) → World → α → List Value → Prop} {v : Value} {l : List α} (hR : Kp R) (h : RdK ok w k (R ok w) l v) (hk : ∀ b, ok b → b < w.heap.size → ok' b ∧ w'.heap[b]? = w.heap[b]?) : RdK ok' w' k (R ok' w') l v :=
  h.keep (fun x _ u hu => hR hu hk) hk
end Go.Proofs.YtifgbioacknjpaaGreatDoor

/- Charts, and how they are read of words, as the document's reader does. Math alone. -/
namespace Go.Proofs.YtifgbioacknjpaaGreatDoor
open Go.RowKit Go.Lib
set_option linter.unusedVariables false

abbrev Pl := Int × Int
/-- An on: event, guard (is there one, and which), target, sets, place. -/
abbrev OnC := List UInt8 × (Bool × Sx) × List UInt8 × List (List UInt8 × Sx) × Pl
/-- A state but for what lies in it: name, place, all, end, do, undo, where, retries, ons. -/
abbrev HdC := (List UInt8 × Pl) × (Bool × Bool) × (List UInt8 × List UInt8) × (Int × Int) × List OnC
/-- States that lie less than d deep in one another. -/
def St : Nat → Type
  | 0 => Empty
  | d + 1 => HdC × List (St d)
/-- The reader: the words that are left, the place of the first error, the error. -/
abbrev RsC := List Wd × Pl × Int
def wPl (w : Wd) : Pl := (w.2.2.1, w.2.2.2)
section
variable (fin : Pl)
def hereR (r : RsC) : Pl := match r.1 with | [] => fin | w :: _ => wPl w
def failC (e : Int) (p : Pl) (r : RsC) : RsC := if r.2.2 = 0 then (r.1, p, e) else r
def isC (s : List UInt8) (r : RsC) : Bool := decide (r.2.2 = 0) && (match r.1 with | [] => false | w :: _ => decide ((tkW w).2 = s))
def takeR (s : List UInt8) (r : RsC) : RsC := if isC s r = true then (r.1.tail, r.2) else failC 12 (hereR fin r) r
/-- Is it a name that is not reserved? -/
def plainB (s : List UInt8) : Bool := nameS s && !rsvB s
def nameR (r : RsC) : (List UInt8 × Pl) × RsC := match r.2.2 = 0, r.1 with
  | _, [] => (([], (0, 0)), failC 12 (hereR fin r) r)
  | _, w :: l => if r.2.2 = 0 ∧ plainB (tkW w).2 = true then (((tkW w).2, wPl w), (l, r.2)) else (([], (0, 0)), failC 12 (hereR fin r) r)
def numR (r : RsC) : Int × RsC := match r.1 with
  | [] => (0, failC 12 (hereR fin r) r)
  | w :: l => if r.2.2 = 0 ∧ w.1 = 2 then (valB 0 (tkW w).2, (l, r.2)) else (0, failC 12 (hereR fin r) r)
def exprR (r : RsC) : Sx × RsC := if r.2.2 ≠ 0 then (noX, r) else
  if (takeC (r.1.map tkW)).2.2 = 0 then ((takeC (r.1.map tkW)).1, (r.1.drop (takeC (r.1.map tkW)).2.1, r.2)) else
  if (takeC (r.1.map tkW)).2.2 = 13 then ((takeC (r.1.map tkW)).1, failC 13 (hereR fin r) r) else
  ((takeC (r.1.map tkW)).1, failC (takeC (r.1.map tkW)).2.2 (hereR fin (r.1.drop (takeC (r.1.map tkW)).2.1, r.2)) (r.1.drop (takeC (r.1.map tkW)).2.1, r.2))
def wOn : List UInt8 := [111, 110]
def wIf : List UInt8 := [105, 102]
def wGo : List UInt8 := [103, 111]
def wSet : List UInt8 := [115, 101, 116]
def wAll : List UInt8 := [97, 108, 108]
def wEnd : List UInt8 := [101, 110, 100]
def wDo : List UInt8 := [100, 111]
def wUndo : List UInt8 := [117, 110, 100, 111]
def wAt : List UInt8 := [97, 116]
def wRetries : List UInt8 := [114, 101, 116, 114, 105, 101, 115]
def wState : List UInt8 := [115, 116, 97, 116, 101]
def wChart : List UInt8 := [99, 104, 97, 114, 116]
def wVar : List UInt8 := [118, 97, 114]
/-- The sets behind an on; g bounds how many. -/
def setsR : Nat → List (List UInt8 × Sx) → RsC → List (List UInt8 × Sx) × RsC
  | 0, acc, r => (acc, r)
  | g + 1, acc, r => if isC wSet r = true then
      let a := nameR fin (takeR fin wSet r)
      let b := exprR fin (takeR fin [61] a.2)
      setsR g (acc ++ [(a.1.1, b.1)]) b.2
    else (acc, r)
def onR (r : RsC) : OnC × RsC :=
  let a := nameR fin (takeR fin wOn r)
  let g : (Bool × Sx) × RsC := if isC wIf a.2 = true then ((fun x => ((true, x.1), x.2)) (exprR fin (takeR fin wIf a.2))) else ((false, noX), a.2)
  let t := nameR fin (takeR fin wGo g.2)
  let s := setsR fin (t.2.1.length + 1) [] t.2
  ((a.1.1, g.1, t.1.1, s.1, a.1.2), s.2)
/-- What kind of state it is: all, end, do .. undo .. at .. retries, or nothing of these. -/
def kindR (r : RsC) : ((Bool × Bool) × (List UInt8 × List UInt8) × (Int × Int)) × RsC :=
  if isC wAll r = true then (((true, false), ([], []), (0, 0)), takeR fin wAll r) else
  if isC wEnd r = true then (((false, true), ([], []), (0, 0)), takeR fin wEnd r) else
  if isC wDo r = true then
    let a := nameR fin (takeR fin wDo r)
    let b := nameR fin (takeR fin wUndo a.2)
    let c := numR fin (takeR fin wAt b.2)
    let e := numR fin (takeR fin wRetries c.2)
    (((false, false), (a.1.1, b.1.1), (c.1, e.1)), e.2)
  else (((false, false), ([], []), (0, 0)), r)
/-- The ons and states within a state, of a reader of inner states; g bounds how many. -/
def inR {α : Type} (inner : RsC → α × RsC) : Nat → List OnC → List α → RsC → (List OnC × List α) × RsC
  | 0, os, ss, r => ((os, ss), r)
  | g + 1, os, ss, r => if r.2.2 = 0 ∧ isC [125] r = false then
      if isC wOn r = true then inR inner g (os ++ [(onR fin r).1]) ss (onR fin r).2
      else inR inner g os (ss ++ [(inner r).1]) (inner r).2
    else ((os, ss), r)
/-- A state, k below the deepest that may be: at 0 all is refused. -/
def stR : (k : Nat) → RsC → St (k + 1) × RsC
  | 0, r => (((([], (0, 0)), (false, false), ([], []), (0, 0), []), []), failC (if isC wState r = true then 13 else 12) (hereR fin r) r)
  | k + 1, r =>
    let a := nameR fin (takeR fin wState r)
    let b := kindR fin (takeR fin [123] a.2)
    let c := inR fin (stR k) (b.2.1.length + 1) [] [] b.2
    (((a.1, b.1.1, b.1.2.1, b.1.2.2, c.1.1), c.1.2), takeR fin [125] c.2)
/-- The variables; g bounds how many. -/
def varsR : Nat → List (List UInt8 × Int × Pl) → RsC → List (List UInt8 × Int × Pl) × RsC
  | 0, acc, r => (acc, r)
  | g + 1, acc, r => if isC wVar r = true then
      let a := nameR fin (takeR fin wVar r)
      let b := takeR fin [61] a.2
      let n := if isC [45] b = true then (fun x => (-x.1, x.2)) (numR fin (takeR fin [45] b)) else numR fin b
      varsR g (acc ++ [(a.1.1, n.1, a.1.2)]) n.2
    else (acc, r)
end
/-- No words more; without an error behind it there was none ahead. -/
def Goes (r r' : RsC) : Prop := r'.1.length ≤ r.1.length ∧ (r'.2.2 = 0 → r.2.2 = 0)
theorem Goes.refl (r : RsC) : Goes r r := ⟨Nat.le_refl _, id⟩
theorem Goes.trans {a b c : RsC} (h : Goes a b) (k : Goes b c) : Goes a c := ⟨Nat.le_trans k.1 h.1, fun e => h.2 (k.2 e)⟩
section
variable (fin : Pl)
end
end Go.Proofs.YtifgbioacknjpaaGreatDoor

/- Charts in the program's memory. -/
namespace Go.Proofs.YtifgbioacknjpaaGreatDoor
open Go.RowKit Go.Lib
set_option linter.unusedSimpArgs false
set_option linter.unusedVariables false

/-- A text of bytes as a value. -/
def sV (l : List UInt8) : Value := .string ⟨l.toArray⟩
def rSet (ok : Nat → Prop) (w : World) (x : List UInt8 × Sx) (cs : List Value) : Prop := cs = [sV x.1, exX x.2]
theorem kp_set : Kp rSet := fun _ _ _ _ _ _ h _ => h
/-- The guard: nil where there is none. -/
def gdV (g : Bool × Sx) : Value := if g.1 = true then exX g.2 else .nilIface
theorem gdV_form (g : Bool × Sx) : gdV g = .nilIface ∨ ∃ u y, gdV g = .iface u y := by
  unfold gdV
  split
  · exact exX_form _
  · exact .inl rfl
def onV (o : OnC) (sl : Value) : List Value := [sV o.1, gdV o.2.1, sV o.2.2.1, sl, .int .i64 o.2.2.2.2.1, .int .i64 o.2.2.2.2.2]
def rOn (ok : Nat → Prop) (w : World) (o : OnC) (cs : List Value) : Prop := ∃ sl, cs = onV o sl ∧ RdK ok w 2 (rSet ok w) o.2.2.2.1 sl
theorem kp_on : Kp rOn := fun _ _ _ _ _ _ ⟨sl, h, hr⟩ hk => ⟨sl, h, hr.stay kp_set hk⟩
def hdV (h : HdC) (so si : Value) : List Value := [sV h.1.1, .int .i64 h.1.2.1, .int .i64 h.1.2.2, .bool h.2.1.1, .bool h.2.1.2, sV h.2.2.1.1, sV h.2.2.1.2, .int .i64 h.2.2.2.1.1, .int .i64 h.2.2.2.1.2, so, si]
def rSt : (d : Nat) → (Nat → Prop) → World → St d → List Value → Prop
  | 0, _, _, t, _ => Empty.elim t
  | d + 1, ok, w, t, cs => ∃ so si, cs = hdV t.1 so si ∧ RdK ok w 6 (rOn ok w) t.1.2.2.2.2 so ∧ RdK ok w 11 (rSt d ok w) t.2 si
theorem kp_st : ∀ d, Kp (rSt d)
  | 0 => fun _ _ _ _ x _ _ _ => Empty.elim x
  | d + 1 => fun _ _ _ _ _ _ ⟨so, si, h, h1, h2⟩ hk => ⟨so, si, h, h1.stay kp_on hk, h2.stay (kp_st d) hk⟩
def varV (x : List UInt8 × Int × Pl) : List Value := [sV x.1, .int .i64 x.2.1, .int .i64 x.2.2.1, .int .i64 x.2.2.2]
def rVar (ok : Nat → Prop) (w : World) (x : List UInt8 × Int × Pl) (cs : List Value) : Prop := cs = varV x
theorem kp_var : Kp rVar := fun _ _ _ _ _ _ h _ => h
/-- A chart whose states lie less than d deep. -/
abbrev ChG (d : Nat) := (List UInt8 × Pl) × Int × List (List UInt8 × Int × Pl) × List (St d)
def RdC (ok : Nat → Prop) (w : World) (d : Nat) (c : ChG d) (v : Value) : Prop :=
  ∃ sv ss, v = .agg #[sV c.1.1, .int .i64 c.2.1, .int .i64 c.1.2.1, .int .i64 c.1.2.2, sv, ss] ∧ RdK ok w 4 (rVar ok w) c.2.2.1 sv ∧ RdK ok w 11 (rSt d ok w) c.2.2.2 ss
theorem RdC.keep {ok ok' : Nat → Prop} {w w' : World} {d : Nat} {c : ChG d} {v : Value} (h : RdC ok w d c v) (hk : ∀ b, ok b → b < w.heap.size → ok' b ∧ w'.heap[b]? = w.heap[b]?) : RdC ok' w' d c v := by
  obtain ⟨sv, ss, h1, h2, h3⟩ := h
  exact ⟨sv, ss, h1, h2.stay kp_var hk, h3.stay (kp_st d) hk⟩

theorem cells_new {w : World} {cs : List Value} {e : TypeId} : ∀ j u, cs[j]? = some u → (w.alloc (.cells cs.toArray e)).cell? ((⟨w.heap.size, 0, none⟩ : Addr).add j) = some u := fun j u hu => by
  rw [add_plain, Nat.zero_add]
  exact (Bn.new w cs e _ rfl j u hu).1
theorem src_row {P : Program} {t e : TypeId} (ht : P.underlying t = some (.slice e)) (w : World) {k : Nat} (cs : List Value) (hk : cs.length = k) (h1 : ∀ u ∈ cs, u.oneCell' = true) : Src P k t (.slice (some ⟨w.heap.size, 0, none⟩) 1 1) 1 cs (w.alloc (.cells cs.toArray e)) :=
  Src.ofSlice _ ht _ 1 1 _ (by rw [Nat.one_mul]; exact hk) cells_new h1
/-- Nothing but two blocks has turned, and new blocks. -/
structure Fy (X Y : Nat) (w w' : World) : Prop where
  os : w'.os = w.os
  tape : w'.tape = w.tape
  output : w'.output = w.output
  size : w.heap.size ≤ w'.heap.size
  block : ∀ k, k < w.heap.size → k ≠ X → k ≠ Y → w'.heap[k]? = w.heap[k]?
theorem Fy.of {X Y : Nat} {a b : World} (h : Fx X a b) : Fy X Y a b := ⟨h.os, h.tape, h.output, h.size, fun k hk h1 _ => h.block k hk (fun e => h1 (Option.some.inj e))⟩
theorem Fy.trans {X Y : Nat} {a b c : World} (h : Fy X Y a b) (k : Fy X Y b c) : Fy X Y a c :=
  ⟨k.os.trans h.os, k.tape.trans h.tape, k.output.trans h.output, Nat.le_trans h.size k.size, fun j hj h1 h2 => (k.block j (Nat.lt_of_lt_of_le hj h.size) h1 h2).trans (h.block j hj h1 h2)⟩

/-- As OwnK; nothing of it lies in a block that is bad. -/
def OwnB {α : Type} (w : World) (base : Nat) (bad : Nat → Prop) (e k : Nat) (R : (Nat → Prop) → World → α → List Value → Prop) (v : Value) (l : List α) : Prop :=
  ∃ qs : List (List Value), w.ownsRow base e k v l.length qs.flatten ∧ qs.length = l.length ∧ (∀ (i : Nat) (h : i < l.length) (h' : i < qs.length), (qs[i]).length = k ∧ R (fun b => base ≤ b ∧ v.ownBlock ≠ some b ∧ ¬ bad b) w l[i] qs[i]) ∧ ∀ g, v.ownBlock = some g → ¬ bad g
theorem ownB_nil {α : Type} (w : World) (base : Nat) (bad : Nat → Prop) (e k : Nat) (R : (Nat → Prop) → World → α → List Value → Prop) : OwnB w base bad e k R (.slice none 0 0) [] := ⟨[], World.ownsRow_nil w base e k, rfl, fun i h => absurd h (by simp), fun g hg => by simp [Value.ownBlock] at hg⟩
theorem OwnB.keep {α : Type} {w w' : World} {base e k : Nat} {bad bad' : Nat → Prop} {R : (Nat → Prop) → World → α → List Value → Prop} {v : Value} {l : List α} (hR : Kp R) (h : OwnB w base bad e k R v l) (hk : ∀ b, base ≤ b → ¬ bad b → b < w.heap.size → w'.heap[b]? = w.heap[b]? ∧ ¬ bad' b) : OwnB w' base bad' e k R v l := by
  obtain ⟨qs, ho, hl, hr, hg0⟩ := h
  refine ⟨qs, ownsRow_keep ho (fun g hg => ?_), hl, fun i h h' => ⟨(hr i h h').1, hR (hr i h h').2 (fun b hb hlt => ⟨⟨hb.1, hb.2.1, (hk b hb.1 hb.2.2 hlt).2⟩, (hk b hb.1 hb.2.2 hlt).1⟩)⟩, fun g hg => ?_⟩
  · obtain ⟨a, b⟩ := ownsRow_lt ho g hg
    exact (hk g a (hg0 g hg) b).1
  · obtain ⟨a, b⟩ := ownsRow_lt ho g hg
    exact (hk g a (hg0 g hg) b).2
theorem OwnB.on {α : Type} {w w' : World} {base e k : Nat} {bad : Nat → Prop} {R : (Nat → Prop) → World → α → List Value → Prop} {v : Value} {l : List α} (hR : Kp R) (h : OwnB w base bad e k R v l) (hb : Below w.heap.size w w') : OwnB w' base bad e k R v l := h.keep hR (fun b _ hbad hlt => ⟨hb.block b hlt, hbad⟩)
theorem OwnB.fx {α : Type} {w w' : World} {base e k X : Nat} {bad : Nat → Prop} {R : (Nat → Prop) → World → α → List Value → Prop} {v : Value} {l : List α} (hR : Kp R) (h : OwnB w base bad e k R v l) (hf : Fx X w w') (hX : X < base) : OwnB w' base bad e k R v l :=
  h.keep hR (fun b hb hbad hlt => ⟨hf.block b hlt (fun e => by have : b = X := Option.some.inj e; omega), hbad⟩)
theorem OwnB.set {α : Type} {w : World} {base e k : Nat} {bad : Nat → Prop} {R : (Nat → Prop) → World → α → List Value → Prop} {v : Value} {l : List α} (hR : Kp R) (h : OwnB w base bad e k R v l) {X i : Nat} (hX : X < base) (u : Value) : OwnB (w.setCell ⟨X, i, none⟩ u) base bad e k R v l :=
  h.keep hR (fun b hb hbad _ => ⟨Below.heap_setCell _ _ _ _ (fun e => by have : b = X := e; omega), hbad⟩)
theorem OwnB.form {α : Type} {w : World} {base e k : Nat} {bad : Nat → Prop} {R : (Nat → Prop) → World → α → List Value → Prop} {v : Value} {l : List α} (h : OwnB w base bad e k R v l) : ∃ a cap, v = .slice a l.length cap ∧ l.length ≤ cap ∧ cap ≤ maxLen := by
  obtain ⟨qs, ho, _⟩ := h
  rcases ho.2 with ⟨h1, h2⟩ | ⟨g, cap, cur, h1, _, _, h3, h4, _⟩
  · exact ⟨none, 0, by rw [h1, h2], by omega, by simp [maxLen]⟩
  · exact ⟨_, _, h1, h3, h4⟩
theorem OwnB.lt {α : Type} {w : World} {base e k : Nat} {bad : Nat → Prop} {R : (Nat → Prop) → World → α → List Value → Prop} {v : Value} {l : List α} (h : OwnB w base bad e k R v l) : ∀ g, v.ownBlock = some g → base ≤ g ∧ g < w.heap.size := by
  obtain ⟨qs, ho, _⟩ := h
  exact ownsRow_lt ho
/-- The other row has grown. -/
theorem OwnB.other {α : Type} {w w' : World} {base e k : Nat} {u u' : Value} {R : (Nat → Prop) → World → α → List Value → Prop} {v : Value} {l : List α} (hR : Kp R) (h : OwnB w base (fun b => u.ownBlock = some b) e k R v l) (hg : w.grownBy w' u.ownBlock) (hat : u'.ownBlock = u.ownBlock ∨ u'.ownBlock = some w.heap.size) : OwnB w' base (fun b => u'.ownBlock = some b) e k R v l :=
  h.keep hR (fun b hb hbad hlt => ⟨hg.block b hlt (fun e => hbad e.symm), fun q => by
    rcases hat with h | h
    · exact hbad (h ▸ q)
    · rw [h] at q; have : w.heap.size = b := Option.some.inj q; omega⟩)
theorem OwnB.snoc {α : Type} {w w' : World} {base e k lo n : Nat} {bad : Nat → Prop} {R : (Nat → Prop) → World → α → List Value → Prop} {v v' : Value} {l : List α} {p : α} {cs : List Value} {qs : List (List Value)} (hR : Kp R) (hk : cs.length = k)
    (hn : l.length = n) (ho : w.ownsRow base e k v n qs.flatten) (hl : qs.length = l.length) (hr : ∀ (i : Nat) (h : i < l.length) (h' : i < qs.length), (qs[i]).length = k ∧ R (fun b => base ≤ b ∧ v.ownBlock ≠ some b ∧ ¬ bad b) w l[i] qs[i])
    (ho' : w'.ownsRow base e k v' (n + 1) (qs.flatten ++ cs)) (hg : w.grownBy w' v.ownBlock) (hat : v'.ownBlock = v.ownBlock ∨ v'.ownBlock = some w.heap.size)
    (hp : R (fun b => lo ≤ b) w p cs) (hlo : base ≤ lo) (hv : ∀ x, v.ownBlock = some x → x < lo) (hbad : ∀ b, bad b → b < lo ∧ b < w.heap.size) (hvb : ∀ g, v.ownBlock = some g → ¬ bad g) : OwnB w' base bad e k R v' (l ++ [p]) := by
  subst hn
  have key : ∀ b, base ≤ b ∧ v.ownBlock ≠ some b ∧ ¬ bad b → b < w.heap.size → (base ≤ b ∧ v'.ownBlock ≠ some b ∧ ¬ bad b) ∧ w'.heap[b]? = w.heap[b]? := fun b hb hlt => by
    refine ⟨⟨hb.1, fun e => ?_, hb.2.2⟩, hg.block b hlt (fun e => hb.2.1 e.symm)⟩
    rcases hat with h | h
    · exact hb.2.1 (h ▸ e)
    · rw [h] at e; have : w.heap.size = b := Option.some.inj e; omega
  refine ⟨qs ++ [cs], ?_, by simp [hl], fun i h h' => ?_, fun g hg' => ?_⟩
  · rw [List.flatten_append, List.length_append]
    simpa using ho'
  · rcases Nat.lt_or_ge i l.length with hi | hi
    · rw [List.getElem_append_left hi, List.getElem_append_left (by omega)]
      exact ⟨(hr i hi (by omega)).1, hR (hr i hi (by omega)).2 key⟩
    · have : i = l.length := by simp at h; omega
      subst this
      have e1 : (l ++ [p])[l.length] = p := by simp
      have e2 : (qs ++ [cs])[l.length]'h' = cs := by simp [← hl]
      rw [e1, e2]
      exact ⟨hk, hR hp (fun b hb hlt => key b ⟨by omega, fun e => by have := hv b e; omega, fun q => by have := (hbad b q).1; omega⟩ hlt)⟩
  · rcases hat with h | h
    · exact hvb g (h ▸ hg')
    · rw [h] at hg'
      have : w.heap.size = g := Option.some.inj hg'
      intro q
      have := (hbad g q).2
      omega
theorem OwnB.rd {α : Type} {w : World} {base e k : Nat} {bad : Nat → Prop} {R : (Nat → Prop) → World → α → List Value → Prop} {v : Value} {l : List α} (hR : Kp R) (h : OwnB w base bad e k R v l) : RdK (fun b => base ≤ b) w k (R (fun b => base ≤ b) w) l v := by
  obtain ⟨qs, ho, hl, hr, _⟩ := h
  exact OwnK.rd hR ⟨qs, ho, hl, fun i h h' => ⟨(hr i h h').1, hR (hr i h h').2 (fun b hb _ => ⟨⟨hb.1, hb.2.1⟩, rfl⟩)⟩⟩
theorem step_pushB {α : Type} {P : Program} (w : World) {ops : Array Oper} {o : Oper} {a : Act} {K : Act → World → Prop} {Q : Exit → Act → World → Prop} {E : Prop} (hgd : o.guard = none) (s x : Operand) (t : TypeId)
    (ho : o.op = .call { callee := .builtin .append, args := #[s, x], argTypes := #[t, t] })
    (base : Nat) (bad : Nat → Prop) (e : TypeId) (i : TypeInfo) (z : Value) (k bytes : Nat) (ht : P.underlying t = some (.slice e)) (hi : P.info? e = some i) (hz : i.zero = some z)
    (hsize : i.size = k) (hby : i.bytes = bytes) (hzs : z.cells.size = k) {R : (Nat → Prop) → World → α → List Value → Prop} (hR : Kp R)
    (v : Value) (l : List α) (p : α) (cs : List Value) (lo : Nat) (hs : a.eval s = v) (hx : a.eval x = .slice (some ⟨w.heap.size, 0, none⟩) 1 1) (hk : cs.length = k) (h1 : ∀ u ∈ cs, u.oneCell' = true)
    (hown : OwnB w base bad e k R v l) (hp : R (fun b => lo ≤ b) w p cs) (hlo : base ≤ lo) (hv : ∀ x, v.ownBlock = some x → x < lo) (hbad : ∀ b, bad b → b < lo ∧ b < w.heap.size) (hroom : (l.length + 1 + (l.length + 1) / 4 + 192) * bytes ≤ 281474976710656)
    (h63 : l.length + 1 ≤ maxLen) (hbase : base ≤ w.heap.size)
    (h : ∀ v' w', OwnB w' base bad e k R v' (l ++ [p]) → (w.alloc (.cells cs.toArray e)).grownBy w' v.ownBlock → Below base w w' → (v'.ownBlock = v.ownBlock ∨ v'.ownBlock = some (w.alloc (.cells cs.toArray e)).heap.size) → K (a.put o.dst v') w') :
    if Region.wanted o (yielded ops a.tmps) = true then Oper.wp P o a (w.alloc (.cells cs.toArray e)) K Q else E := by
  have hal : Below w.heap.size w (w.alloc (.cells cs.toArray e)) := (Below.refl _ _).alloc (Nat.le_refl _) _
  obtain ⟨qs, ho1, hl1, hr1, hg1⟩ := hown.on hR hal
  refine step_append_at _ hgd s x t t ho base e i z k bytes ht hi hz hsize hby hzs v l.length qs.flatten hs ho1 _ 1 cs hx (src_row ht w cs hk h1) 1 (.inr hroom) (Nat.le_refl _) h63 (Nat.le_trans hbase hal.size) ?_
  intro v' w' hown' hg hat
  refine h v' w' (OwnB.snoc hR hk rfl ho1 hl1 hr1 hown' hg hat (hR hp (fun b hb hlt => ⟨hb, hal.block b hlt⟩)) hlo hv (fun b q => ⟨(hbad b q).1, Nat.lt_of_lt_of_le (hbad b q).2 hal.size⟩) hg1) hg ?_ hat
  exact ((Below.refl base w).alloc hbase _).grown hg (Nat.le_trans hbase hal.size) (fun k hk => (World.ownsRow.lt ho1 k hk).1)
/-- Cells written one behind the other. -/
def putL (w : World) (g : Nat) : Nat → List Value → World
  | _, [] => w
  | o, c :: cs => putL (w.setCell ⟨g, o, none⟩ c) g (o + 1) cs
theorem putL_own : ∀ (cs zs xs ys : List Value) (w : World) (base e k : Nat) (g n cap o : Nat), zs.length = cs.length → xs.length = o → w.ownsRow base e k (.slice (some ⟨g, 0, none⟩) n cap) n (xs ++ zs ++ ys) → (putL w g o cs).ownsRow base e k (.slice (some ⟨g, 0, none⟩) n cap) n (xs ++ cs ++ ys)
  | [], zs, xs, ys, w, base, e, k, g, n, cap, o, hz, hx, h => by
    have : zs = [] := List.eq_nil_of_length_eq_zero (by simpa using hz)
    subst this
    exact h
  | c :: cs, [], xs, ys, w, base, e, k, g, n, cap, o, hz, hx, h => by simp at hz
  | c :: cs, z :: zs, xs, ys, w, base, e, k, g, n, cap, o, hz, hx, h => by
    have h1 := (World.ownsRow.stored h o c).1
    have e1 : (xs ++ z :: zs ++ ys).set o c = (xs ++ [c]) ++ zs ++ ys := by
      subst hx
      simp
    rw [e1] at h1
    have h2 := putL_own cs zs (xs ++ [c]) ys _ base e k g n cap (o + 1) (by simpa using hz) (by simp [hx]) h1
    have e2 : xs ++ [c] ++ cs ++ ys = xs ++ (c :: cs) ++ ys := by simp
    rw [e2] at h2
    exact h2
theorem putL_heap : ∀ (cs : List Value) (w : World) (g o k : Nat), k ≠ g → (putL w g o cs).heap[k]? = w.heap[k]?
  | [], w, g, o, k, h => rfl
  | c :: cs, w, g, o, k, h => by
    unfold putL
    rw [putL_heap cs _ g (o + 1) k h]
    exact Below.heap_setCell _ _ _ _ (fun e => h e)
theorem putL_below {B : Nat} {u : World} : ∀ (cs : List Value) (w : World) (g o : Nat), Below B u w → B ≤ g → Below B u (putL w g o cs)
  | [], w, g, o, h, hg => h
  | c :: cs, w, g, o, h, hg => putL_below cs _ g (o + 1) (h.setCell hg c) hg

/-- In block G a row of n elements of k cells; the first of them are these. -/
def RowG {α : Type} (w : World) (G k n : Nat) (R : (Nat → Prop) → World → α → List Value → Prop) (l : List α) : Prop :=
  (∀ j, j < n * k → (∃ u, w.cell? ⟨G, j, none⟩ = some u) ∧ w.frozen? ⟨G, j, none⟩ = false) ∧
  ∀ (i : Nat) (h : i < l.length), ∃ cs, cs.length = k ∧ R (fun b => G < b) w l[i] cs ∧ ∀ j u, cs[j]? = some u → w.cell? ⟨G, i * k + j, none⟩ = some u
theorem RowG.made {α : Type} (w : World) (z : Array Value) (k n : Nat) (e : TypeId) (R : (Nat → Prop) → World → α → List Value → Prop) : RowG (w.alloc (.cells (madeCells z (n * k)) e)) w.heap.size k n R ([] : List α) := by
  refine ⟨fun j hj => ⟨?_, by simp⟩, fun i h => absurd h (by simp)⟩
  rw [World.cell?_alloc_new]
  have hs : j < (madeCells z (n * k)).size := by rw [size_madeCells]; exact hj
  exact ⟨_, Array.getElem?_eq_getElem hs⟩
theorem RowG.on {α : Type} {w w' : World} {G k n : Nat} {R : (Nat → Prop) → World → α → List Value → Prop} {l : List α} (hR : Kp R) (hG : G < w.heap.size) (h : RowG w G k n R l) (hb : Below w.heap.size w w') : RowG w' G k n R l := by
  refine ⟨fun j hj => ?_, fun i hi => ?_⟩
  · obtain ⟨⟨u, hu⟩, hf⟩ := h.1 j hj
    exact ⟨⟨u, (hb.cell (p := ⟨G, j, none⟩) hG).trans hu⟩, (hb.frozen (p := ⟨G, j, none⟩) hG).trans hf⟩
  · obtain ⟨cs, h1, h2, h3⟩ := h.2 i hi
    exact ⟨cs, h1, hR h2 (fun b hb' hl => ⟨hb', hb.block b hl⟩), fun j u hu => (hb.cell (p := ⟨G, i * k + j, none⟩) hG).trans (h3 j u hu)⟩
theorem putL_cell : ∀ (cs : List Value) (w : World) (G o j : Nat), (∀ i, i < cs.length → ∃ u, w.cell? ⟨G, o + i, none⟩ = some u) → (putL w G o cs).cell? ⟨G, j, none⟩ = if o ≤ j ∧ j < o + cs.length then cs[j - o]? else w.cell? ⟨G, j, none⟩
  | [], w, G, o, j, _ => by rw [if_neg (by simp only [List.length_nil]; omega)]; rfl
  | c :: cs, w, G, o, j, h => by
    have h' : ∀ i, i < cs.length → ∃ u, (w.setCell ⟨G, o, none⟩ c).cell? ⟨G, o + 1 + i, none⟩ = some u := fun i hi => by
      obtain ⟨u, hu⟩ := h (i + 1) (by simp; omega)
      exact ⟨u, cell_far4 (by omega) (by rw [show o + 1 + i = o + (i + 1) by omega]; exact hu)⟩
    show (putL (w.setCell ⟨G, o, none⟩ c) G (o + 1) cs).cell? ⟨G, j, none⟩ = _
    rw [putL_cell cs _ G (o + 1) j h']
    obtain ⟨u, hu⟩ := h 0 (by simp)
    rw [Nat.add_zero] at hu
    by_cases hj : o + 1 ≤ j ∧ j < o + 1 + cs.length
    · rw [if_pos hj, if_pos (by simp only [List.length_cons]; omega), show j - o = (j - (o + 1)) + 1 by omega, List.getElem?_cons_succ]
    · rw [if_neg hj]
      by_cases he : o = j
      · subst he
        rw [if_pos (by simp only [List.length_cons]; omega), Nat.sub_self, List.getElem?_cons_zero]
        exact cell_same4 hu
      · rw [if_neg (by simp only [List.length_cons]; omega)]
        cases hw : w.cell? ⟨G, j, none⟩ with
        | some v => exact cell_far4 (by omega) hw
        | none =>
          unfold World.setCell World.cell? at *
          simp only [Array.getElem?_modify] at hw ⊢
          by_cases hb : w.heap[G]? = none
          · simp [hb]
          · obtain ⟨x, hx⟩ := Option.ne_none_iff_exists'.1 hb
            simp only [hx] at hw ⊢
            cases x <;> simp_all [Array.getElem?_set]
theorem putL_frozen : ∀ (cs : List Value) (w : World) (G o : Nat) (p : Addr), (putL w G o cs).frozen? p = w.frozen? p
  | [], w, G, o, p => rfl
  | c :: cs, w, G, o, p => by
    show (putL (w.setCell ⟨G, o, none⟩ c) G (o + 1) cs).frozen? p = _
    rw [putL_frozen cs _ G (o + 1) p]
    exact World.frozen?_setCell _ _ _ _
theorem mul_in {i j k m : Nat} (hi : i < m) (hj : j < k) : i * k + j < m * k := by
  have : (i + 1) * k ≤ m * k := Nat.mul_le_mul_right k hi
  rw [Nat.succ_mul] at this
  omega
theorem RowG.put {α : Type} {w : World} {G k n : Nat} {R : (Nat → Prop) → World → α → List Value → Prop} {l : List α} {x : α} {cs : List Value} (hR : Kp R) (h : RowG w G k n R l) (hl : l.length < n) (hk : cs.length = k) (hp : R (fun b => G < b) w x cs) : RowG (putL w G (l.length * k) cs) G k n R (l ++ [x]) := by
  have hin : ∀ i, i < cs.length → ∃ u, w.cell? ⟨G, l.length * k + i, none⟩ = some u := fun i hi => (h.1 _ (mul_in hl (by omega))).1
  have hc := fun j => putL_cell cs w G (l.length * k) j hin
  have hkp : ∀ b, G < b → b < w.heap.size → G < b ∧ (putL w G (l.length * k) cs).heap[b]? = w.heap[b]? := fun b hb _ => ⟨hb, putL_heap cs w G _ b (by omega)⟩
  refine ⟨fun j hj => ⟨?_, (putL_frozen cs w G _ _).trans (h.1 j hj).2⟩, fun i hi => ?_⟩
  · rw [hc]
    split
    · next hr => exact ⟨_, List.getElem?_eq_getElem (by omega)⟩
    · exact (h.1 j hj).1
  · rcases Nat.lt_or_ge i l.length with hlt | hge
    · obtain ⟨cs', h1, h2, h3⟩ := h.2 i hlt
      rw [List.getElem_append_left hlt]
      refine ⟨cs', h1, hR h2 hkp, fun j u hu => ?_⟩
      have hjk : j < k := by
        have := (List.getElem?_eq_some_iff.1 hu).1
        omega
      have := mul_in hlt hjk
      rw [hc, if_neg (by omega)]
      exact h3 j u hu
    · have : i = l.length := by simp at hi; omega
      subst this
      have e1 : (l ++ [x])[l.length] = x := by simp
      rw [e1]
      refine ⟨cs, hk, hR hp hkp, fun j u hu => ?_⟩
      have hjk : j < k := by
        have := (List.getElem?_eq_some_iff.1 hu).1
        omega
      rw [hc, if_pos (by omega), Nat.add_sub_cancel_left]
      exact hu
theorem RowG.rd {α : Type} {w : World} {G k n : Nat} {R : (Nat → Prop) → World → α → List Value → Prop} {l : List α} (hR : Kp R) (h : RowG w G k n R l) (hG : G < w.heap.size) (hn : l.length = n) (hm : n ≤ maxLen) : RdK (fun b => G ≤ b) w k (R (fun b => G ≤ b) w) l (.slice (some ⟨G, 0, none⟩) n n) := by
  subst hn
  refine ⟨some ⟨G, 0, none⟩, l.length, rfl, Nat.le_refl _, hm, fun i hi => ?_⟩
  obtain ⟨cs, h1, h2, h3⟩ := h.2 i hi
  refine ⟨G, 0, cs, rfl, Nat.le_refl _, hG, h1, hR h2 (fun b hb _ => ⟨by omega, rfl⟩), fun j u hu => ?_⟩
  rw [Nat.zero_add]
  exact h3 j u hu
end Go.Proofs.YtifgbioacknjpaaGreatDoor

/- What the program's copy of a set is, and of sets. -/
namespace Go.Proofs.YtifgbioacknjpaaGreatDoor
open Go.RowKit Go.Lib
set_option linter.unusedSimpArgs false
set_option linter.unusedVariables false
attribute [local go_sem ↓] Go.wp_at_zero Go.wp_at_succ

def ExOk (x : Sx) : Prop := ClX x ∧ cntX x ≤ 2000 ∧ shrt 1000 x.1 x.2 = true
def SetOk (s : List UInt8 × Sx) : Prop := s.1.length ≤ 140737488351232 ∧ ExOk s.2
theorem setQ_at {ok : Nat → Prop} {w : World} {l : List (List UInt8 × Sx)} {a : Option Addr} {n cap : Nat} (h : RdK ok w 2 (rSet ok w) l (.slice a n cap)) (j : Nat) (hj : j < l.length) : ∃ b off, a = some ⟨b, off, none⟩ ∧ b < w.heap.size ∧ ∀ i u, [sV l[j].1, exX l[j].2][i]? = some u → w.cell? ⟨b, off + j * 2 + i, none⟩ = some u := by
  obtain ⟨a1, cap1, he, h1, h2, h3⟩ := h
  simp only [Value.slice.injEq] at he
  obtain ⟨rfl, rfl, rfl⟩ := he
  obtain ⟨b, off, cs, ha, _, hb, hl, hr, hc⟩ := h3 j hj
  have hr : cs = [sV l[j].1, exX l[j].2] := hr
  subst hr
  exact ⟨b, off, ha, hb, hc⟩
end Go.Proofs.YtifgbioacknjpaaGreatDoor

/- Words that are alike but for their places make charts that are alike but for theirs. Math alone. -/
namespace Go.Proofs.YtifgbioacknjpaaGreatDoor
open Go.RowKit Go.Lib
set_option linter.unusedVariables false
/-- Readers that are alike but for places. -/
def Lk (r r' : RsC) : Prop := r.1.map tkW = r'.1.map tkW ∧ r.2.2 = r'.2.2
theorem Lk.len {r r' : RsC} (h : Lk r r') : r.1.length = r'.1.length := by
  have := congrArg List.length h.1
  rwa [List.length_map, List.length_map] at this
theorem Lk.drop {r r' : RsC} (h : Lk r r') (n : Nat) : Lk (r.1.drop n, r.2) (r'.1.drop n, r'.2) := by
  refine ⟨?_, h.2⟩
  show (r.1.drop n).map tkW = (r'.1.drop n).map tkW
  rw [List.map_drop, List.map_drop, h.1]
theorem Lk.fail {r r' : RsC} (h : Lk r r') (e : Int) (p p' : Pl) : Lk (failC e p r) (failC e p' r') := by
  unfold failC
  rw [← h.2]
  split
  · exact ⟨h.1, rfl⟩
  · exact h
theorem Lk.isq {r r' : RsC} (h : Lk r r') (s : List UInt8) : isC s r = isC s r' := by
  unfold isC
  rw [h.2]
  have h1 := h.1
  cases hr : r.1 with
  | nil =>
    rw [hr] at h1
    cases hr' : r'.1 with
    | nil => rfl
    | cons w l => rw [hr'] at h1; simp at h1
  | cons w l =>
    rw [hr] at h1
    cases hr' : r'.1 with
    | nil => rw [hr'] at h1; simp at h1
    | cons w' l' =>
      rw [hr', List.map_cons, List.map_cons] at h1
      injection h1 with h2 h3
      simp only [h2]
theorem Lk.tail {r r' : RsC} (h : Lk r r') : Lk (r.1.tail, r.2) (r'.1.tail, r'.2) := by
  have := h.drop 1
  rwa [List.drop_one, List.drop_one] at this
theorem Lk.take {r r' : RsC} (h : Lk r r') (fin fin' : Pl) (s : List UInt8) : Lk (takeR fin s r) (takeR fin' s r') := by
  unfold takeR
  rw [← h.isq s]
  split
  · exact h.tail
  · exact h.fail _ _ _
theorem Lk.cons {r r' : RsC} (h : Lk r r') : (r.1 = [] ∧ r'.1 = []) ∨ ∃ w l w' l', r.1 = w :: l ∧ r'.1 = w' :: l' ∧ tkW w = tkW w' ∧ l.map tkW = l'.map tkW := by
  have h1 := h.1
  cases hr : r.1 with
  | nil =>
    rw [hr] at h1
    cases hr' : r'.1 with
    | nil => exact .inl ⟨rfl, rfl⟩
    | cons w l => rw [hr'] at h1; simp at h1
  | cons w l =>
    rw [hr] at h1
    cases hr' : r'.1 with
    | nil => rw [hr'] at h1; simp at h1
    | cons w' l' =>
      rw [hr', List.map_cons, List.map_cons] at h1
      injection h1 with h2 h3
      exact .inr ⟨w, l, w', l', rfl, rfl, h2, h3⟩
theorem Lk.name {r r' : RsC} (h : Lk r r') (fin fin' : Pl) : (nameR fin r).1.1 = (nameR fin' r').1.1 ∧ Lk (nameR fin r).2 (nameR fin' r').2 := by
  unfold nameR
  rcases h.cons with ⟨h1, h2⟩ | ⟨w, l, w', l', h1, h2, h3, h4⟩
  · rw [h1, h2]; exact ⟨rfl, h.fail _ _ _⟩
  · rw [h1, h2]
    simp only
    rw [← h.2, ← h3]
    split
    · exact ⟨rfl, h4, h.2⟩
    · exact ⟨rfl, h.fail _ _ _⟩
theorem Lk.num {r r' : RsC} (h : Lk r r') (fin fin' : Pl) : (numR fin r).1 = (numR fin' r').1 ∧ Lk (numR fin r).2 (numR fin' r').2 := by
  unfold numR
  rcases h.cons with ⟨h1, h2⟩ | ⟨w, l, w', l', h1, h2, h3, h4⟩
  · rw [h1, h2]; exact ⟨rfl, h.fail _ _ _⟩
  · rw [h1, h2]
    have hk : w.1 = w'.1 := congrArg (fun x : Tk => x.1) h3
    simp only
    rw [← h.2, ← h3, ← hk]
    split
    · exact ⟨rfl, h4, h.2⟩
    · exact ⟨rfl, h.fail _ _ _⟩
theorem Lk.expr {r r' : RsC} (h : Lk r r') (fin fin' : Pl) : (exprR fin r).1 = (exprR fin' r').1 ∧ Lk (exprR fin r).2 (exprR fin' r').2 := by
  unfold exprR
  rw [← h.1, ← h.2]
  split
  · exact ⟨rfl, h⟩
  · split
    · exact ⟨rfl, h.drop _⟩
    · split
      · exact ⟨rfl, h.fail _ _ _⟩
      · exact ⟨rfl, (h.drop _).fail _ _ _⟩
theorem Lk.sets (fin fin' : Pl) : ∀ (g : Nat) (acc : List (List UInt8 × Sx)) {r r' : RsC}, Lk r r' → (setsR fin g acc r).1 = (setsR fin' g acc r').1 ∧ Lk (setsR fin g acc r).2 (setsR fin' g acc r').2
  | 0, acc, r, r', h => ⟨rfl, h⟩
  | g + 1, acc, r, r', h => by
    unfold setsR
    rw [← h.isq wSet]
    split
    · obtain ⟨a1, a2⟩ := (h.take fin fin' wSet).name fin fin'
      obtain ⟨b1, b2⟩ := (a2.take fin fin' [61]).expr fin fin'
      simp only
      rw [a1, b1]
      exact Lk.sets fin fin' g _ b2
    · exact ⟨rfl, h⟩
/-- An on without its place. -/
def stO (o : OnC) : OnC := (o.1, o.2.1, o.2.2.1, o.2.2.2.1, (0, 0))
theorem Lk.on {r r' : RsC} (h : Lk r r') (fin fin' : Pl) : stO (onR fin r).1 = stO (onR fin' r').1 ∧ Lk (onR fin r).2 (onR fin' r').2 := by
  unfold onR
  obtain ⟨a1, a2⟩ := (h.take fin fin' wOn).name fin fin'
  simp only
  generalize nameR fin (takeR fin wOn r) = A at *
  generalize nameR fin' (takeR fin' wOn r') = A' at *
  have hg : (if isC wIf A.2 = true then ((fun x => ((true, x.1), x.2)) (exprR fin (takeR fin wIf A.2)) : (Bool × Sx) × RsC) else ((false, noX), A.2)).1 = (if isC wIf A'.2 = true then ((fun x => ((true, x.1), x.2)) (exprR fin' (takeR fin' wIf A'.2)) : (Bool × Sx) × RsC) else ((false, noX), A'.2)).1 ∧
      Lk (if isC wIf A.2 = true then ((fun x => ((true, x.1), x.2)) (exprR fin (takeR fin wIf A.2)) : (Bool × Sx) × RsC) else ((false, noX), A.2)).2 (if isC wIf A'.2 = true then ((fun x => ((true, x.1), x.2)) (exprR fin' (takeR fin' wIf A'.2)) : (Bool × Sx) × RsC) else ((false, noX), A'.2)).2 := by
    rw [← a2.isq wIf]
    split
    · obtain ⟨e1, e2⟩ := (a2.take fin fin' wIf).expr fin fin'
      exact ⟨congrArg (Prod.mk true) e1, e2⟩
    · exact ⟨rfl, a2⟩
  generalize (if isC wIf A.2 = true then ((fun x => ((true, x.1), x.2)) (exprR fin (takeR fin wIf A.2)) : (Bool × Sx) × RsC) else ((false, noX), A.2)) = G at *
  generalize (if isC wIf A'.2 = true then ((fun x => ((true, x.1), x.2)) (exprR fin' (takeR fin' wIf A'.2)) : (Bool × Sx) × RsC) else ((false, noX), A'.2)) = G' at *
  obtain ⟨g1, g2⟩ := hg
  obtain ⟨t1, t2⟩ := (g2.take fin fin' wGo).name fin fin'
  generalize nameR fin (takeR fin wGo G.2) = U at *
  generalize nameR fin' (takeR fin' wGo G'.2) = U' at *
  rw [← t2.len]
  obtain ⟨s1, s2⟩ := Lk.sets fin fin' (U.2.1.length + 1) [] t2
  refine ⟨?_, s2⟩
  unfold stO
  simp only [a1, g1, t1, s1]
theorem Lk.kind {r r' : RsC} (h : Lk r r') (fin fin' : Pl) : (kindR fin r).1 = (kindR fin' r').1 ∧ Lk (kindR fin r).2 (kindR fin' r').2 := by
  unfold kindR
  rw [← h.isq wAll, ← h.isq wEnd, ← h.isq wDo]
  split
  · exact ⟨rfl, h.take _ _ _⟩
  · split
    · exact ⟨rfl, h.take _ _ _⟩
    · split
      · obtain ⟨a1, a2⟩ := (h.take fin fin' wDo).name fin fin'
        obtain ⟨b1, b2⟩ := (a2.take fin fin' wUndo).name fin fin'
        obtain ⟨c1, c2⟩ := (b2.take fin fin' wAt).num fin fin'
        obtain ⟨e1, e2⟩ := (c2.take fin fin' wRetries).num fin fin'
        simp only
        exact ⟨by rw [a1, b1, c1, e1], e2⟩
      · exact ⟨rfl, h⟩
/-- A state without places. -/
def stS : (d : Nat) → St d → St d
  | 0, t => Empty.elim t
  | d + 1, t => show HdC × List (St d) from (((t.1.1.1, (0, 0)), t.1.2.1, t.1.2.2.1, t.1.2.2.2.1, t.1.2.2.2.2.map stO), t.2.map (stS d))
theorem Lk.inn {α : Type} (f : α → α) (fin fin' : Pl) (i1 i2 : RsC → α × RsC) (hi : ∀ {r r' : RsC}, Lk r r' → f (i1 r).1 = f (i2 r').1 ∧ Lk (i1 r).2 (i2 r').2) :
    ∀ (g : Nat) (os os' : List OnC) (ss ss' : List α) {r r' : RsC}, Lk r r' → os.map stO = os'.map stO → ss.map f = ss'.map f →
      (inR fin i1 g os ss r).1.1.map stO = (inR fin' i2 g os' ss' r').1.1.map stO ∧ (inR fin i1 g os ss r).1.2.map f = (inR fin' i2 g os' ss' r').1.2.map f ∧ Lk (inR fin i1 g os ss r).2 (inR fin' i2 g os' ss' r').2
  | 0, os, os', ss, ss', r, r', h, ho, hs => ⟨ho, hs, h⟩
  | g + 1, os, os', ss, ss', r, r', h, ho, hs => by
    unfold inR
    rw [← h.2, ← h.isq [125], ← h.isq wOn]
    split
    · split
      · obtain ⟨a1, a2⟩ := h.on fin fin'
        exact Lk.inn f fin fin' i1 i2 hi g _ _ _ _ a2 (by rw [List.map_append, List.map_append, ho, List.map_singleton, List.map_singleton, a1]) hs
      · obtain ⟨a1, a2⟩ := hi h
        exact Lk.inn f fin fin' i1 i2 hi g _ _ _ _ a2 ho (by rw [List.map_append, List.map_append, hs, List.map_singleton, List.map_singleton, a1])
    · exact ⟨ho, hs, h⟩
theorem Lk.st (fin fin' : Pl) : ∀ (k : Nat) {r r' : RsC}, Lk r r' → stS (k + 1) (stR fin k r).1 = stS (k + 1) (stR fin' k r').1 ∧ Lk (stR fin k r).2 (stR fin' k r').2
  | 0, r, r', h => by
    refine ⟨rfl, ?_⟩
    show Lk (failC (if isC wState r = true then 13 else 12) (hereR fin r) r) (failC (if isC wState r' = true then 13 else 12) (hereR fin' r') r')
    rw [← h.isq wState]
    exact h.fail _ _ _
  | k + 1, r, r', h => by
    obtain ⟨a1, a2⟩ := (h.take fin fin' wState).name fin fin'
    obtain ⟨b1, b2⟩ := (a2.take fin fin' [123]).kind fin fin'
    obtain ⟨c1, c2, c3⟩ := Lk.inn (stS (k + 1)) fin fin' (stR fin k) (stR fin' k) (fun h => Lk.st fin fin' k h) ((kindR fin (takeR fin [123] (nameR fin (takeR fin wState r)).2)).2.1.length + 1) [] [] [] [] b2 rfl rfl
    refine ⟨?_, ?_⟩
    · show (show HdC × List (St (k + 1)) from (((_, (0, 0)), _, _, _, List.map stO _), List.map (stS (k + 1)) _)) = (show HdC × List (St (k + 1)) from (((_, (0, 0)), _, _, _, List.map stO _), List.map (stS (k + 1)) _))
      simp only [stR]
      rw [← b2.len, a1, b1, c1, c2]
    · simp only [stR]
      rw [← b2.len]
      exact c3.take _ _ _
theorem Lk.vars (fin fin' : Pl) : ∀ (g : Nat) (acc acc' : List (List UInt8 × Int × Pl)) {r r' : RsC}, Lk r r' → acc.map (fun v => (v.1, v.2.1)) = acc'.map (fun v => (v.1, v.2.1)) →
      (varsR fin g acc r).1.map (fun v => (v.1, v.2.1)) = (varsR fin' g acc' r').1.map (fun v => (v.1, v.2.1)) ∧ Lk (varsR fin g acc r).2 (varsR fin' g acc' r').2
  | 0, acc, acc', r, r', h, ha => ⟨ha, h⟩
  | g + 1, acc, acc', r, r', h, ha => by
    unfold varsR
    rw [← h.isq wVar]
    split
    · obtain ⟨a1, a2⟩ := (h.take fin fin' wVar).name fin fin'
      have b2 := a2.take fin fin' [61]
      simp only
      rw [← b2.isq [45]]
      split
      · obtain ⟨n1, n2⟩ := (b2.take fin fin' [45]).num fin fin'
        exact Lk.vars fin fin' g _ _ n2 (by rw [List.map_append, List.map_append, ha]; simp only [List.map_cons, List.map_nil, a1, n1])
      · obtain ⟨n1, n2⟩ := b2.num fin fin'
        exact Lk.vars fin fin' g _ _ n2 (by rw [List.map_append, List.map_append, ha]; simp only [List.map_cons, List.map_nil, a1, n1])
    · exact ⟨ha, h⟩
end Go.Proofs.YtifgbioacknjpaaGreatDoor

/- The text of a chart and its words. Math alone. -/
namespace Go.Proofs.YtifgbioacknjpaaGreatDoor
open Go.RowKit Go.Lib
set_option linter.unusedSimpArgs false
set_option linter.unusedVariables false

/-- A piece of a text: a word, or a blank. -/
abbrev Pq := Tk ⊕ UInt8
def pieQ (p : Pq) : List UInt8 := match p with | .inl w => w.2 | .inr c => [c]
def txQ (ps : List Pq) : List UInt8 := (ps.map pieQ).flatten
def tkQ : List Pq → List Tk
  | [] => []
  | .inl w :: r => w :: tkQ r
  | .inr _ :: r => tkQ r
theorem txQ_cons (p : Pq) (r : List Pq) : txQ (p :: r) = pieQ p ++ txQ r := rfl
theorem txQ_app (a b : List Pq) : txQ (a ++ b) = txQ a ++ txQ b := by simp [txQ]
def blk (c : UInt8) : Prop := c = 32 ∨ c = 9 ∨ c = 10
def FitQ : List Pq → List UInt8 → Prop
  | [], _ => True
  | .inr c :: r, post => blk c ∧ FitQ r post
  | .inl w :: r, post => Fits w (txQ r ++ post) ∧ FitQ r post
theorem fitQ_app : ∀ (a b : List Pq) (post : List UInt8), FitQ a (txQ b ++ post) → FitQ b post → FitQ (a ++ b) post
  | [], b, post, _, h => h
  | .inr c :: a, b, post, h1, h2 => ⟨h1.1, fitQ_app a b post h1.2 h2⟩
  | .inl w :: a, b, post, h1, h2 => by
    refine ⟨?_, fitQ_app a b post h1.2 h2⟩
    show Fits w (txQ (a ++ b) ++ post)
    rw [txQ_app, List.append_assoc]
    exact h1.1
theorem words_pcQ : ∀ (ps : List Pq) (ln co : Int) (n : Nat), FitQ ps [] → n ≤ 3000 → er (wrds (runes (txQ ps)) ln co n) = if n + (tkQ ps).length ≤ 3000 then ((tkQ ps).map (fun w => (w.1, runes w.2)), 0) else ([], 4)
  | [], ln, co, n, _, hn => by
    have hk : n + (tkQ []).length ≤ 3000 := hn
    rw [if_pos hk]; rfl
  | .inr c :: r, ln, co, n, h, hn => by
    obtain ⟨hc, hr⟩ := h
    have e : tkQ (.inr c :: r) = tkQ r := rfl
    rw [e, txQ_cons, show pieQ (.inr c) ++ txQ r = c :: txQ r from rfl]
    rcases hc with rfl | rfl | rfl
    · rw [runes_ascii (by decide), wrds_cons, if_neg (by decide), if_pos (.inl (by decide))]
      exact words_pcQ r ln (co + 1) n hr hn
    · rw [runes_ascii (by decide), wrds_cons, if_neg (by decide), if_pos (.inr (by decide))]
      exact words_pcQ r ln (co + 1) n hr hn
    · rw [runes_ascii (by decide), wrds_cons, if_pos (by decide)]
      exact words_pcQ r (ln + 1) 1 n hr hn
  | .inl w :: r, ln, co, n, h, hn => by
    obtain ⟨⟨h0, h1, h2, v, t, h3, h4, h5, h6, h7⟩, hr⟩ := h
    rw [List.append_nil] at h1 h2
    have ht : tkQ (.inl w :: r) = w :: tkQ r := rfl
    rw [ht, List.length_cons, List.map_cons, txQ_cons, show pieQ (.inl w) = w.2 from rfl, h1]
    have e : runes w.2 ++ runes (txQ r) = v :: (t ++ runes (txQ r)) := by rw [h3]; rfl
    rw [e] at h2 ⊢
    rw [wrds_cons, if_neg h4, if_neg (fun q => q.elim h5 h6), if_neg h7, h2, if_neg h0]
    by_cases hf : n = 3000
    · rw [if_pos hf, if_neg (by omega)]; rfl
    · rw [if_neg hf, ← e, List.take_left, List.drop_left, er_pre]
      have ih := words_pcQ r ln (co + ((runes w.2).length : Nat)) (n + 1) hr (by omega)
      by_cases hk : n + ((tkQ r).length + 1) ≤ 3000
      · rw [if_pos (by omega)] at ih
        have e0 : (wrds (runes (txQ r)) ln (co + ((runes w.2).length : Nat)) (n + 1)).2.2 = 0 := by
          have := congrArg Prod.snd ih
          exact this
        rw [if_pos e0, ih, if_pos hk]
      · rw [if_neg (by omega)] at ih
        have e0 : (wrds (runes (txQ r)) ln (co + ((runes w.2).length : Nat)) (n + 1)).2.2 = 4 := by
          have := congrArg Prod.snd ih
          exact this
        rw [if_neg (by rw [e0]; decide), ih, if_neg hk]
theorem words_Q {ps : List Pq} (h : FitQ ps []) : er (wordsS (txQ ps)) = if (txQ ps).length ≤ 12000 ∧ (tkQ ps).length ≤ 3000 then ((tkQ ps).map (fun w => (w.1, runes w.2)), 0) else ([], 4) := by
  unfold wordsS
  by_cases hl : 12000 < (txQ ps).length
  · rw [if_pos hl, if_neg (by omega)]; rfl
  · rw [if_neg hl, words_pcQ ps 1 1 0 h (by omega)]
    by_cases hk : (tkQ ps).length ≤ 3000
    · rw [if_pos (by omega), if_pos ⟨by omega, hk⟩]
    · rw [if_neg (by omega), if_neg (by omega)]

/-- An expression's pieces. -/
def qE (ps : List Pc) : List Pq := ps.map (fun p => match p with | some w => .inl w | none => .inr 32)
theorem txQ_qE : ∀ ps : List Pc, txQ (qE ps) = txP ps
  | [] => rfl
  | some w :: r => congrArg (w.2 ++ ·) (txQ_qE r)
  | none :: r => congrArg ([32] ++ ·) (txQ_qE r)
theorem fitQ_qE : ∀ (ps : List Pc) (post : List UInt8), FitsAll ps post → FitQ (qE ps) post
  | [], _, _ => trivial
  | some w :: r, post, h => ⟨by
      show Fits w (txQ (qE r) ++ post)
      rw [txQ_qE]; exact h.1, fitQ_qE r post h.2⟩
  | none :: r, post, h => ⟨.inl rfl, fitQ_qE r post h⟩

/-- The pieces of a chart. -/
def kwQ (s : List UInt8) : Pq := .inl (1, s)
def sgQ (c : UInt8) : Pq := .inl (3, [c])
def nuQ (n : Int) : Pq := .inl (2, dcN n)
def spQ : Pq := .inr 32
def nlQ : Pq := .inr 10
def tbQ (n : Nat) : List Pq := List.replicate n (.inr 9)
def exQ (x : Sx) : List Pq := qE (pcs dcN x.1 x.2).2
def setQ (s : List UInt8 × Sx) : List Pq := [spQ, kwQ wSet, spQ, kwQ s.1, spQ, sgQ 61, spQ] ++ exQ s.2
def grdQ (g : Bool × Sx) : List Pq := if g.1 = true then [spQ, kwQ wIf, spQ] ++ exQ g.2 else []
def onQ (n : Nat) (o : OnC) : List Pq := tbQ n ++ ([kwQ wOn, spQ, kwQ o.1] ++ (grdQ o.2.1 ++ ([spQ, kwQ wGo, spQ, kwQ o.2.2.1] ++ ((o.2.2.2.1.map setQ).flatten ++ [nlQ]))))
def kndQ (n : Nat) (h : HdC) : List Pq :=
  if h.2.1.1 = true then tbQ n ++ [kwQ wAll, nlQ] else
  if h.2.1.2 = true then tbQ n ++ [kwQ wEnd, nlQ] else
  if h.2.2.1.1 ≠ [] then tbQ n ++ [kwQ wDo, spQ, kwQ h.2.2.1.1, spQ, kwQ wUndo, spQ, kwQ h.2.2.1.2, spQ, kwQ wAt, spQ, nuQ h.2.2.2.1.1, spQ, kwQ wRetries, spQ, nuQ h.2.2.2.1.2, nlQ] else []
def stQ : (d : Nat) → Nat → St d → List Pq
  | 0, _, t => Empty.elim t
  | d + 1, n, t => tbQ n ++ ([kwQ wState, spQ, kwQ t.1.1.1, spQ, sgQ 123, nlQ] ++ (kndQ (n + 1) t.1 ++ ((t.1.2.2.2.2.map (onQ (n + 1))).flatten ++ ((t.2.map (stQ d (n + 1))).flatten ++ (tbQ n ++ [sgQ 125, nlQ])))))
def nmQ (n : Int) : List Pq := if n < 0 then [sgQ 45, nuQ (-n)] else [nuQ n]
def varQ (v : List UInt8 × Int × Pl) : List Pq := tbQ 1 ++ ([kwQ wVar, spQ, kwQ v.1, spQ, sgQ 61, spQ] ++ (nmQ v.2.1 ++ [nlQ]))
abbrev ChX (d : Nat) := (List UInt8 × Pl) × Int × List (List UInt8 × Int × Pl) × List (St d)
def chQ (d : Nat) (c : ChX d) : List Pq := [kwQ wChart, spQ, kwQ c.1.1, spQ, nuQ c.2.1, spQ, sgQ 123, nlQ] ++ ((c.2.2.1.map varQ).flatten ++ ((c.2.2.2.map (stQ d 1)).flatten ++ [sgQ 125, nlQ]))

/-- What is formed. -/
def plX (x : Sx) : Bool := plC x.1 x.2
def nbB (n : Int) : Bool := decide (0 ≤ n ∧ n ≤ 1000000000)
def exF (x : Sx) : Bool := fmX x && plX x
def setF (s : List UInt8 × Sx) : Bool := plainB s.1 && exF s.2
def onF (o : OnC) : Bool := plainB o.1 && ((!o.2.1.1 || exF o.2.1.2) && (plainB o.2.2.1 && o.2.2.2.1.all setF))
def stepB (h : HdC) : Bool := !(decide (h.2.2.1.1 = []) && decide (h.2.2.1.2 = []) && decide (h.2.2.2.1.1 = 0) && decide (h.2.2.2.1.2 = 0))
def kndF (h : HdC) : Bool := if stepB h = true then !h.2.1.1 && !h.2.1.2 && plainB h.2.2.1.1 && plainB h.2.2.1.2 && nbB h.2.2.2.1.1 && nbB h.2.2.2.1.2 else !h.2.1.1 || !h.2.1.2
def stF : (d : Nat) → Nat → St d → Bool
  | 0, _, t => Empty.elim t
  | d + 1, n, t => decide (n ≤ 6) && plainB t.1.1.1 && kndF t.1 && t.1.2.2.2.2.all onF && t.2.all (stF d (n + 1))
def varF (v : List UInt8 × Int × Pl) : Bool := plainB v.1 && decide (-1000000000 ≤ v.2.1 ∧ v.2.1 ≤ 1000000000)
def chF (d : Nat) (c : ChX d) : Bool := plainB c.1.1 && nbB c.2.1 && c.2.2.1.all varF && c.2.2.2.all (stF d 1)
/-- Its expressions are clean ones. -/
def OnCl (o : OnC) : Prop := (o.2.1.1 = true → ClX o.2.1.2) ∧ ∀ s ∈ o.2.2.2.1, ClX s.2
def StCl : (d : Nat) → St d → Prop
  | 0, t => Empty.elim t
  | d + 1, t => (∀ o ∈ t.1.2.2.2.2, OnCl o) ∧ ∀ x ∈ t.2, StCl d x
/-- They fit. -/
theorem plain_name {s : List UInt8} (h : plainB s = true) : nameS s = true := by
  unfold plainB at h
  exact ((Bool.and_eq_true _ _).mp h).1
theorem fits_brace {c : UInt8} (h : c = 123 ∨ c = 125) (post : List UInt8) : Fits (3, [c]) post := by
  rcases h with rfl | rfl
  · exact fits_shape (by decide) (by decide) (by decide) (by decide) (by decide) (fun v r _ => by unfold pair; rw [decide_eq_false_iff_not]; simp)
  · exact fits_shape (by decide) (by decide) (by decide) (by decide) (by decide) (fun v r _ => by unfold pair; rw [decide_eq_false_iff_not]; simp)
theorem fits_eq (post : List UInt8) : Fits (3, [61]) (32 :: post) := fits_shape (by decide) (by decide) (by decide) (by decide) (by decide) (fun v r hv => by
  rw [runes_ascii (by decide)] at hv
  injection hv with h1 _
  rw [← h1]; decide)
theorem num_dc {n : Int} (h0 : 0 ≤ n) (h1 : n ≤ 1000000000) : numB (dcN n) = true := dd_num (by omega)
theorem fitQ_tb : ∀ (n : Nat) (post : List UInt8), FitQ (tbQ n) post
  | 0, _ => trivial
  | n + 1, post => ⟨.inr (.inl rfl), fitQ_tb n post⟩
theorem exF_parts {x : Sx} (hc : ClX x) (h : exF x = true) : okT (valB 0) rsvB dcN x.1 x.2 ∧ rtT dcN x.1 x.2 := by
  unfold exF at h
  rw [Bool.and_eq_true] at h
  exact ok_sound x.1 x.2 hc (fm_parts h.1).2 h.2
theorem fitQ_ex {x : Sx} (hc : ClX x) (h : exF x = true) {post : List UInt8} (hp : Post post) : FitQ (exQ x) post :=
  fitQ_qE _ _ ((fits_tree dcN x.1 x.2 hc (exF_parts hc h).2).1 post hp)
end Go.Proofs.YtifgbioacknjpaaGreatDoor

/- Package show's rightName, rightNumber, rightExpression. -/
namespace Go.Proofs.YtifgbioacknjpaaGreatDoor
open Go.RowKit Go.Lib
set_option linter.unusedSimpArgs false
set_option linter.unusedVariables false
attribute [local go_sem ↓] Go.wp_at_zero Go.wp_at_succ

theorem rname_any (s : List UInt8) (w : World) (hs : s.length ≤ 140737488351232) : Calls Tryz.prog 41 #[sV s] w fun e w' => e = .returned (.bool (plainB s)) ∧ Below w.heap.size w w' := by
  have hz : (⟨s.toArray⟩ : ByteArray).size ≤ 140737488351232 := by show s.toArray.size ≤ _; simpa using hs
  have h1 := fun w1 => pName_any ⟨s.toArray⟩ w1 hz
  have h2 := fun w1 => pReserved_any ⟨s.toArray⟩ w1
  have e1 : bl (⟨s.toArray⟩ : ByteArray) = s := by unfold bl; simp
  rw [e1] at h1 h2
  unfold plainB sV
  generalize (⟨s.toArray⟩ : ByteArray) = t at *
  cases h3 : nameS s <;> cases h4 : rsvB s
  all_goals (
    simp only [h3] at h1
    simp only [h4] at h2
    go_enter Tryz.func41, Tryz.ntmps41
    go_wp2_with (first
      | (go_at_call 72; refine (h1 _).mono ?_; rintro e w1 ⟨rfl, b1⟩)
      | (go_at_call 73; refine (h2 _).mono ?_; rintro e w2 ⟨rfl, hw2⟩; subst hw2)
      | fail)
    go_ret
    exact ⟨rfl, b1⟩)
theorem rnum_any (n : Int) (w : World) : Calls Tryz.prog 42 #[.int .i64 n] w fun e w' => e = .returned (.bool (nbB n)) ∧ Below w.heap.size w w' := by
  unfold nbB
  by_cases h1 : 0 ≤ n
  · by_cases h2 : n ≤ 1000000000
    · rw [decide_eq_true ⟨h1, h2⟩]
      go_enter Tryz.func42, Tryz.ntmps42
      go_wp2
      go_ret
      exact ⟨rfl, Below.refl _ _⟩
    · rw [decide_eq_false (fun q => h2 q.2)]
      go_enter Tryz.func42, Tryz.ntmps42
      go_wp2
      go_ret
      exact ⟨rfl, Below.refl _ _⟩
  · rw [decide_eq_false (fun q => h1 q.1)]
    go_enter Tryz.func42, Tryz.ntmps42
    go_wp2
    go_ret
    exact ⟨rfl, Below.refl _ _⟩
theorem rexp_any {x : Sx} (h : ExOk x) (hn : cntX x ≤ 1000) (w : World) (hw : Pow w) : Calls Tryz.prog 121 #[exX x] w fun e w' => e = .returned (.bool (exF x)) ∧ Below w.heap.size w w' := by
  have h1 := printP w h.1 (by unfold cntX at hn; exact hn) h.2.2 hw
  have h2 : Calls Tryz.prog 146 #[exX x] w fun e w' => e = .returned (.tuple #[.string ⟨(prC x.1 x.2).1.toArray⟩, .int .i64 (if exF x = true then 0 else 1)]) ∧ Below w.heap.size w w' := by
    refine h1.mono ?_
    rintro e w' ⟨he, hb⟩
    refine ⟨?_, hb⟩
    rw [he]
    have : (prC x.1 x.2).2 = if exF x = true then 0 else 1 := by
      unfold prC exF fmX plX
      simp only [Bool.and_eq_true]
      split <;> rfl
    rw [this]
  generalize exX x = v at *
  cases h3 : exF x
  all_goals (
    simp only [h3] at h2
    go_enter Tryz.func121, Tryz.ntmps121
    go_wp2_with (first
      | (go_at_call 146; refine h2.mono ?_; rintro e w1 ⟨rfl, b1⟩)
      | fail)
    go_ret
    exact ⟨rfl, b1⟩)

theorem mkHid {p : Prop} (h : p) : Hid p := h
end Go.Proofs.YtifgbioacknjpaaGreatDoor
