import Derived.Test.YtoankfbccofllaaWqc02
import Derived.RangeFuncNested
import Derived.RangeFuncBound
import Derived.RangeFuncCalls
import Derived.RangeFuncLeaves
import Derived.WalkKit
import Derived.Deep.RegionHeldLaw
import Derived.Deep.DeepCutAuto
import Derived.Shelf.Abstract
import Derived.Shelf.RegionOpen
import Derived.OwnWalkIn
import Derived.TacticsInMore
import Derived.LoopNIn
import Derived.LoopIn
import Derived.Sort.LoopGhostIn
import Derived.Maps.OwnIn
import Derived.WalkSmall
import Derived.OrdersIn
import Derived.OrdersHeld
import Derived.TacticsIn

/- Charts in the program's memory. -/
namespace Go.Proofs.Ytoankfbccofllaa
open Go.RowKit Go.Lib
set_option linter.unusedSimpArgs false
set_option linter.unusedVariables false

/-- A text of bytes as a value. -/
def sV (l : List UInt8) : Value := .string ⟨l.toArray⟩
def rSet (ok : Nat → Prop) (w : World) (x : List UInt8 × Sx) (cs : List Value) : Prop := cs = [sV x.1, exX x.2]
theorem kp_set : Kp rSet := fun _ _ _ _ _ _ h _ => h
/-- The guard: nil where there is none. -/
def gdV (g : Bool × Sx) : Value := if g.1 = true then exX g.2 else .nilIface
theorem gdV_form (g : Bool × Sx) : gdV g = .nilIface ∨ ∃ u y, gdV g = .iface u y := by
  unfold gdV
  split
  · exact exX_form _
  · exact .inl rfl
def onV (o : OnC) (sl : Value) : List Value := [sV o.1, gdV o.2.1, sV o.2.2.1, sl, .int .i64 o.2.2.2.2.1, .int .i64 o.2.2.2.2.2]
def rOn (ok : Nat → Prop) (w : World) (o : OnC) (cs : List Value) : Prop := ∃ sl, cs = onV o sl ∧ RdK ok w 2 (rSet ok w) o.2.2.2.1 sl
theorem kp_on : Kp rOn := fun _ _ _ _ _ _ ⟨sl, h, hr⟩ hk => ⟨sl, h, hr.stay kp_set hk⟩
def hdV (h : HdC) (so si : Value) : List Value := [sV h.1.1, .int .i64 h.1.2.1, .int .i64 h.1.2.2, .bool h.2.1.1, .bool h.2.1.2, sV h.2.2.1.1, sV h.2.2.1.2, .int .i64 h.2.2.2.1.1, .int .i64 h.2.2.2.1.2, so, si]
def rSt : (d : Nat) → (Nat → Prop) → World → St d → List Value → Prop
  | 0, _, _, t, _ => Empty.elim t
  | d + 1, ok, w, t, cs => ∃ so si, cs = hdV t.1 so si ∧ RdK ok w 6 (rOn ok w) t.1.2.2.2.2 so ∧ RdK ok w 11 (rSt d ok w) t.2 si
theorem kp_st : ∀ d, Kp (rSt d)
  | 0 => fun _ _ _ _ x _ _ _ => Empty.elim x
  | d + 1 => fun _ _ _ _ _ _ ⟨so, si, h, h1, h2⟩ hk => ⟨so, si, h, h1.stay kp_on hk, h2.stay (kp_st d) hk⟩
def varV (x : List UInt8 × Int × Pl) : List Value := [sV x.1, .int .i64 x.2.1, .int .i64 x.2.2.1, .int .i64 x.2.2.2]
def rVar (ok : Nat → Prop) (w : World) (x : List UInt8 × Int × Pl) (cs : List Value) : Prop := cs = varV x
theorem kp_var : Kp rVar := fun _ _ _ _ _ _ h _ => h
/-- A chart whose states lie less than d deep. -/
abbrev ChG (d : Nat) := (List UInt8 × Pl) × Int × List (List UInt8 × Int × Pl) × List (St d)
def RdC (ok : Nat → Prop) (w : World) (d : Nat) (c : ChG d) (v : Value) : Prop :=
  ∃ sv ss, v = .agg #[sV c.1.1, .int .i64 c.2.1, .int .i64 c.1.2.1, .int .i64 c.1.2.2, sv, ss] ∧ RdK ok w 4 (rVar ok w) c.2.2.1 sv ∧ RdK ok w 11 (rSt d ok w) c.2.2.2 ss
theorem RdC.keep {ok ok' : Nat → Prop} {w w' : World} {d : Nat} {c : ChG d} {v : Value} (h : RdC ok w d c v) (hk : ∀ b, ok b → b < w.heap.size → ok' b ∧ w'.heap[b]? = w.heap[b]?) : RdC ok' w' d c v := by
  obtain ⟨sv, ss, h1, h2, h3⟩ := h
  exact ⟨sv, ss, h1, h2.stay kp_var hk, h3.stay (kp_st d) hk⟩

abbrev SgS := (d : Nat) × St d
/-- How deep a state lies, the state, its cells. -/
abbrev Fx3 := Nat × SgS × List Value
def rdc (w : World) (b off : Nat) : List Value := (List.range 11).map (fun j => (w.cell? ⟨b, off + j, none⟩).getD .nilIface)
def vB : Value → Nat
  | .slice (some a) _ _ => a.block
  | _ => 0
def vO : Value → Nat
  | .slice (some a) _ _ => a.off
  | _ => 0
def flN (w : World) (d k b : Nat) (rc : List (St d) → Value → List Fx3) : List (St (d + 1)) → Nat → List Fx3
  | [], _ => []
  | t :: r, off => (k, ⟨d + 1, t⟩, rdc w b off) :: (rc t.2 ((rdc w b off).getD 10 .nilIface) ++ flN w d k b rc r (off + 11))
def flX (w : World) : (d : Nat) → Nat → List (St d) → Value → List Fx3
  | 0, _, _, _ => []
  | d + 1, k, l, v => flN w d k (vB v) (flX w d (k + 1)) l (vO v)
theorem flX_nil (w : World) (d k : Nat) (v : Value) : flX w d k [] v = [] := by cases d <;> rfl
/-- The same without memory. -/
def flM : (d : Nat) → Nat → List (St d) → List (Nat × SgS)
  | 0, _, _ => []
  | d + 1, k, l => l.flatMap (fun t => (k, ⟨d + 1, t⟩) :: flM d (k + 1) t.2)
theorem flN_map (w : World) (d k b : Nat) (rc : List (St d) → Value → List Fx3) (h : ∀ l v, (rc l v).map (fun x => (x.1, x.2.1)) = flM d (k + 1) l) : ∀ (l : List (St (d + 1))) (off : Nat), (flN w d k b rc l off).map (fun x => (x.1, x.2.1)) = flM (d + 1) k l
  | [], _ => rfl
  | t :: r, off => by
    have h2 := flN_map w d k b rc h r (off + 11)
    simp only [flN, List.map_cons, List.map_append, h, h2]
    simp [flM]
theorem flX_map (w : World) : ∀ (d k : Nat) (l : List (St d)) (v : Value), (flX w d k l v).map (fun x => (x.1, x.2.1)) = flM d k l
  | 0, _, _, _ => rfl
  | d + 1, k, l, v => flN_map w d k _ _ (flX_map w d (k + 1)) l _
/-- What a row of states that is read has ahead: its first one's cells, and the rest. -/
theorem rdK_head {ok : Nat → Prop} {w : World} {d : Nat} {t : St (d + 1)} {r : List (St (d + 1))} {v : Value} (h : RdK ok w 11 (rSt (d + 1) ok w) (t :: r) v) : ∃ b off cap, v = .slice (some ⟨b, off, none⟩) (r.length + 1) cap ∧ r.length + 1 ≤ cap ∧ cap ≤ maxLen ∧ ok b ∧ b < w.heap.size ∧
    (∃ so si, rdc w b off = hdV t.1 so si ∧ RdK ok w 6 (rOn ok w) t.1.2.2.2.2 so ∧ RdK ok w 11 (rSt d ok w) t.2 si) ∧ (∀ j u, (rdc w b off)[j]? = some u → w.cell? ⟨b, off + j, none⟩ = some u) ∧
    (∀ a', (r ≠ [] → a' = some ⟨b, off + 11, none⟩) → RdK ok w 11 (rSt (d + 1) ok w) r (.slice a' r.length (cap - 1))) := by
  obtain ⟨a, cap, rfl, hc, hm, hcell⟩ := h
  obtain ⟨b, off, cs, rfl, hob, hb, hl, hr, hcs⟩ := hcell 0 (by simp)
  have e : rdc w b off = cs := by
    apply List.ext_getElem?
    intro j
    by_cases hj : j < 11
    · have hj' : j < cs.length := by omega
      have h1 := hcs j _ (List.getElem?_eq_getElem hj')
      simp only [Nat.zero_mul, Nat.add_zero] at h1
      rw [List.getElem?_eq_getElem hj']
      simp only [rdc, List.getElem?_map]
      rw [List.getElem?_range hj]
      simp [h1]
    · rw [List.getElem?_eq_none (show (rdc w b off).length ≤ j by simp [rdc]; omega), List.getElem?_eq_none (show cs.length ≤ j by omega)]
  refine ⟨b, off, cap, by simp, by simpa using hc, hm, hob, hb, ?_, ?_, ?_⟩
  · obtain ⟨so, si, h1, h2, h3⟩ := hr
    exact ⟨so, si, e.trans h1, h2, h3⟩
  · intro j u hu
    rw [e] at hu
    have := hcs j u hu
    simpa using this
  · intro a' ha'
    simp only [List.length_cons] at hc
    refine ⟨a', cap - 1, rfl, by omega, by omega, fun i hi => ?_⟩
    obtain ⟨b', off', cs', h1, h2, h3, h4, h5, h6⟩ := hcell (i + 1) (by simpa using hi)
    simp only [Option.some.injEq, Addr.mk.injEq, and_true] at h1
    obtain ⟨rfl, rfl⟩ := h1
    refine ⟨b, off + 11, cs', ha' (fun e => by subst e; simp at hi), h2, h3, h4, by simpa using h5, fun j u hu => ?_⟩
    have := h6 j u hu
    rw [show off + 11 + i * 11 + j = off + (i + 1) * 11 + j by omega]
    exact this
/-- Each of them is read by its cells. -/
theorem flX_rd {ok : Nat → Prop} {w : World} : ∀ (d k : Nat) (l : List (St d)) (v : Value), RdK ok w 11 (rSt d ok w) l v → ∀ x ∈ flX w d k l v, rSt x.2.1.1 ok w x.2.1.2 x.2.2
  | 0, _, _, _, _ => fun x hx => by simp [flX] at hx
  | d + 1, k, l, v, h => by
    have key : ∀ (l : List (St (d + 1))) (v : Value) (b off : Nat), RdK ok w 11 (rSt (d + 1) ok w) l v → (l ≠ [] → vB v = b ∧ vO v = off) → ∀ x ∈ flN w d k b (flX w d (k + 1)) l off, rSt x.2.1.1 ok w x.2.1.2 x.2.2 := by
      intro l
      induction l with
      | nil => intro v b off _ _ x hx; simp [flN] at hx
      | cons t r ih =>
        intro v b off h hv x hx
        obtain ⟨b', off', cap, rfl, _, _, _, _, ⟨so, si, e1, h1, h2⟩, _, ht⟩ := rdK_head h
        obtain ⟨rfl, rfl⟩ := hv (by simp)
        simp only [vB, vO] at hx
        simp only [flN, List.mem_cons, List.mem_append] at hx
        rcases hx with rfl | hx | hx
        · exact ⟨so, si, e1, h1, h2⟩
        · rw [e1] at hx
          exact flX_rd d (k + 1) t.2 si h2 x hx
        · exact ih (.slice (some ⟨b', off' + 11, none⟩) r.length (cap - 1)) b' (off' + 11) (ht _ (fun _ => rfl)) (fun _ => ⟨rfl, rfl⟩) x hx
    exact key l v _ _ h (fun _ => ⟨rfl, rfl⟩)
/-- What is left of each list that is gone through, the innermost first. -/
abbrev Ent := (d : Nat) × List (St d) × Value
def remT (w : World) : List Ent → List Fx3
  | [] => []
  | e :: r => flX w e.1 r.length e.2.1 e.2.2 ++ remT w r
def EntOk (ok : Nat → Prop) (w : World) (e : Ent) : Prop := RdK ok w 11 (rSt e.1 ok w) e.2.1 e.2.2
theorem remT_nil (w : World) (d : Nat) (v : Value) (r : List Ent) : remT w (⟨d, [], v⟩ :: r) = remT w r := by simp [remT, flX_nil]
theorem remT_cons {ok : Nat → Prop} {w : World} {d : Nat} {t : St (d + 1)} {l : List (St (d + 1))} {b off n cap : Nat} {a' : Option Addr} {n' c' : Nat} (r : List Ent) (ha : l ≠ [] → a' = some ⟨b, off + 11, none⟩) :
    remT w (⟨d + 1, t :: l, .slice (some ⟨b, off, none⟩) n cap⟩ :: r) = (r.length, ⟨d + 1, t⟩, rdc w b off) :: remT w (⟨d, t.2, (rdc w b off).getD 10 .nilIface⟩ :: ⟨d + 1, l, .slice a' n' c'⟩ :: r) := by
  simp only [remT, flX, vB, vO, flN, List.length_cons, List.cons_append, List.append_assoc]
  cases l with
  | nil => simp [flN]
  | cons x l => rw [ha (by simp)]
end Go.Proofs.Ytoankfbccofllaa

/- A range over a function whose iterator keeps cells of its own: what the caller's side owns and what the iterator owns lie apart. -/
namespace Go.Proofs.Ytoankfbccofllaa
open Go.RowKit
set_option linter.unusedSimpArgs false
set_option linter.unusedVariables false

/-- The blocks of K that lay in A lie in B as they lay. -/
structure Sm (K : Nat → Prop) (A B : World) : Prop where
  os : B.os = A.os
  tape : B.tape = A.tape
  output : B.output = A.output
  size : A.heap.size ≤ B.heap.size
  block : ∀ k, k < A.heap.size → K k → B.heap[k]? = A.heap[k]?
theorem Sm.refl (K : Nat → Prop) (A : World) : Sm K A A := ⟨rfl, rfl, rfl, Nat.le_refl _, fun _ _ _ => rfl⟩
theorem Sm.trans {K K' : Nat → Prop} {A B C : World} (h : Sm K A B) (k : Sm K' B C) (hk : ∀ i, i < A.heap.size → K i → K' i) : Sm K A C :=
  ⟨k.os.trans h.os, k.tape.trans h.tape, k.output.trans h.output, Nat.le_trans h.size k.size, fun i hi hK => (k.block i (Nat.lt_of_lt_of_le hi h.size) (hk i hi hK)).trans (h.block i hi hK)⟩
theorem Sm.mono {K K' : Nat → Prop} {A B : World} (h : Sm K A B) (hk : ∀ i, i < A.heap.size → K' i → K i) : Sm K' A B :=
  ⟨h.os, h.tape, h.output, h.size, fun i hi hK => h.block i hi (hk i hi hK)⟩
theorem Sm.below {K : Nat → Prop} {A B : World} {n : Nat} (h : Sm K A B) (hn : n ≤ A.heap.size) (hk : ∀ i, i < n → K i) : Below n A B :=
  ⟨h.os, h.tape, h.output, h.size, fun i hi => h.block i (by omega) (hk i hi)⟩
theorem Sm.of_below {K : Nat → Prop} {A B : World} {n : Nat} (h : Below n A B) (hk : ∀ i, i < A.heap.size → K i → i < n) : Sm K A B :=
  ⟨h.os, h.tape, h.output, h.size, fun i hi hK => h.block i (hk i hi hK)⟩
theorem Sm.of_grown {K : Nat → Prop} {A B : World} {row : Option Nat} (h : A.grownBy B row) (hk : ∀ i, i < A.heap.size → K i → some i ≠ row) : Sm K A B :=
  ⟨h.os, h.tape, h.output, h.size, fun i hi hK => h.block i hi (hk i hi hK)⟩
theorem Sm.putObj (K : Nat → Prop) (A : World) (l : Nat) (o : Obj) (hl : ¬ K l) : Sm K A (A.putObj l o) :=
  Sm.of_grown (grownBy_putObj' A l o) (fun i _ hK e => hl (by cases e; exact hK))
theorem Sm.alloc (K : Nat → Prop) (A : World) (o : Obj) : Sm K A (A.alloc o) := Sm.of_grown (World.grownBy_alloc A o none) (fun i _ _ e => by cases e)
theorem Sm.setCell (K : Nat → Prop) (A : World) (p : Addr) (u : Value) (hl : ¬ K p.block) : Sm K A (A.setCell p u) :=
  ⟨rfl, rfl, rfl, by simp [World.setCell], fun k _ hk => Below.heap_setCell _ _ _ _ (fun e => hl (e ▸ hk))⟩
theorem Sm.drew {K : Nat → Prop} {A B : World} (h : Sm K A B) : Sm K A B.drew := ⟨h.os, h.tape, h.output, h.size, h.block⟩

/-- What is said of the blocks below m and those of o alone. -/
def Stb {β : Type} (m : Nat) (I : β → (Nat → Prop) → World → Prop) : Prop := ∀ s o A B, I s o A → Sm (fun k => k < m ∨ o k) A B → I s o B
/-- A step that writes blocks of o alone, and new ones. -/
def Fp (m : Nat) (o o' : Nat → Prop) (W W' : World) : Prop := Sm (fun k => k < m ∨ ¬ o k) W W' ∧ ∀ k, o' k → o k ∨ W.heap.size ≤ k
theorem Fp.refl (m : Nat) (o : Nat → Prop) (W : World) : Fp m o o W W := ⟨Sm.refl _ _, fun _ h => .inl h⟩
theorem Fp.trans {m : Nat} {o o' o'' : Nat → Prop} {A B C : World} (h : Fp m o o' A B) (k : Fp m o' o'' B C) : Fp m o o'' A C :=
  ⟨h.1.trans k.1 (fun i hi hK => by
    rcases hK with hK | hK
    · exact .inl hK
    · exact .inr (fun e => by rcases h.2 i e with h' | h'; exact hK h'; omega)),
   fun i hi => by
    rcases k.2 i hi with h' | h'
    · exact h.2 i h'
    · exact .inr (Nat.le_trans h.1.size h')⟩

/-- The contract of an iterator that keeps memory of its own: all of xs come, one by one; or a part, where a round has said 'no more'. -/
def SeqOwns {α : Type} (F : Fence) (n : Nat) (P : Program) (g : Nat) (lb : Array Value) (encs : α → Array Value) (m : Nat) (xs : List α) (w : World) : Prop :=
  ∀ (l : Nat) (J Jx : List α → (Nat → Prop) → World → Prop) (o : Nat → Prop) (W : World), Below w.heap.size w W →
    (∀ s o A, J s o A → ∀ k, o k → k < A.heap.size ∧ m ≤ k) → Stb m J → Stb m Jx →
    (∀ pre x rest o W1, xs = pre ++ x :: rest → J pre o W1 → YieldAt F (n - 1) P l (encs x) W1 fun e W' =>
      (e = .returned (.bool true) ∧ ∃ o', J (pre ++ [x]) o' W' ∧ Fp m o o' W1 W') ∨ (e = .returned (.bool false) ∧ ∃ o', Jx (pre ++ [x]) o' W')) →
    J [] o W →
    CallsIn F n P g (#[.func (.yield l) #[] #[]] ++ lb) W fun e W' => (∃ v, e = .returned v) ∧ ((∃ o, J xs o W') ∨ (∃ pre o, pre <+: xs ∧ Jx pre o W'))

/-- How the body of a round may be left. -/
def stPost {α : Type} (m : Nat) (I : List α → (Nat → Prop) → World → Prop) (Ix : Code → List α → (Nat → Prop) → World → Prop) (xs : List α) (o : Nat → Prop) (W : World) : Exit → Act → World → Prop
  | .normal, _, W' => ∃ o', Fp m o o' W W' ∧ I xs o' W'
  | .ret, _, W' => ∃ o', Fp m o o' W W' ∧ Ix .ret xs o' W'
  | .exit id, _, W' => ∃ o', Fp m o o' W W' ∧ Ix (.exit id) xs o' W'
  | .goto t, _, W' => ∃ o', Fp m o o' W W' ∧ Ix (.goto t) xs o' W'
  | .panic _, _, _ => False
  | .outgrown, _, _ => False

theorem wpIn_rangeFunc_st {F : Fence} {n : Nat} {P : Program} {α : Type} {g : Operand} {ps : Array Tmp} {assign body : Code} {Q : Exit → Act → World → Prop} {a : Act} {w : World}
    (hro : F.round = none) (h1 : 1 ≤ n) {gf : Nat} {lb : Array Value} (hg : a.eval g = .func (.func gf) #[] lb) (hFg : F.fn gf) (eg : ∀ args w, (callFunc gf args).run P w = .ok (.enter gf args) w)
    {encs : α → Array Value} {m : Nat} {xs : List α} {w0 : World} (hseq : SeqOwns F (n - 1) P gf lb encs m xs w0) (hb0 : Below w0.heap.size w0 w) (hm : m ≤ w.heap.size) (hps : ∀ x, (encs x).size = ps.size)
    (I : List α → (Nat → Prop) → World → Prop) (IA : List α → α → Act → (Nat → Prop) → World → Prop) (Ix : Code → List α → (Nat → Prop) → World → Prop)
    (hIl : ∀ s o A, I s o A → ∀ k, o k → k < A.heap.size ∧ m ≤ k) (hI : Stb m I) (hIA : ∀ pre x a', Stb m (fun (_ : Unit) => IA pre x a')) (hIx : ∀ c, Stb m (Ix c)) (o0 : Nat → Prop) (h0 : I [] o0 w)
    (hassign : ∀ (l : Nat) (pre : List α) (x : α) (rest : List α) (o : Nat → Prop) (W : World) (K : Act → World → Prop), xs = pre ++ x :: rest → I pre o W → (∀ a' o' W', Fp m o o' W W' → IA pre x a' o' W' → K a' W') →
      assign.wpIn (F.inRound l) (n - 1 - 1) P (Exit.then K (fun _ _ _ => False)) { tmps := (ps.zip (encs x)).foldl (fun t (p, v) => t.setIfInBounds p v) a.tmps, defers := [] } W)
    (hbody : ∀ (l : Nat) (pre : List α) (x : α) (rest : List α) (a' : Act) (o : Nat → Prop) (W : World), xs = pre ++ x :: rest → IA pre x a' o W → body.wpIn (F.inRound l) (n - 1 - 1) P (stPost m I Ix (pre ++ [x]) o W) a' W)
    (hdone : ∀ (D : Nat) (o : Nat → Prop) (W : World), w.heap.size ≤ D → I xs o W → ¬ o D → W.heap[D]? = some (.deferred (some [])) → Q .normal { a with defers := { target := .collected D, args := #[] } :: a.defers } W)
    (hstop : ∀ (D : Nat) (c : Code) (pre : List α) (o : Nat → Prop) (W : World), w.heap.size ≤ D → pre <+: xs → Ix c pre o W → ¬ o D → W.heap[D]? = some (.deferred (some [])) → c.wpIn F n P Q { a with defers := { target := .collected D, args := #[] } :: a.defers } W) :
    (Code.rangeFunc g ps assign body).wpIn F n P Q a w := by
  refine wpIn_rangeFunc ?_
  intro fn hfn
  rw [hro]
  obtain ⟨rec, hrec⟩ : ∃ rec : LoopState → Option Code → Loop, rec = fun st pe => { state := st, pending := pe, fn, tmps := a.tmps, params := ps, assign, body, defers := w.heap.size } := ⟨_, rfl⟩
  obtain ⟨W1, hW1⟩ : ∃ W1, (w.alloc (.deferred (some []))).alloc (.loop (rec .ready none)) = W1 := ⟨_, rfl⟩
  have hL1 : W1.heap[w.heap.size + 1]? = some (.loop (rec .ready none)) := by
    rw [← hW1]; have := World.alloc_heap_new (w.alloc (.deferred (some []))) (.loop (rec .ready none)); rwa [World.size_alloc] at this
  have hK1 : W1.heap[w.heap.size]? = some (.deferred (some [])) := by
    rw [← hW1]; exact (Below.heap_alloc _ _ _ (by simp)).trans (World.alloc_heap_new w _)
  have hI1 : I [] o0 W1 := by rw [← hW1]; exact hI _ _ _ _ (hI _ _ _ _ h0 (Sm.alloc _ _ _)) (Sm.alloc _ _ _)
  have hb1 : Below w0.heap.size w0 W1 := by
    rw [← hW1]; exact hb0.trans ((((Below.refl _ w).alloc (Nat.le_refl _) _).alloc (by simp) _).mono hb0.size)
  refine ⟨w.heap.size + 1, [{ target := .collected w.heap.size, args := #[] }], W1, { target := .fn (.func gf) lb, args := #[.func (.yield (w.heap.size + 1)) #[] #[]] }, W1, gf,
    #[.func (.yield (w.heap.size + 1)) #[] #[]] ++ lb, W1, ?_, ?_, ?_, ?_, fun _ => h1, ?_⟩
  · rw [← hW1, hrec]; exact run_enterLoop_outer _ _ _ _ _
  · simp only [resolve, hg]
    simp [go_sem]
  · intro f' hf'; simp [Target.leads] at hf'; subst hf'; exact hFg
  · simp [invoke, go_sem, eg]
  · obtain ⟨D, hD⟩ : ∃ D, w.heap.size = D := ⟨_, rfl⟩
    rw [hD] at hL1 hK1 hm hdone hstop ⊢
    have hsz : D + 2 = W1.heap.size := by rw [← hW1, ← hD]; simp
    have hno : ∀ k, o0 k → k < D := fun k hk => by have := (hIl _ _ _ h0 k hk).1; omega
    clear hW1
    refine (hseq (D + 1)
      (fun pre oj W => ∃ o, I pre o W ∧ (∀ k, oj k ↔ (o k ∨ k = D ∨ k = D + 1)) ∧ ¬ o D ∧ ¬ o (D + 1) ∧ W.heap[D + 1]? = some (.loop (rec .ready none)) ∧ W.heap[D]? = some (.deferred (some [])))
      (fun pre oj W => ∃ c o, Ix c pre o W ∧ (∀ k, oj k ↔ (o k ∨ k = D ∨ k = D + 1)) ∧ ¬ o D ∧ ¬ o (D + 1) ∧ W.heap[D + 1]? = some (.loop (rec .done (some c))) ∧ W.heap[D]? = some (.deferred (some [])))
      (fun k => o0 k ∨ k = D ∨ k = D + 1) W1 hb1 ?hl ?hJ ?hJx ?hY ⟨o0, hI1, fun _ => Iff.rfl, fun h => by have := hno _ h; omega, fun h => by have := hno _ h; omega, hL1, hK1⟩).mono ?_
    case hl =>
      rintro s oj A ⟨o, hi, hoj, _, _, hl, hk⟩ k hk'
      rcases (hoj k).1 hk' with h | rfl | rfl
      · exact hIl _ _ _ hi k h
      · exact ⟨(Array.getElem?_eq_some_iff.1 hk).1, hm⟩
      · exact ⟨(Array.getElem?_eq_some_iff.1 hl).1, by omega⟩
    case hJ =>
      rintro s oj A B ⟨o, hi, hoj, n1, n2, hl, hk⟩ hs
      refine ⟨o, hI _ _ _ _ hi (hs.mono (fun i _ h => h.imp id (fun h => (hoj i).2 (.inl h)))), hoj, n1, n2, ?_, ?_⟩
      · exact (hs.block _ (Array.getElem?_eq_some_iff.1 hl).1 (.inr ((hoj _).2 (.inr (.inr rfl))))).trans hl
      · exact (hs.block _ (Array.getElem?_eq_some_iff.1 hk).1 (.inr ((hoj _).2 (.inr (.inl rfl))))).trans hk
    case hJx =>
      rintro s oj A B ⟨c, o, hi, hoj, n1, n2, hl, hk⟩ hs
      refine ⟨c, o, hIx c _ _ _ _ hi (hs.mono (fun i _ h => h.imp id (fun h => (hoj i).2 (.inl h)))), hoj, n1, n2, ?_, ?_⟩
      · exact (hs.block _ (Array.getElem?_eq_some_iff.1 hl).1 (.inr ((hoj _).2 (.inr (.inr rfl))))).trans hl
      · exact (hs.block _ (Array.getElem?_eq_some_iff.1 hk).1 (.inr ((hoj _).2 (.inr (.inl rfl))))).trans hk
    case hY =>
      rintro pre x rest oj W hx ⟨o, hi, hoj, n1, n2, hl, hk⟩
      have hlt : D + 1 < W.heap.size := (Array.getElem?_eq_some_iff.1 hl).1
      have hy := run_yield (P := P) (args := encs x) hl (by rw [hrec]; exact hps x)
      rw [hrec] at hy
      refine ⟨fn, _, assign, body, hy, roundIn_of_wpIn hfn (hassign _ pre x rest o W _ hx hi ?_)⟩
      clear hy
      intro a' oa Wa hfa hia
      have nD : ∀ {o o' : Nat → Prop} {A B : World}, Fp m o o' A B → D + 1 < A.heap.size → ¬ o D → ¬ o (D + 1) → B.heap[D + 1]? = A.heap[D + 1]? ∧ B.heap[D]? = A.heap[D]? ∧ ¬ o' D ∧ ¬ o' (D + 1) := fun hf hs h1 h2 =>
        ⟨hf.1.block _ hs (.inr h2), hf.1.block _ (by omega) (.inr h1), fun h => by rcases hf.2 _ h with h | h; exact h1 h; omega, fun h => by rcases hf.2 _ h with h | h; exact h2 h; omega⟩
      obtain ⟨e1, e2, m1, m2⟩ := nD hfa hlt n1 n2
      have hla := e1.trans hl
      have hka := e2.trans hk
      have hlta : D + 1 < Wa.heap.size := (Array.getElem?_eq_some_iff.1 hla).1
      refine ⟨_, run_beginRound hla (by rw [hrec]), ?_⟩
      obtain ⟨Wb, hWb⟩ : ∃ Wb, Wa.putObj (D + 1) (.loop { rec .ready none with state := .busy }) = Wb := ⟨_, rfl⟩
      have hlb : Wb.heap[D + 1]? = some (.loop { rec .ready none with state := .busy }) := by rw [← hWb]; exact World.putObj_heap_same hlta
      have hkb : Wb.heap[D]? = some (.deferred (some [])) := by rw [← hWb]; exact (World.putObj_heap_other (by omega)).trans hka
      have hsb : Sm (fun k => k < m ∨ k ≠ D + 1) Wa Wb := by rw [← hWb]; exact Sm.putObj _ _ _ _ (fun h => by rcases h with h | h; omega; exact h rfl)
      have hib : IA pre x a' oa Wb := hIA pre x a' () _ _ _ hia (hsb.mono (fun i _ h => h.imp id (fun h e => m2 (e ▸ h))))
      rw [hWb]
      have hltb : D + 1 < Wb.heap.size := (Array.getElem?_eq_some_iff.1 hlb).1
      refine wpIn_mono (hbody _ pre x rest a' oa _ hx hib) ?_
      have fin : ∀ (jump : Option Code) (W3 : World) (o3 : Nat → Prop), Fp m oa o3 Wb W3 →
          (Instr.endRound (D + 1) jump).run P W3 = .ok (.bool jump.isNone) (W3.putObj (D + 1) (.loop (rec (if jump.isNone then .ready else .done) jump))) ∧
          (W3.putObj (D + 1) (.loop (rec (if jump.isNone then .ready else .done) jump))).heap[D + 1]? = some (.loop (rec (if jump.isNone then .ready else .done) jump)) ∧
          (W3.putObj (D + 1) (.loop (rec (if jump.isNone then .ready else .done) jump))).heap[D]? = some (.deferred (some [])) ∧ ¬ o3 D ∧ ¬ o3 (D + 1) ∧
          Sm (fun k => k < m ∨ o3 k) W3 (W3.putObj (D + 1) (.loop (rec (if jump.isNone then .ready else .done) jump))) ∧
          Fp m oj (fun k => o3 k ∨ k = D ∨ k = D + 1) W (W3.putObj (D + 1) (.loop (rec (if jump.isNone then .ready else .done) jump))) := fun jump W3 o3 hk3 => by
        obtain ⟨e3, e4, m3, m4⟩ := nD hk3 hltb m1 m2
        have hl3 := e3.trans hlb
        have hkk3 := e4.trans hkb
        have hr := run_endRound (P := P) jump hl3
        have hlt3 : D + 1 < W3.heap.size := (Array.getElem?_eq_some_iff.1 hl3).1
        have hsm : ∀ K : Nat → Prop, ¬ K (D + 1) → Sm K W3 (W3.putObj (D + 1) (.loop (rec (if jump.isNone then .ready else .done) jump))) := fun K hK => Sm.putObj _ _ _ _ hK
        refine ⟨by rw [hrec] at hr ⊢; exact hr, World.putObj_heap_same hlt3, (World.putObj_heap_other (by omega)).trans hkk3, m3, m4, hsm _ (fun h => by rcases h with h | h; omega; exact m4 h), ?_, ?_⟩
        · have hoa : ∀ i, i < W.heap.size → ¬ oj i → ¬ oa i := fun i hi h e => by rcases hfa.2 i e with h' | h'; exact h ((hoj i).2 (.inl h')); omega
          refine ((hfa.1.mono (K' := fun k => k < m ∨ ¬ oj k) (fun i _ h => h.imp id (fun h e => h ((hoj i).2 (.inl e))))).trans hsb (fun i _ h => h.imp id (fun h e => h ((hoj i).2 (.inr (.inr e)))))).trans hk3.1 (fun i hi h => h.imp id (hoa i hi)) |>.trans (hsm (fun k => k ≠ D + 1) (fun h => h rfl)) (fun i _ h e => ?_)
          rcases h with h | h
          · omega
          · exact h ((hoj i).2 (.inr (.inr e)))
        · rintro k (h | rfl | rfl)
          · rcases hk3.2 k h with h' | h'
            · rcases hfa.2 k h' with h'' | h''
              · exact .inl ((hoj k).2 (.inl h''))
              · exact .inr h''
            · exact .inr (Nat.le_trans hfa.1.size (Nat.le_trans hsb.size h'))
          · exact .inl ((hoj _).2 (.inr (.inl rfl)))
          · exact .inl ((hoj _).2 (.inr (.inr rfl)))
      rintro e a3 W3 hp
      cases e with
      | normal =>
        obtain ⟨o3, hf3, hi3⟩ := hp
        obtain ⟨hr, hl4, hk4, q1, q2, hs, hff⟩ := fin none W3 o3 hf3
        exact ⟨_, _, hr, .inl ⟨rfl, _, ⟨o3, hI _ _ _ _ hi3 hs, fun _ => Iff.rfl, q1, q2, hl4, hk4⟩, hff⟩⟩
      | ret =>
        obtain ⟨o3, hf3, hi3⟩ := hp
        obtain ⟨hr, hl4, hk4, q1, q2, hs, hff⟩ := fin (some .ret) W3 o3 hf3
        exact ⟨_, _, hr, .inr ⟨rfl, _, .ret, o3, hIx _ _ _ _ _ hi3 hs, fun _ => Iff.rfl, q1, q2, hl4, hk4⟩⟩
      | exit id =>
        obtain ⟨o3, hf3, hi3⟩ := hp
        obtain ⟨hr, hl4, hk4, q1, q2, hs, hff⟩ := fin (some (.exit id)) W3 o3 hf3
        exact ⟨_, _, hr, .inr ⟨rfl, _, .exit id, o3, hIx _ _ _ _ _ hi3 hs, fun _ => Iff.rfl, q1, q2, hl4, hk4⟩⟩
      | goto t =>
        obtain ⟨o3, hf3, hi3⟩ := hp
        obtain ⟨hr, hl4, hk4, q1, q2, hs, hff⟩ := fin (some (.goto t)) W3 o3 hf3
        exact ⟨_, _, hr, .inr ⟨rfl, _, .goto t, o3, hIx _ _ _ _ _ hi3 hs, fun _ => Iff.rfl, q1, q2, hl4, hk4⟩⟩
      | panic ch => exact hp.elim
      | outgrown => exact hp.elim
    · rintro e W2 ⟨⟨v, rfl⟩, (⟨oj, o, hi, hoj, n1, n2, hl, hk⟩ | ⟨pre, oj, hSp, c, o, hi, hoj, n1, n2, hl, hk⟩)⟩
      · exact ⟨none, _, by have := run_endLoop (P := P) hl (by rw [hrec]; simp); rw [hrec] at this; exact this, hdone _ o _ (Nat.le_refl _) (hI _ _ _ _ hi (Sm.putObj _ _ _ _ (fun h => by rcases h with h | h; omega; exact n2 h))) n1 ((World.putObj_heap_other (by omega)).trans hk)⟩
      · exact ⟨some c, _, by have := run_endLoop (P := P) hl (by rw [hrec]; simp); rw [hrec] at this; exact this, hstop _ c pre o _ (Nat.le_refl _) hSp (hIx c _ _ _ _ hi (Sm.putObj _ _ _ _ (fun h => by rcases h with h | h; omega; exact n2 h))) n1 ((World.putObj_heap_other (by omega)).trans hk)⟩
end Go.Proofs.Ytoankfbccofllaa

/- Nodes: which one lies in which, by how deep they lie, and by their parents. Math alone. -/
namespace Go.Proofs.Ytoankfbccofllaa
set_option linter.unusedVariables false

/-- The last one ahead of k that lies less than d deep. -/
def ppar (D : Nat → Int) (d : Int) : Nat → Int
  | 0 => -1
  | k + 1 => if D k < d then (k : Int) else ppar D d k
theorem ppar_lt (D : Nat → Int) (d : Int) : ∀ k : Nat, -1 ≤ ppar D d k ∧ ppar D d k < k
  | 0 => by unfold ppar; omega
  | k + 1 => by
    have := ppar_lt D d k
    unfold ppar
    split <;> omega
theorem ppar_mid (D : Nat → Int) (d : Int) : ∀ (k m : Nat), ppar D d k < m → m < k → d ≤ D m
  | 0, m, h, hm => by omega
  | k + 1, m, h, hm => by
    unfold ppar at h
    split at h
    · omega
    · rcases Nat.lt_or_ge m k with h2 | h2
      · exact ppar_mid D d k m h h2
      · have : m = k := by omega
        subst this; omega
theorem ppar_in (D : Nat → Int) (d : Int) : ∀ (k p : Nat), ppar D d k = p → D p < d
  | 0, p, h => by unfold ppar at h; omega
  | k + 1, p, h => by
    unfold ppar at h
    split at h
    · have : k = p := by omega
      subst this; assumption
    · exact ppar_in D d k p h
theorem ppar_uniq (D : Nat → Int) (d : Int) : ∀ (k : Nat) (p : Int), -1 ≤ p → p < k → (∀ m : Nat, p < m → m < k → d ≤ D m) → (∀ q : Nat, p = q → D q < d) → ppar D d k = p
  | 0, p, h1, h2, _, _ => by unfold ppar; omega
  | k + 1, p, h1, h2, h3, h4 => by
    unfold ppar
    by_cases hk : p = k
    · rw [if_pos (h4 k hk)]; exact hk.symm
    · rw [if_neg (by have := h3 k (by omega) (by omega); omega)]
      exact ppar_uniq D d k p h1 (by omega) (fun m a b => h3 m a (by omega)) h4
/-- The first one from j on, of f, that lies no more than d deep. -/
def pbeh (D : Nat → Int) (d : Int) : Nat → Nat → Nat
  | 0, j => j
  | f + 1, j => if d < D j then pbeh D d f (j + 1) else j
theorem pbeh_le (D : Nat → Int) (d : Int) : ∀ f j : Nat, j ≤ pbeh D d f j ∧ pbeh D d f j ≤ j + f
  | 0, j => by unfold pbeh; omega
  | f + 1, j => by
    have := pbeh_le D d f (j + 1)
    unfold pbeh
    split <;> omega
/-- Each lies at most 1 deeper than the one ahead. -/
def nst (D : Nat → Int) (n : Nat) : Prop := ∀ i < n, 0 ≤ D i ∧ (i = 0 → D i ≤ 0) ∧ (0 < i → D i ≤ D (i - 1) + 1)
/-- What is told of the nodes follows of how deep they lie. -/
def FmP (n : Nat) (D P B : Nat → Int) (L : Nat → Bool) : Prop :=
  n ≤ 40 ∧ nst D n ∧ ∀ i < n, P i = ppar D (D i) i ∧ B i = (pbeh D (D i) (n - (i + 1)) (i + 1) : Nat) ∧ L i = decide (B i = (i : Int) + 1)
/-- Up from k by parents: is p met? -/
def okR (P : Nat → Int) (p : Int) : Nat → Int → Bool
  | 0, _ => false
  | f + 1, k => if k < 0 then false else if p = k then true else okR P p f (P k.toNat)
/-- How many there are, up from k. -/
def dpR (P : Nat → Int) : Nat → Int → Nat
  | 0, _ => 0
  | f + 1, k => if k < 0 then 0 else 1 + dpR P f (P k.toNat)
/-- Does i lie in j, by parents? -/
def lsR (P : Nat → Int) (j : Int) : Nat → Nat → Bool
  | 0, _ => false
  | f + 1, i => if 0 ≤ P i ∧ P i < i then (if P i = j then true else lsR P j f (P i).toNat) else false
/-- The first one from b on that does not lie in i. -/
def bhR (P : Nat → Int) (i : Int) : Nat → Nat → Nat
  | 0, b => b
  | f + 1, b => if lsR P i (b + 1) b then bhR P i f (b + 1) else b
def FmR (n : Nat) (D P B : Nat → Int) (L : Nat → Bool) : Prop :=
  n ≤ 40 ∧ ∀ i < n, (P i = -1 ∨ okR P (P i) i ((i : Int) - 1) = true) ∧ D i = (dpR P i (P i) : Nat) ∧ B i = (bhR P i (n - (i + 1)) (i + 1) : Nat) ∧ L i = decide (B i = (i : Int) + 1)
/-- Parents are as the depths have it, below n. -/
def Prn (n : Nat) (D P : Nat → Int) : Prop := ∀ i < n, P i = ppar D (D i) i
/-- p is c, or c lies in it, by depths. -/
def Anc (D : Nat → Int) (p c : Int) : Prop := 0 ≤ p ∧ p ≤ c ∧ ∀ m : Nat, p < m → m ≤ c → D p.toNat < D m
theorem anc_up {n : Nat} {D P : Nat → Int} (hP : Prn n D P) {c : Nat} (hc : c < n) {p : Int} (hp : p < c) : Anc D p c ↔ Anc D p (P c) := by
  have e := hP c hc
  have hl := ppar_lt D (D c) c
  rw [← e] at hl
  constructor
  · rintro ⟨h1, h2, h3⟩
    have hle : p ≤ P c := by
      rcases Int.lt_or_le (P c) p with h | h
      · have := ppar_mid D (D c) c p.toNat (by rw [← e]; omega) (by omega)
        have := h3 c (by omega) (by omega)
        omega
      · exact h
    exact ⟨h1, hle, fun m a b => h3 m a (by omega)⟩
  · rintro ⟨h1, h2, h3⟩
    refine ⟨h1, by omega, fun m a b => ?_⟩
    have hin := ppar_in D (D c) c (P c).toNat (by rw [← e]; omega)
    have hpc : D p.toNat ≤ D (P c).toNat := by
      rcases Int.lt_or_le p (P c) with h | h
      · have := h3 (P c).toNat (by omega) (by omega)
        omega
      · have : p = P c := by omega
        rw [this]; exact Int.le_refl _
    rcases Int.lt_or_le (P c) m with h | h
    · rcases Nat.lt_or_ge m c with h5 | h5
      · have := ppar_mid D (D c) c m (by rw [← e]; exact h) h5
        omega
      · have : m = c := by omega
        subst this; omega
    · have := h3 m a h
      exact this
theorem okR_anc {n : Nat} {D P : Nat → Int} (hP : Prn n D P) (p : Int) : ∀ (f : Nat) (c : Int), c < f → c < n → (okR P p f c = true ↔ Anc D p c)
  | 0, c, h, hn => by
    refine ⟨fun h => by simp [okR] at h, fun h => ?_⟩
    have := h.1; have := h.2.1; omega
  | f + 1, c, h, hn => by
    unfold okR
    by_cases h0 : c < 0
    · rw [if_pos h0]
      refine ⟨fun h => by simp at h, fun h => ?_⟩
      have := h.1; have := h.2.1; omega
    rw [if_neg h0]
    by_cases hpc : p = c
    · rw [if_pos hpc]
      exact ⟨fun _ => ⟨by omega, by omega, fun m a b => by omega⟩, fun _ => rfl⟩
    rw [if_neg hpc]
    have hl := ppar_lt D (D c.toNat) c.toNat
    rw [← hP c.toNat (by omega)] at hl
    rw [okR_anc hP p f (P c.toNat) (by omega) (by omega)]
    by_cases hlt : p < c
    · have := anc_up hP (c := c.toNat) (by omega) (p := p) (by omega)
      rw [Int.toNat_of_nonneg (by omega)] at this
      exact this.symm
    · refine ⟨fun h => ?_, fun h => ?_⟩
      · have := h.2.1; omega
      · have := h.2.1; omega
theorem lsR_anc {n : Nat} {D P : Nat → Int} (hP : Prn n D P) (j : Int) : ∀ (f i : Nat), i < f → i < n → (lsR P j f i = true ↔ (j < i ∧ Anc D j i))
  | 0, i, h, hn => by omega
  | f + 1, i, h, hn => by
    unfold lsR
    have hl := ppar_lt D (D i) i
    rw [← hP i hn] at hl
    by_cases hp : 0 ≤ P i ∧ P i < i
    · rw [if_pos hp]
      by_cases hj : P i = j
      · rw [if_pos hj]
        refine ⟨fun _ => ⟨by omega, (anc_up hP hn (by omega)).2 ?_⟩, fun _ => rfl⟩
        exact ⟨by omega, by omega, fun m a b => by omega⟩
      · rw [if_neg hj, lsR_anc hP j f (P i).toNat (by omega) (by omega)]
        rw [Int.toNat_of_nonneg hp.1]
        constructor
        · rintro ⟨a, b⟩
          exact ⟨by omega, (anc_up hP hn (by omega)).2 b⟩
        · rintro ⟨a, b⟩
          have b2 := (anc_up hP hn a).1 b
          have := b2.2.1
          exact ⟨by omega, b2⟩
    · rw [if_neg hp]
      refine ⟨fun h => by simp at h, fun h => ?_⟩
      have b2 := (anc_up hP hn h.1).1 h.2
      have := b2.1; have := b2.2.1; omega
theorem par_deep {n : Nat} {D P : Nat → Int} (hP : Prn n D P) (hn : nst D n) {i : Nat} (hi : i < n) : (P i = -1 → D i = 0) ∧ (0 ≤ P i → D i = D (P i).toNat + 1) := by
  have e := hP i hi
  have hl := ppar_lt D (D i) i
  rw [← e] at hl
  have h0 := hn 0 (by omega)
  have hi0 := hn i hi
  constructor
  · intro h
    rcases Nat.lt_or_ge 0 i with h2 | h2
    · have := ppar_mid D (D i) i 0 (by rw [← e]; omega) h2
      have := h0.2.1 rfl
      omega
    · have : i = 0 := by omega
      subst this
      have := h0.2.1 rfl
      omega
  · intro h
    have hin := ppar_in D (D i) i (P i).toNat (by rw [← e]; omega)
    have hs := hn ((P i).toNat + 1) (by omega)
    have hs2 := hs.2.2 (by omega)
    rw [Nat.add_sub_cancel] at hs2
    rcases Nat.lt_or_ge ((P i).toNat + 1) i with h2 | h2
    · have := ppar_mid D (D i) i ((P i).toNat + 1) (by rw [← e]; omega) h2
      omega
    · have : (P i).toNat + 1 = i := by omega
      rw [this] at hs2
      omega
theorem dpR_deep {n : Nat} {D P : Nat → Int} (hP : Prn n D P) (hn : nst D n) : ∀ (f : Nat) (c : Int), -1 ≤ c → c < f → c < n → (dpR P f c : Int) = if 0 ≤ c then D c.toNat + 1 else 0
  | 0, c, h0, h, hc => by unfold dpR; rw [if_neg (by omega)]; rfl
  | f + 1, c, h0, h, hc => by
    unfold dpR
    by_cases hz : c < 0
    · rw [if_pos hz, if_neg (by omega)]; rfl
    rw [if_neg hz, if_pos (by omega)]
    have hl := ppar_lt D (D c.toNat) c.toNat
    rw [← hP c.toNat (by omega)] at hl
    have IH := dpR_deep hP hn f (P c.toNat) (by omega) (by omega) (by omega)
    have hd := par_deep hP hn (i := c.toNat) (by omega)
    push_cast
    rw [IH]
    split
    · have := hd.2 (by assumption); omega
    · have := hd.1 (by omega); omega
theorem beh_same {n : Nat} {D P : Nat → Int} (hP : Prn n D P) {i : Nat} : ∀ (f b : Nat), i < b → b + f ≤ n → (∀ m : Nat, i < m → m < b → D i < D m) → pbeh D (D i) f b = bhR P i f b
  | 0, b, _, _, _ => by unfold pbeh bhR; rfl
  | f + 1, b, hb, hf, hm => by
    unfold pbeh bhR
    have hls := lsR_anc hP i (b + 1) b (by omega) (by omega)
    by_cases hd : D i < D b
    · have ht : lsR P i (b + 1) b = true := hls.2 ⟨by omega, by omega, by omega, fun m a c => by
        rw [Int.toNat_natCast]
        rcases Nat.lt_or_ge m b with h | h
        · exact hm m (by omega) h
        · have : m = b := by omega
          subst this; exact hd⟩
      rw [if_pos hd, if_pos ht]
      exact beh_same hP f (b + 1) (by omega) (by omega) (fun m a c => by
        rcases Nat.lt_or_ge m b with h | h
        · exact hm m a h
        · have : m = b := by omega
          subst this; exact hd)
    · have ht : ¬ lsR P i (b + 1) b = true := fun h => by
        have := (hls.1 h).2.2.2 b (by omega) (by omega)
        rw [Int.toNat_natCast] at this
        exact hd this
      rw [if_neg hd, if_neg ht]
theorem fm_same (n : Nat) (D P B : Nat → Int) (L : Nat → Bool) : FmP n D P B L ↔ FmR n D P B L := by
  constructor
  · rintro ⟨h40, hn, h⟩
    have hP : Prn n D P := fun i hi => (h i hi).1
    refine ⟨h40, fun i hi => ?_⟩
    obtain ⟨h1, h2, h3⟩ := h i hi
    have hl := ppar_lt D (D i) i
    rw [← h1] at hl
    have hd := par_deep hP hn hi
    refine ⟨?_, ?_, ?_, h3⟩
    · rcases Int.lt_or_le (P i) 0 with h0 | h0
      · left; omega
      · right
        rw [okR_anc hP (P i) i ((i : Int) - 1) (by omega) (by omega)]
        refine ⟨h0, by omega, fun m a b => ?_⟩
        have := ppar_mid D (D i) i m (by rw [← h1]; exact a) (by omega)
        have := hd.2 h0
        omega
    · rw [dpR_deep hP hn i (P i) (by omega) (by omega) (by omega)]
      split
      · have := hd.2 (by assumption); omega
      · have := hd.1 (by omega); omega
    · rw [h2, beh_same hP (n - (i + 1)) (i + 1) (by omega) (by omega) (fun m a b => by omega)]
  · rintro ⟨h40, h⟩
    have key : ∀ k ≤ n, Prn k D P ∧ nst D k := by
      intro k
      induction k with
      | zero => exact fun _ => ⟨fun i hi => by omega, fun i hi => by omega⟩
      | succ k IH =>
        intro hk
        obtain ⟨hP, hn⟩ := IH (by omega)
        obtain ⟨h1, h2, _, _⟩ := h k (by omega)
        have hA : P k = -1 ∨ Anc D (P k) ((k : Int) - 1) := by
          rcases h1 with h1 | h1
          · exact .inl h1
          · exact .inr ((okR_anc hP (P k) k ((k : Int) - 1) (by omega) (by omega)).1 h1)
        have hlt : -1 ≤ P k ∧ P k < k := by
          rcases hA with h | h
          · omega
          · have := h.1; have := h.2.1; omega
        rw [dpR_deep hP hn k (P k) (by omega) (by omega) (by omega)] at h2
        have hpar : P k = ppar D (D k) k := by
          refine (ppar_uniq D (D k) k (P k) hlt.1 hlt.2 (fun m a b => ?_) (fun q hq => ?_)).symm
          · rcases hA with h | h
            · rw [if_neg (by omega)] at h2
              have := (hn m b).1
              omega
            · rw [if_pos h.1] at h2
              have := h.2.2 m a (by omega)
              omega
          · rw [if_pos (by omega)] at h2
            have : (P k).toNat = q := by omega
            rw [this] at h2
            omega
        have hns : 0 ≤ D k ∧ (k = 0 → D k ≤ 0) ∧ (0 < k → D k ≤ D (k - 1) + 1) := by
          rcases hA with h | h
          · rw [if_neg (by omega)] at h2
            refine ⟨by omega, fun _ => by omega, fun h0 => ?_⟩
            have := (hn (k - 1) (by omega)).1
            omega
          · rw [if_pos h.1] at h2
            have hp0 := h.1
            have hp1 := h.2.1
            have := (hn (P k).toNat (by omega)).1
            refine ⟨by omega, fun h0 => by omega, fun h0 => ?_⟩
            rcases Int.lt_or_le (P k) ((k : Int) - 1) with h5 | h5
            · have := h.2.2 (k - 1) (by omega) (by omega)
              omega
            · have : (P k).toNat = k - 1 := by omega
              rw [this] at h2
              omega
        refine ⟨fun i hi => ?_, fun i hi => ?_⟩
        · rcases Nat.lt_or_ge i k with h5 | h5
          · exact hP i h5
          · have : i = k := by omega
            subst this; exact hpar
        · rcases Nat.lt_or_ge i k with h5 | h5
          · exact hn i h5
          · have : i = k := by omega
            subst this; exact hns
    obtain ⟨hP, hn⟩ := key n (Nat.le_refl _)
    refine ⟨h40, hn, fun i hi => ⟨hP i hi, ?_, (h i hi).2.2.2⟩⟩
    rw [(h i hi).2.2.1, beh_same hP (n - (i + 1)) (i + 1) (by omega) (by omega) (fun m a b => by omega)]
/-- Does i lie in j, as the program asks it? -/
def lsP (B : Nat → Int) (i j : Int) : Bool := decide (j < i) && decide (i < B j.toNat)
end Go.Proofs.Ytoankfbccofllaa

/- One more element behind a row of the call's own: as a step of a region. -/
namespace Go.Proofs.Ytoankfbccofllaa
open Go.RowKit Go.Lib
set_option linter.unusedSimpArgs false
set_option linter.unusedVariables false

theorem cells_new {w : World} {cs : List Value} {e : TypeId} : ∀ j u, cs[j]? = some u → (w.alloc (.cells cs.toArray e)).cell? ((⟨w.heap.size, 0, none⟩ : Addr).add j) = some u := fun j u hu => by
  rw [add_plain, Nat.zero_add]
  exact (Bn.new w cs e _ rfl j u hu).1
theorem src_row {P : Program} {t e : TypeId} (ht : P.underlying t = some (.slice e)) (w : World) {k : Nat} (cs : List Value) (hk : cs.length = k) (h1 : ∀ u ∈ cs, u.oneCell' = true) : Src P k t (.slice (some ⟨w.heap.size, 0, none⟩) 1 1) 1 cs (w.alloc (.cells cs.toArray e)) :=
  Src.ofSlice _ ht _ 1 1 _ (by rw [Nat.one_mul]; exact hk) cells_new h1
/-- Nothing but two blocks has turned, and new blocks. -/
structure Fy (X Y : Nat) (w w' : World) : Prop where
  os : w'.os = w.os
  tape : w'.tape = w.tape
  output : w'.output = w.output
  size : w.heap.size ≤ w'.heap.size
  block : ∀ k, k < w.heap.size → k ≠ X → k ≠ Y → w'.heap[k]? = w.heap[k]?
theorem Fy.of {X Y : Nat} {a b : World} (h : Fx X a b) : Fy X Y a b := ⟨h.os, h.tape, h.output, h.size, fun k hk h1 _ => h.block k hk (fun e => h1 (Option.some.inj e))⟩
theorem Fy.trans {X Y : Nat} {a b c : World} (h : Fy X Y a b) (k : Fy X Y b c) : Fy X Y a c :=
  ⟨k.os.trans h.os, k.tape.trans h.tape, k.output.trans h.output, Nat.le_trans h.size k.size, fun j hj h1 h2 => (k.block j (Nat.lt_of_lt_of_le hj h.size) h1 h2).trans (h.block j hj h1 h2)⟩

/-- A node: name; parent, depth, behind; all, end, leaf. -/
abbrev Nd := ByteArray × (Int × Int × Int) × (Bool × Bool × Bool)
def ndV (n : Nd) : List Value := [.string n.1, .int .i64 n.2.1.1, .int .i64 n.2.1.2.1, .int .i64 n.2.1.2.2, .bool n.2.2.1, .bool n.2.2.2.1, .bool n.2.2.2.2]
def ndZ : Nd := (⟨#[]⟩, (0, 0, 0), (false, false, false))
def nAt (l : List Nd) (i : Nat) : Nd := l.getD i ndZ
def nP (l : List Nd) (i : Nat) : Int := (nAt l i).2.1.1
def nD (l : List Nd) (i : Nat) : Int := (nAt l i).2.1.2.1
def nB (l : List Nd) (i : Nat) : Int := (nAt l i).2.1.2.2
def nL (l : List Nd) (i : Nat) : Bool := (nAt l i).2.2.2.2
def rNd (ok : Nat → Prop) (w : World) (n : Nd) (cs : List Value) : Prop := cs = ndV n
theorem kp_nd : Kp rNd := fun _ _ _ _ _ _ h _ => h
abbrev RdNd (ok : Nat → Prop) (w : World) (l : List Nd) (v : Value) : Prop := RdK ok w 7 (rNd ok w) l v
theorem nAt_get {l : List Nd} {j : Nat} (hj : j < l.length) : nAt l j = l[j] := by unfold nAt; simp [hj]
/-- A node's cells. -/
theorem nd_at {ok : Nat → Prop} {w : World} {l : List Nd} {a : Option Addr} {n cap : Nat} (h : RdNd ok w l (.slice a n cap)) (j : Nat) (hj : j < l.length) : ∃ b off, a = some ⟨b, off, none⟩ ∧ b < w.heap.size ∧
    w.cell? ⟨b, off + j * 7, none⟩ = some (.string (nAt l j).1) ∧ w.cell? ⟨b, off + j * 7 + 1, none⟩ = some (.int .i64 (nP l j)) ∧ w.cell? ⟨b, off + j * 7 + 2, none⟩ = some (.int .i64 (nD l j)) ∧ w.cell? ⟨b, off + j * 7 + 3, none⟩ = some (.int .i64 (nB l j)) ∧
    w.cell? ⟨b, off + j * 7 + 4, none⟩ = some (.bool (nAt l j).2.2.1) ∧ w.cell? ⟨b, off + j * 7 + 5, none⟩ = some (.bool (nAt l j).2.2.2.1) ∧ w.cell? ⟨b, off + j * 7 + 6, none⟩ = some (.bool (nL l j)) := by
  obtain ⟨a1, cap1, he, h1, h2, h3⟩ := h
  simp only [Value.slice.injEq] at he
  obtain ⟨rfl, rfl, rfl⟩ := he
  obtain ⟨b, off, cs, ha, _, hb, hl, hr, hc⟩ := h3 j hj
  have hr : cs = ndV l[j] := hr
  subst hr
  rw [← nAt_get hj] at hc
  exact ⟨b, off, ha, hb, hc 0 _ rfl, hc 1 _ rfl, hc 2 _ rfl, hc 3 _ rfl, hc 4 _ rfl, hc 5 _ rfl, hc 6 _ rfl⟩
instance (D : Nat → Int) (n : Nat) : Decidable (nst D n) := by unfold nst; infer_instance
instance (n : Nat) (D P B : Nat → Int) (L : Nat → Bool) : Decidable (FmP n D P B L) := by unfold FmP; infer_instance
/-- Are nodes formed? -/
def fmB (l : List Nd) : Bool := decide (FmP l.length (nD l) (nP l) (nB l) (nL l))
def nsB (l : List Nd) : Bool := decide (nst (nD l) l.length)
/-- A node as it follows of how deep they lie. -/
def plN (l : List Nd) (i : Nat) : Nd := ((nAt l i).1, (ppar (nD l) (nD l i) i, nD l i, (pbeh (nD l) (nD l i) (l.length - (i + 1)) (i + 1) : Nat)), ((nAt l i).2.2.1, (nAt l i).2.2.2.1, decide (pbeh (nD l) (nD l i) (l.length - (i + 1)) (i + 1) = i + 1)))
theorem cell_drw {w : World} {p : Addr} {v : Value} (h : w.cell? p = some v) : w.drew.cell? p = some v := h
theorem Below.nxt {w wc w1 : World} (h : Below w.heap.size w wc) (b : Below wc.heap.size wc w1) : Below w.heap.size w w1 := h.trans (b.mono h.size)
theorem Below.nxtd {w wc w1 : World} (h : Below w.heap.size w wc) (b : Below wc.drew.heap.size wc.drew w1) : Below w.heap.size w w1 := (h.drew).trans (b.mono h.size)
theorem hidOf {p : Prop} (h : p) : Hid p := h
theorem RdK.on {α : Type} {ok : Nat → Prop} {w w' : World} {k : Nat} {R : (Nat → Prop) → World → α → List Value → Prop} {v : Value} {l : List α} (hR : Kp R) (h : RdK ok w k (R ok w) l v) (hb : Below w.heap.size w w') : RdK ok w' k (R ok w') l v :=
  h.stay hR (fun b hk hlt => ⟨hk, hb.block b hlt⟩)
end Go.Proofs.Ytoankfbccofllaa

/- What the iterator over all of a chart's states hands on. -/
namespace Go.Proofs.Ytoankfbccofllaa
open Go.RowKit Go.Lib Go.Shelf
set_option linter.unusedSimpArgs false
set_option linter.unusedVariables false
attribute [local go_sem] Oper.semAt_some

def encS (x : Fx3) : Array Value := #[.int .i64 (x.1 : Int), .agg x.2.2.toArray]
theorem Try.infoStk : (Try.prog.info? 35).map (fun i => (i.zero, i.size, i.bytes)) = some (some (.slice none 0 0), 1, 24) := by kernel_rfl
def stkV (st : List Ent) : List Value := st.reverse.map (fun e => e.2.2)
theorem states_in (F : Fence) (n : Nat) (hf : F.fn 18) (hro : F.round = none) (a b c e f g : Value) (w : World) :
    CallsIn F n Try.prog 18 #[.agg #[a, b, c, e, f, g]] w fun r w' => r = .returned (.func (.func 30) #[] #[.pointer (some ⟨w.heap.size, 0, none⟩)]) ∧ w' = w.alloc (.cells #[a, b, c, e, f, g] 37) := by
  refine callsIn_of_wp Try.func18 rfl hf ?_ hro
  simp only [Try.ntmps18, List.size_toArray, List.length_cons, List.length_nil, Nat.reduceAdd, Nat.reduceSub, Array.replicate_succ, Array.replicate_zero, List.push_toArray, List.append_toArray, List.nil_append, List.cons_append]
  gi_wp2
  go_ret
  exact ⟨rfl, rfl⟩
set_option maxRecDepth 100000 in
set_option maxHeartbeats 4000000 in
theorem states1_in (F : Fence) (n : Nat) (hf : F.fn 30) (hro : F.round = none) (hn : 1 ≤ n) (l X m d : Nat) (ls : List (St d)) (sv : Value) (xs : List Fx3) (J Jx : List Fx3 → (Nat → Prop) → World → Prop) (ok : Nat → Prop) (o : Nat → Prop) (W : World)
    (hJl : ∀ s o A, J s o A → ∀ k, o k → k < A.heap.size ∧ m ≤ k) (hJ : Stb m J) (hJx : Stb m Jx)
    (hY : ∀ pre x rest o W1, xs = pre ++ x :: rest → J pre o W1 → YieldAt F (n - 1) Try.prog l (encS x) W1 fun e W' =>
      (e = .returned (.bool true) ∧ ∃ o', J (pre ++ [x]) o' W' ∧ Fp m o o' W1 W') ∨ (e = .returned (.bool false) ∧ ∃ o', Jx (pre ++ [x]) o' W'))
    (hX : W.cell? ⟨X, 5, none⟩ = some sv) (hok : ∀ b, ok b → b < m) (hm : m ≤ W.heap.size) (hrd : RdK ok W 11 (rSt d ok W) ls sv) (hxs : xs = flX W d 0 ls sv) (hlen : xs.length ≤ 1000000) (h0 : J [] o W) :
    CallsIn F n Try.prog 30 (#[.func (.yield l) #[] #[], .pointer (some ⟨X, 0, none⟩)]) W fun e W' => (∃ v, e = .returned v) ∧ ((∃ o, J xs o W') ∨ (∃ pre o, pre <+: xs ∧ Jx pre o W')) := by
  obtain ⟨i0, hi, hz0, hz1, hz2⟩ := info_parts Try.infoStk
  obtain ⟨sa, scap, rfl, hsc, hscm⟩ := hrd.form
  have HR := hidOf hrd
  have HX := hidOf hxs
  clear hrd hxs
  refine callsIn_of_wp Try.func30 rfl hf ?_ hro
  simp only [Try.ntmps30, List.size_toArray, List.length_cons, List.length_nil, Nat.reduceAdd, Nat.reduceSub, Array.replicate_succ, Array.replicate_zero, List.push_toArray, List.append_toArray, List.nil_append, List.cons_append]
  have bW : Below W.heap.size W (W.alloc (.cells #[.slice sa ls.length scap] 35)) := (Below.refl _ _).alloc (Nat.le_refl _) _
  have c0 : J [] o (W.alloc (.cells #[.slice sa ls.length scap] 35)) := hJ _ _ _ _ h0 (Sm.alloc _ _ _)
  have r0 : (W.alloc (.cells #[.slice sa ls.length scap] 35)).ownsRow W.heap.size 35 1 (.slice (some ⟨W.heap.size, 0, none⟩) 1 1) 1 (stkV [⟨d, ls, .slice sa ls.length scap⟩]) := World.ownsRow_lit W #[.slice sa ls.length scap] 1 (Nat.le_refl _) (by simp [maxLen]) rfl
  gi_wp2
  obtain ⟨w0, hw0⟩ : ∃ w0, W.alloc (.cells #[.slice sa ls.length scap] 35) = w0 := ⟨_, rfl⟩
  have hg0 : W.heap.size < w0.heap.size := by rw [← hw0]; simp
  rw [hw0] at bW c0 r0 ⊢
  clear hw0
  have hno : ¬ o W.heap.size := fun h => by have := (hJl _ _ _ h0 _ h).1; omega
  gi_loopg [3] (2 * xs.length + 1) (fun gk lv wr => ∃ (pre rest : List Fx3) (o : Nat → Prop) (st : List Ent) (g cap : Nat), xs = pre ++ rest ∧ Hid (rest = remT W st) ∧ (∀ e ∈ st, EntOk ok W e) ∧ lv = .slice (some ⟨g, 0, none⟩) st.length cap ∧ wr.ownsRow W.heap.size 35 1 (.slice (some ⟨g, 0, none⟩) st.length cap) st.length (stkV st) ∧ J pre o wr ∧ ¬ o g ∧ Below m W wr ∧ W.heap.size ≤ wr.heap.size ∧ st.length ≤ pre.length + 1 ∧ gk = 2 * rest.length + st.length)
  case atStart => exact ⟨[], xs, o, [⟨d, ls, .slice sa ls.length scap⟩], W.heap.size, 1, rfl, by rw [HX.out]; simp [Hid, remT], fun e he => by simp at he; subst he; exact HR.out, rfl, r0, c0, hno, bW.mono hm, bW.size, by simp, by simp⟩
  case round =>
    obtain ⟨pre, rest, o, st, g, cap, hxs, HS, hst, rfl, hown, hj, hng, hB, hsz, hlen2, hgk⟩ := hrel
    have hlt := World.ownsRow.lt hown g rfl
    have HG := hidOf hgk
    have HXS := hidOf hxs
    clear hgk hxs
    cases st with
    | nil =>
      have hr : rest = [] := by rw [HS.out]; rfl
      simp only [List.length_nil]
      gi_wp2
      go_end0
      refine ⟨⟨_, rfl⟩, .inl ⟨o, ?_⟩⟩
      rw [HXS.out, hr, List.append_nil]
      exact hj
    | cons e r =>
      obtain ⟨ed, el, ev⟩ := e
      have hE : RdK ok W 11 (rSt ed ok W) el ev := hst _ List.mem_cons_self
      have hst' : ∀ e ∈ r, EntOk ok W e := fun e he => hst e (List.mem_cons_of_mem _ he)
      obtain ⟨ea, ecap, rfl, hec, hecm⟩ := hE.form
      simp only [List.length_cons] at hown hlen2 HG ⊢
      obtain ⟨k, hk⟩ : ∃ k, r.length = k := ⟨_, rfl⟩
      have hs1 : stkV (⟨ed, el, .slice ea el.length ecap⟩ :: r) = stkV r ++ [.slice ea el.length ecap] := by simp [stkV]
      have hsl : (stkV r).length = k := by simp [stkV, hk]
      rw [hs1, hk] at hown
      rw [hk] at hlen2
      have hcap : k + 1 ≤ cap ∧ cap ≤ maxLen := by
        rcases hown.2 with ⟨h, _⟩ | ⟨g', cap', cur, h1, _, _, h3, h4, _⟩
        · cases h
        · simp only [Value.slice.injEq, Option.some.injEq, Addr.mk.injEq, and_true, true_and] at h1
          obtain ⟨_, rfl⟩ := h1
          exact ⟨h3, h4⟩
      obtain ⟨hcap1, hcap2⟩ := hcap
      unfold maxLen at hcap2 hecm
      have hck : wr.cell? ⟨g, k, none⟩ = some (.slice ea el.length ecap) := by
        have := World.ownsRow.cells hown (g := g) rfl k (.slice ea el.length ecap) (by simp [hsl])
        rwa [add_plain, Nat.zero_add] at this
      have hpop := ownsRow_pop (by rw [hsl, Nat.mul_one]) hown
      rw [hk]
      have w1 : IntKind.i64.wrap (((k + 1 : Nat) : Int) - 1) = (k : Int) := by rw [wrap_small] <;> omega
      have w2 : IntKind.i64.wrap ((k : Int) + 1 - 1) = (k : Int) := by rw [wrap_small] <;> omega
      cases el with
      | nil =>
        simp only [List.length_nil] at hck ⊢
        gi_wp2
        gi_roundg (2 * rest.length + k)
        case measure => rw [HG.out, hk]; omega
        case rel =>
          exact ⟨pre, rest, o, r, g, cap, HXS.out, by have := HS.out; rw [remT_nil] at this; exact this, hst', by rw [hk], by rw [hk]; exact hpop, hj, hng, hB, hsz, by omega, by rw [hk]⟩
      | cons t el =>
        cases ed with
        | zero => exact Empty.elim t
        | succ ed =>
          obtain ⟨b, off, cap', hv, h1, h2, hob, hb, ⟨so, si, hcs, hso, hsi⟩, hcells, htail⟩ := rdK_head hE
          simp only [List.length_cons, Value.slice.injEq, true_and] at hv
          obtain ⟨rfl, rfl⟩ := hv
          simp only [List.length_cons] at hck hec ⊢
          have hbm := hok b hob
          have hcc : ∀ j u, (hdV t.1 so si)[j]? = some u → wr.cell? ⟨b, off + j, none⟩ = some u := fun j u hu => (hB.cell (p := ⟨b, off + j, none⟩) hbm).trans (hcells j u (by rw [hcs]; exact hu))
          have q0 := hcc 0 _ rfl
          have q1 := hcc 1 _ rfl
          have q2 := hcc 2 _ rfl
          have q3 := hcc 3 _ rfl
          have q4 := hcc 4 _ rfl
          have q5 := hcc 5 _ rfl
          have q6 := hcc 6 _ rfl
          have q7 := hcc 7 _ rfl
          have q8 := hcc 8 _ rfl
          have q9 := hcc 9 _ rfl
          have q10 := hcc 10 _ rfl
          clear hcc
          rw [Nat.add_zero] at q0
          obtain ⟨siA, siC, rfl, hsi1, hsi2⟩ := hsi.form
          obtain ⟨x, hx⟩ : ∃ x : Fx3, (k, (⟨ed + 1, t⟩ : SgS), hdV t.1 so (.slice siA t.2.length siC)) = x := ⟨_, rfl⟩
          have HS2 : ∀ a', (el ≠ [] → a' = some ⟨b, off + 11, none⟩) → Hid (rest = x :: remT W (⟨ed, t.2, .slice siA t.2.length siC⟩ :: ⟨ed + 1, el, .slice a' el.length (ecap - 1)⟩ :: r)) := fun a' ha' => by
            have h := HS.out
            rw [List.length_cons, remT_cons (ok := ok) (a' := a') (n' := el.length) (c' := ecap - 1) r ha', hcs, hk] at h
            rw [← hx]
            exact h
          obtain ⟨rest', hrest'⟩ : ∃ rest', rest = x :: rest' := ⟨_, (HS2 (some ⟨b, off + 11, none⟩) (fun _ => rfl)).out⟩
          obtain ⟨fn, tmps, assign, body, hy, hR⟩ := hY pre x rest' o wr (by rw [HXS.out, hrest']) hj
          have hex : encS x = #[.int .i64 (k : Int), .agg (hdV t.1 so (.slice siA t.2.length siC)).toArray] := by rw [← hx]; rfl
          rw [hex] at hy
          unfold hdV at hy
          have hgm : m ≤ g := by omega
          gi_wp2
          refine hR.mono ?_
          rintro e W3 (⟨rfl, o', hj3, hf3⟩ | ⟨rfl, o', hjx3⟩)
          · have hg3 : W3.heap[g]? = wr.heap[g]? := hf3.1.block g hlt.2 (.inr hng)
            have hng3 : ¬ o' g := fun h => by rcases hf3.2 g h with h | h; exact hng h; omega
            have hB3 : Below m W W3 := hB.trans (hf3.1.below (by omega) (fun i hi => .inl hi))
            have hown3 := ownsRow_keep hown (w' := W3) (fun g' e => by cases e; exact hg3)
            have hck3 : W3.cell? ⟨g, k, none⟩ = some (.slice (some ⟨b, off, none⟩) (el.length + 1) ecap) := (World.cell?_of_block (a := ⟨g, k, none⟩) hg3).trans hck
            have hfz3 := World.ownsRow.frozenAt hown3 k
            obtain ⟨a1, ha1⟩ : ∃ a1 : Option Addr, (if ecap = 1 then some (⟨b, off, none⟩ : Addr) else some ⟨b, off + 11, none⟩) = a1 := ⟨_, rfl⟩
            have ha2 : el ≠ [] → a1 = some ⟨b, off + 11, none⟩ := fun h => by
              rw [← ha1, if_neg]
              have : 0 < el.length := List.length_pos_iff.2 h
              omega
            have hst4 := World.ownsRow.stored hown3 k (.slice a1 el.length (ecap - 1))
            have e4 : (stkV r ++ [Value.slice (some ⟨b, off, none⟩) (el.length + 1) ecap]).set k (.slice a1 el.length (ecap - 1)) = stkV r ++ [.slice a1 el.length (ecap - 1)] := by
              rw [← hsl]; simp
            rw [List.length_cons, e4] at hst4
            obtain ⟨hown4, hg4⟩ := hst4
            have c10 : W3.cell? ⟨b, off + 10, none⟩ = some (.slice siA t.2.length siC) := (hB3.cell (p := ⟨b, off + 10, none⟩) hbm).trans (by rw [← hB.cell (p := ⟨b, off + 10, none⟩) hbm]; exact q10)
            have c10' : (W3.setCell ⟨g, k, none⟩ (.slice a1 el.length (ecap - 1))).cell? ⟨b, off + 10, none⟩ = some (.slice siA t.2.length siC) := hg4.cell c10 (by simp; omega)
            have hsz3 : W.heap.size ≤ W3.heap.size := Nat.le_trans hsz hf3.1.size
            clear q0 q1 q2 q3 q4 q5 q6 q7 q8 q9 q10
            have hpl : pre.length + 1 ≤ 1000000 := by
              have := congrArg List.length HXS.out
              rw [hrest'] at this
              simp at this
              omega
            have hs4 : (W3.setCell ⟨g, k, none⟩ (.slice a1 el.length (ecap - 1))).heap.size = W3.heap.size := by simp [World.setCell]
            have hsrc : ∀ j u, [Value.slice siA t.2.length siC][j]? = some u → ((W3.setCell ⟨g, k, none⟩ (.slice a1 el.length (ecap - 1))).alloc (.cells #[.slice siA t.2.length siC] 35)).cell? ((⟨W3.heap.size, 0, none⟩ : Addr).add j) = some u := by
              rw [← hs4]
              exact cell_one_new _ _ _
            have hkm : k + 1 + 1 ≤ maxLen := by unfold maxLen; omega
            have hba : W.heap.size ≤ ((W3.setCell ⟨g, k, none⟩ (.slice a1 el.length (ecap - 1))).alloc (.cells #[.slice siA t.2.length siC] 35)).heap.size := by simp; omega
            gi_wp2_with (gi_at_builtin; refine wpListIn_append_own_at _ rfl _ _ 86 rfl W.heap.size 35 i0 (.slice none 0 0) 1 24 Try.underlying86 hi hz0 hz1 hz2 rfl (by decide) _ _ _ rfl (hown4.alloc _) ⟨W3.heap.size, 0, none⟩ 1 1 [.slice siA t.2.length siC] rfl rfl hsrc (by simp [Value.oneCell']) hkm (by omega) hba ?_; intro v' w5 hown5 hg5 hnil5 hat5)
            obtain ⟨g5, cap5, rfl⟩ := ownsRow_succ hown5
            have hg5' : ((W3.setCell ⟨g, k, none⟩ (.slice a1 el.length (ecap - 1))).alloc (.cells #[.slice siA t.2.length siC] 35)).grownBy w5 (some g) := hg5
            have hat : g5 = g ∨ g5 = W3.heap.size + 1 := by
              rcases hat5 with h | h
              · left
                have h' : some g5 = some g := h
                exact Option.some.inj h'
              · right
                have h' : some g5 = some ((W3.setCell ⟨g, k, none⟩ (.slice a1 el.length (ecap - 1))).alloc (.cells #[.slice siA t.2.length siC] 35)).heap.size := h
                rw [Option.some.inj h', World.size_alloc, hs4]
            have hown5' : w5.ownsRow W.heap.size 35 1 (.slice (some ⟨g5, 0, none⟩) (k + 1 + 1) cap5) (k + 1 + 1) (stkV r ++ [.slice a1 el.length (ecap - 1)] ++ [.slice siA t.2.length siC]) := hown5
            clear hown5 hg5 hnil5 hat5
            have hsm : ∀ K : Nat → Prop, ¬ K g → Sm K W3 w5 := fun K hK => ((Sm.setCell K W3 ⟨g, k, none⟩ (.slice a1 el.length (ecap - 1)) hK).trans (Sm.alloc K _ _) (fun _ _ h => h)).trans (Sm.of_grown (K := K) hg5' (fun i _ hi e => hK (by cases e; exact hi))) (fun _ _ h => h)
            have hj5 : J (pre ++ [x]) o' w5 := hJ _ _ _ _ hj3 (hsm _ (fun h => by rcases h with h | h; omega; exact hng3 h))
            have hng5 : ¬ o' g5 := by
              rcases hat with rfl | rfl
              · exact hng3
              · exact fun h => by have := (hJl _ _ _ hj3 _ h).1; omega
            have hB5 : Below m W w5 := hB3.trans ((hsm (fun i => i < m) (by omega)).below (by omega) (fun i hi => hi))
            gi_roundg (2 * rest'.length + (k + 1 + 1))
            case measure => rw [HG.out, hrest', hk]; simp; omega
            case rel =>
              refine ⟨pre ++ [x], rest', o', ⟨ed, t.2, .slice siA t.2.length siC⟩ :: ⟨ed + 1, el, .slice a1 el.length (ecap - 1)⟩ :: r, g5, cap5, ?_, ?_, ?_, ?_, ?_, hj5, hng5, hB5, Nat.le_trans hsz3 ((hsm (fun _ => False) (fun h => h)).size), ?_, ?_⟩
              · rw [HXS.out, hrest']; simp
              · have h := (HS2 a1 ha2).out
                rw [hrest'] at h
                exact (List.cons.inj h).2
              · intro e he
                rcases List.mem_cons.1 he with rfl | he
                · exact hsi
                · rcases List.mem_cons.1 he with rfl | he
                  · exact htail a1 ha2
                  · exact hst' e he
              · rw [List.length_cons, List.length_cons, hk]
              · rw [List.length_cons, List.length_cons, hk]
                have e5 : stkV (⟨ed, t.2, .slice siA t.2.length siC⟩ :: ⟨ed + 1, el, .slice a1 el.length (ecap - 1)⟩ :: r) = stkV r ++ [.slice a1 el.length (ecap - 1)] ++ [.slice siA t.2.length siC] := by simp [stkV]
                rw [e5]
                exact hown5'
              · simp [hk]; omega
              · simp [hk]
          · gi_wp2
            refine bodyPost_ret (results_none rfl _ _ _) rfl ?_
            exact ⟨⟨_, rfl⟩, .inr ⟨pre ++ [x], o', ⟨rest', by rw [HXS.out, hrest']; simp⟩, hjx3⟩⟩
/-- The iterator's contract: all of the states, in the order of the text. -/
theorem states_owns {F : Fence} {n : Nat} (hf : F.fn 30) (hro : F.round = none) (hn : 1 ≤ n) {X m d : Nat} {ls : List (St d)} {sv : Value} {ok : Nat → Prop} {w : World}
    (hX : w.cell? ⟨X, 5, none⟩ = some sv) (hok : ∀ b, ok b → b < m) (hm : m ≤ w.heap.size) (hrd : RdK ok w 11 (rSt d ok w) ls sv) (hlen : (flX w d 0 ls sv).length ≤ 1000000) :
    SeqOwns F n Try.prog 30 #[.pointer (some ⟨X, 0, none⟩)] encS m (flX w d 0 ls sv) w := fun l J Jx o W hW hJl hJ hJx hY h0 => by
  have hXl : X < w.heap.size := World.block_lt_of_cell? w _ hX
  have key : ∀ (d k : Nat) (ls : List (St d)) (sv : Value), RdK ok w 11 (rSt d ok w) ls sv → flX W d k ls sv = flX w d k ls sv := by
    intro d
    induction d with
    | zero => intro _ _ _ _; rfl
    | succ d ih =>
      intro k ls sv h
      have k2 : ∀ (l : List (St (d + 1))) (v : Value) (b off : Nat), RdK ok w 11 (rSt (d + 1) ok w) l v → (l ≠ [] → vB v = b ∧ vO v = off) → flN W d k b (flX W d (k + 1)) l off = flN w d k b (flX w d (k + 1)) l off := by
        intro l
        induction l with
        | nil => intro v b off _ _; rfl
        | cons t r ih2 =>
          intro v b off h hv
          obtain ⟨b', off', cap, rfl, _, _, _, hb, ⟨so, si, e1, h1, h2⟩, hc, ht⟩ := rdK_head h
          obtain ⟨rfl, rfl⟩ := hv (by simp)
          have e2 : rdc W b' off' = rdc w b' off' := by
            unfold rdc
            apply List.map_congr_left
            intro j _
            rw [hW.cell (p := ⟨b', off' + j, none⟩) hb]
          simp only [vB, vO, flN, e2]
          rw [e1]
          rw [show (hdV t.1 so si).getD 10 .nilIface = si from rfl, ih (k + 1) t.2 si h2]
          rw [ih2 (.slice (some ⟨b', off' + 11, none⟩) r.length (cap - 1)) b' (off' + 11) (ht _ (fun _ => rfl)) (fun _ => ⟨rfl, rfl⟩)]
      exact k2 ls sv _ _ h (fun _ => ⟨rfl, rfl⟩)
  have e := key d 0 ls sv hrd
  rw [← e] at hlen hY ⊢
  exact states1_in F n hf hro hn l X m d ls sv _ J Jx ok o W hJl hJ hJx hY ((hW.cell (p := ⟨X, 5, none⟩) hXl).trans hX) hok (Nat.le_trans hm hW.size) (hrd.stay (kp_st d) (fun b hb hl => ⟨hb, hW.block b hl⟩)) rfl hlen h0
end Go.Proofs.Ytoankfbccofllaa

/- A region that draws its order within a round of a range over a function: as anywhere, where it defers nothing. -/
namespace Go.Proofs.Ytoankfbccofllaa
open Go.RowKit
set_option linter.unusedSimpArgs false
set_option linter.unusedVariables false

theorem wpOpIn_of_plain {n l : Nat} {P : Program} {ops : Array Oper} {Q : Exit → Act → World → Prop} (hlo : ¬ LetsOut Q) (hd : ∀ (i : Nat) (o : Oper), ops[i]? = some o → ∀ c, o.op ≠ .defer c)
    {i : Nat} {K K' : Act → World → Prop} {a : Act} {w : World} (hK : ∀ a w, K a w → K' a w) (h : wpOp P ops Q i K a w) : wpOpIn (Fence.wide.inRound l) n P ops Q i K' a w := by
  unfold wpOp at h
  unfold wpOpIn
  cases ho : ops[i]? with
  | none => simp only [ho] at h ⊢; exact hK _ _ h
  | some o =>
    simp only [ho] at h ⊢
    split
    · rename_i hw
      simp only [hw, if_true] at h
      rcases h with h | h
      · refine ⟨fun _ _ => trivial, ?_⟩
        rw [Oper.semAt_eq _ _ _ (hd i o ho)]
        unfold Oper.wp at h
        generalize (execOp a.eval o).run P w = r at h ⊢
        cases r with
        | ok x w' =>
          cases x with
          | value v => exact hK _ _ h
          | skip => exact hK _ _ h
          | defer d => exact hK _ _ h
          | enter f args =>
            refine ⟨fun e => by simp [Fence.wide, Fence.inRound] at e, CallsIn.inRound l (callsIn_wide.2 (Calls.mono h fun e w'' he => ?_))⟩
            cases e with
            | returned v => exact hK _ _ he
            | panicked c => exact he
            | outgrown => exact he
          | row row args =>
            refine ⟨fun e => by simp [Fence.wide, Fence.inRound] at e, fun c cs _ => ?_⟩
            obtain ⟨v, w2, hv, hs⟩ := h c cs
            exact ⟨v, w2, hK _ _ hv, stepsIn_wide.2 hs⟩
          | _ => exact h.elim
        | halt x w' => cases x <;> first | exact h | exact h.elim
      · exact absurd h.2 hlo
    · rename_i hw
      simp only [hw, Bool.false_eq_true, if_false] at h
      exact ⟨fun _ _ => trivial, hK _ _ h⟩
theorem wpAnyIn_of_plain {n l : Nat} {P : Program} {md : Region.Mode} {ops : Array Oper} {Q : Exit → Act → World → Prop} (hlo : ¬ LetsOut Q) (hd : ∀ (i : Nat) (o : Oper), ops[i]? = some o → ∀ c, o.op ≠ .defer c) :
    ∀ (fuel : Nat) (listed : Array Bool) (a : Act) (w : World), wpAny P md ops Q fuel listed a w → wpAnyIn (Fence.wide.inRound l) n P md ops Q fuel listed a w
  | 0, _, _, _, h => h
  | fuel + 1, _, _, _, h => ⟨h.1, fun i hi => wpOpIn_of_plain hlo hd (fun a' w' h' => wpAnyIn_of_plain hlo hd fuel _ a' w' h') (h.2 i hi)⟩
def noDefer (ops : Array Oper) : Bool := ops.all fun o => match o.op with
  | .defer _ => false
  | _ => true
theorem noDefer_at {ops : Array Oper} (h : noDefer ops = true) (i : Nat) (o : Oper) (hi : ops[i]? = some o) (c : Call) : o.op ≠ .defer c := fun e => by
  have h2 := Array.all_eq_true.1 h i (Array.getElem?_eq_some_iff.1 hi).1
  rw [(Array.getElem?_eq_some_iff.1 hi).2, e] at h2
  cases h2
/-- The beginning of such a region. -/
theorem wpIn_region_round {n l : Nat} {P : Program} {ops : Array Oper} {Q : Exit → Act → World → Prop} {S : World → Prop} {id : Nat} {a : Act} {w : World} (hm : P.follows .mixedOrders = true) (hd : noDefer ops = true) (hlo : ¬ LetsOut Q) (hS : S w.drew)
    (h : S w.drew → wpAnyH P .any ops Q S ops.size (Array.replicate ops.size false) a w.drew) : (Code.region id ops true).wpIn (Fence.wide.inRound l) n P Q a w :=
  wpIn_region_any hm (wpAnyIn_of_plain hlo (noDefer_at hd) _ _ _ _ (wpAny_of_held _ _ _ _ (h hS)))
end Go.Proofs.Ytoankfbccofllaa

/- What the program's nested and placed answer. -/
namespace Go.Proofs.Ytoankfbccofllaa
open Go.RowKit Go.Lib
set_option linter.unusedSimpArgs false
set_option linter.unusedVariables false
attribute [local go_sem ↓] Go.wp_at_zero Go.wp_at_succ

theorem nst_succ {D : Nat → Int} {j : Nat} {m : Int} (h : nst D j) (hm : (j = 0 ∧ m = 0) ∨ (0 < j ∧ m = D (j - 1) + 1)) : nst D (j + 1) ↔ (0 ≤ D j ∧ D j ≤ m) := by
  constructor
  · intro h2
    have := h2 j (by omega)
    rcases hm with ⟨rfl, rfl⟩ | ⟨h0, rfl⟩
    · exact ⟨this.1, this.2.1 rfl⟩
    · exact ⟨this.1, this.2.2 h0⟩
  · rintro ⟨h1, h2⟩ i hi
    rcases Nat.lt_or_ge i j with h3 | h3
    · exact h i h3
    · have : i = j := by omega
      subst this
      rcases hm with ⟨rfl, rfl⟩ | ⟨h0, rfl⟩
      · exact ⟨h1, fun _ => h2, fun h => by omega⟩
      · exact ⟨h1, fun h => by omega, fun _ => h2⟩
theorem nst_le {D : Nat → Int} {j n : Nat} (h : nst D n) (hj : j ≤ n) : nst D j := fun i hi => h i (by omega)
set_option maxRecDepth 100000 in
set_option maxHeartbeats 4000000 in
theorem nested_any {ok : Nat → Prop} {w : World} {l : List Nd} {v : Value} (h : RdNd ok w l v) (h40 : l.length ≤ 40) :
    Calls Try.prog 22 #[v] w fun e w' => e = .returned (.bool (nsB l)) ∧ Below w.heap.size w w' := by
  obtain ⟨a, cap, rfl, hlc, hcm⟩ := h.form
  unfold maxLen at hcm
  obtain ⟨V, hV⟩ : ∃ V, nsB l = V := ⟨_, rfl⟩
  rw [hV]
  have HV : Hid (nsB l = V) := hV
  have HC := hidOf h
  obtain ⟨n, hn⟩ : ∃ n, l.length = n := ⟨_, rfl⟩
  rw [hn] at hlc h40 ⊢
  have HN : Hid (l.length = n) := hn
  clear h hV hn
  go_enter Try.func22, Try.ntmps22
  go_wp2
  go_loopw [3, 8] (fun mo ix wr => ∃ (j : Nat) (m : Int), j ≤ n ∧ ix = .int .i64 (j : Int) ∧ mo = .int .i64 m ∧ 0 ≤ m ∧ m ≤ j ∧ Hid (nst (nD l) j ∧ ((j = 0 ∧ m = 0) ∨ (0 < j ∧ m = nD l (j - 1) + 1))) ∧ Below w.heap.size w wr) (fun _ ix _ => n - (RowKit.intOf ix).toNat)
  case atStart => exact ⟨0, 0, Nat.zero_le _, rfl, rfl, by omega, by omega, ⟨fun i hi => by omega, .inl ⟨rfl, rfl⟩⟩, Below.refl _ _⟩
  case round =>
    obtain ⟨j, m, hj, rfl, rfl, hm0, hmj, HI, hb⟩ := hrel
    by_cases hlt : j < n
    · obtain ⟨b, off, rfl, hbl, c0, c1, c2, c3, c4, c5, c6⟩ := nd_at HC.out j (by rw [HN.out]; exact hlt)
      replace c0 := (hb.cell (p := ⟨b, off + j * 7, none⟩) hbl).trans c0
      replace c1 := (hb.cell (p := ⟨b, off + j * 7 + 1, none⟩) hbl).trans c1
      replace c2 := (hb.cell (p := ⟨b, off + j * 7 + 2, none⟩) hbl).trans c2
      replace c3 := (hb.cell (p := ⟨b, off + j * 7 + 3, none⟩) hbl).trans c3
      replace c4 := (hb.cell (p := ⟨b, off + j * 7 + 4, none⟩) hbl).trans c4
      replace c5 := (hb.cell (p := ⟨b, off + j * 7 + 5, none⟩) hbl).trans c5
      replace c6 := (hb.cell (p := ⟨b, off + j * 7 + 6, none⟩) hbl).trans c6
      obtain ⟨d, hd⟩ : ∃ d, nD l j = d := ⟨_, rfl⟩
      rw [hd] at c2
      have HS : Hid (nst (nD l) (j + 1) ↔ (0 ≤ d ∧ d ≤ m)) := by rw [← hd]; exact nst_succ HI.out.1 HI.out.2
      have HD : Hid (nD l j = d) := hd
      generalize (nAt l j).1 = x0 at c0
      generalize nP l j = x1 at c1
      generalize nB l j = x3 at c3
      generalize (nAt l j).2.2.1 = x4 at c4
      generalize (nAt l j).2.2.2.1 = x5 at c5
      generalize nL l j = x6 at c6
      clear hd
      have i1 : (j : Int) < (n : Int) := by omega
      have i2 : (0 : Int) ≤ (j : Int) := by omega
      have hb1 := hb.alloc hb.size (.cells #[.string x0, .int .i64 x1, .int .i64 d, .int .i64 x3, .bool x4, .bool x5, .bool x6] 58)
      have hF : (d < 0 ∨ m < d) → V = false := fun h => by
        rw [← HV.out]
        unfold nsB
        rw [decide_eq_false]
        intro h2
        have := HS.out.1 (nst_le h2 (by rw [HN.out]; omega))
        omega
      by_cases hd0 : d < 0
      · have hF := hF (.inl hd0)
        subst hF
        go_wp2
        go_ret
        exact ⟨rfl, hb1⟩
      by_cases hdm : m < d
      · have hF := hF (.inr hdm)
        subst hF
        go_wp2
        go_ret
        exact ⟨rfl, hb1⟩
      clear hF
      have hd1 : 0 ≤ d := by omega
      have hd2 : d ≤ m := by omega
      go_wp2
      go_roundw
      case rel => exact ⟨j + 1, d + 1, hlt, by go_num, rfl, by omega, by omega, ⟨HS.out.2 ⟨hd1, hd2⟩, .inr ⟨by omega, by rw [Nat.add_sub_cancel, HD.out]⟩⟩, hb1⟩
      case measure => simp [RowKit.intOf]; omega
    · have i1 : ¬ (j : Int) < (n : Int) := by omega
      have hT : V = true := by
        rw [← HV.out]
        unfold nsB
        rw [decide_eq_true]
        rw [HN.out]
        have : j = n := by omega
        rw [← this]
        exact HI.out.1
      subst hT
      go_wp2
      go_ret
      exact ⟨rfl, hb⟩
end Go.Proofs.Ytoankfbccofllaa
