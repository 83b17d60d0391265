import Derived.Test.YtajhombbkdlegaaXgc02
import Derived.Carry
import Derived.WalkSmall
import Derived.Test.YtajhombbkdlegaaXgc01
import Derived.Deep.RegionLaw
import Derived.Deep.Cut
import Derived.BigQuiet
import Derived.Deep.QuietTactic
import Derived.Deep.DeepCutAuto
import Derived.Deep.RegionHeldLaw

/- The program's disk in memory. -/
namespace Go.Proofs.Ytajhombbkdlegaa
open Go.RowKit Go.Lib Go.Maps
set_option linter.unusedSimpArgs false
set_option linter.unusedVariables false

/-- Nothing but blocks of F has turned, and new blocks. -/
structure Kf (F : Nat → Prop) (w w' : World) : Prop where
  os : w'.os = w.os
  tape : w'.tape = w.tape
  output : w'.output = w.output
  size : w.heap.size ≤ w'.heap.size
  block : ∀ k, k < w.heap.size → ¬ F k → w'.heap[k]? = w.heap[k]?
theorem Kf.refl (F : Nat → Prop) (w : World) : Kf F w w := ⟨rfl, rfl, rfl, Nat.le_refl _, fun _ _ _ => rfl⟩
/-- What is there of F, and what is new since w. -/
def nF (F : Nat → Prop) (w : World) : Nat → Prop := fun j => F j ∨ w.heap.size ≤ j
theorem Kf.trans {F : Nat → Prop} {a b c : World} (h : Kf F a b) (k : Kf F b c) : Kf F a c :=
  ⟨k.os.trans h.os, k.tape.trans h.tape, k.output.trans h.output, Nat.le_trans h.size k.size, fun j hj hn => (k.block j (Nat.lt_of_lt_of_le hj h.size) hn).trans (h.block j hj hn)⟩
theorem Kf.transN {F : Nat → Prop} {a b c : World} (h : Kf F a b) (k : Kf (nF F a) b c) : Kf F a c :=
  ⟨k.os.trans h.os, k.tape.trans h.tape, k.output.trans h.output, Nat.le_trans h.size k.size, fun j hj hn => (k.block j (Nat.lt_of_lt_of_le hj h.size) (fun e => e.elim hn (fun e => by omega))).trans (h.block j hj hn)⟩
theorem Kf.of {F : Nat → Prop} {B : Nat} {a b : World} (h : Below B a b) (hB : a.heap.size ≤ B) : Kf F a b := ⟨h.os, h.tape, h.output, h.size, fun k hk _ => h.block k (by omega)⟩
theorem Kf.grown {F : Nat → Prop} {a b : World} {row : Option Nat} (h : a.grownBy b row) (hr : ∀ k, row = some k → F k) : Kf F a b := ⟨h.os, h.tape, h.output, h.size, fun k hk hn => h.block k hk (fun e => hn (hr k e.symm))⟩
theorem Kf.set {F : Nat → Prop} {X i : Nat} {a b : World} (h : Kf F a b) (hX : F X) (u : Value) : Kf F a (b.setCell ⟨X, i, none⟩ u) :=
  ⟨h.os, h.tape, h.output, by simpa using h.size, fun k hk hn => (Below.heap_setCell _ _ _ _ (fun e => hn (by have : k = X := e; rw [this]; exact hX))).trans (h.block k hk hn)⟩
theorem Kf.alloc {F : Nat → Prop} {a b : World} (h : Kf F a b) (o : Obj) : Kf F a (b.alloc o) := h.trans (Kf.of ((Below.refl b.heap.size b).alloc (Nat.le_refl _) o) (Nat.le_refl _))
theorem Kf.drew {F : Nat → Prop} {a b : World} (h : Kf F a b) : Kf F a b.drew := ⟨h.os, h.tape, h.output, h.size, h.block⟩
theorem Kf.drewN {F : Nat → Prop} {a b : World} (h : Kf F a b) (m : Nat) : Kf F a (b.drewN m) := ⟨h.os, h.tape, h.output, h.size, h.block⟩
theorem Kf.mono {F G : Nat → Prop} {a b : World} (h : Kf F a b) (hs : ∀ j, F j → G j) : Kf G a b := ⟨h.os, h.tape, h.output, h.size, fun k hk hn => h.block k hk (fun e => hn (hs k e))⟩
theorem Kf.below {F : Nat → Prop} {B : Nat} {a b : World} (h : Kf F a b) (hF : ∀ j, F j → B ≤ j) (hB : B ≤ a.heap.size) : Below B a b := ⟨h.os, h.tape, h.output, h.size, fun k hk => h.block k (by omega) (fun e => by have := hF k e; omega)⟩

/-- A segment as the program has it: the slice of its bytes, its bytes, how many of them are synced. -/
abbrev Sv := Value × List Int × Nat
abbrev Sm := List Int × Nat
def cv (x : Sv) : Value := .agg #[x.1, .int .i64 (x.2.2 : Int)]
def zC : Sv := (.slice none 0 0, [], 0)
def esV (E : List (Int × Sv)) : List (Int × Value) := E.map fun x => (x.1, cv x.2)
def mmE (E : List (Int × Sv)) : List (Int × Sm) := E.map fun x => (x.1, x.2.2)
theorem esV_pt (n : Int) (s : Sv) (E : List (Int × Sv)) : esV (pt n s E) = pt n (cv s) (esV E) := pt_map (fun x => cv x.2) cv (fun _ => rfl) n s E
theorem mmE_pt (n : Int) (s : Sv) (E : List (Int × Sv)) : mmE (pt n s E) = pt n s.2 (mmE E) := pt_map (fun x : Int × Sv => x.2.2) (fun y : Sv => y.2) (fun _ => rfl) n s E
theorem esV_lk (n : Int) (E : List (Int × Sv)) : lk n (esV E) = (lk n E).map cv := lk_map (fun x => cv x.2) cv (fun _ => rfl) n E
theorem mmE_lk (n : Int) (E : List (Int × Sv)) : lk n (mmE E) = (lk n E).map (·.2) := lk_map (fun x : Int × Sv => x.2.2) (fun y : Sv => y.2) (fun _ => rfl) n E
theorem esV_dl (n : Int) (E : List (Int × Sv)) : dl n (esV E) = esV (dl n E) := dl_map (fun x => cv x.2) n E
theorem ris_esV {E : List (Int × Sv)} (h : Ris E) : Ris (esV E) := List.pairwise_map.2 h
theorem ris_mmE {E : List (Int × Sv)} (h : Ris E) : Ris (mmE E) := List.pairwise_map.2 h

theorem u8_info : (Try.prog.info? 5).map (fun i => (i.zero, i.size, i.bytes)) = some (some (.int .u8 0), 1, 1) := by kernel_rfl
theorem u8_inf : ∃ i, Try.prog.info? 5 = some i ∧ i.zero = some (.int .u8 0) ∧ i.size = 1 ∧ i.bytes = 1 := by
  have h := u8_info
  cases hq : Try.prog.info? 5 with
  | none => rw [hq] at h; cases h
  | some i =>
    rw [hq] at h
    simp only [Option.map_some, Option.some.injEq, Prod.mk.injEq] at h
    exact ⟨i, rfl, h.1, h.2.1, h.2.2⟩

/-- The map's value in memory. -/
def MapO (w : World) (mv : Option Nat) (l : List (Int × Value)) : Prop := (mv = none ∧ l = []) ∨ ∃ b, mv = some b ∧ w.ownsMap Try.prog 3 hR b l.length (.map (esD l))
theorem keyI {n : Int} (hn : (Lit.int .i64 n).wf = true) : keyOf Try.prog 3 (.int .i64 n) = some (.int .i64 n) := keyOf_int_mk Try.underlying3 hn
theorem zeroC (w : World) : (zeroValue 93).run Try.prog w = .ok (cv zC) w := Try.zeroValue93 w
theorem MapO.look {w : World} {mv : Option Nat} {E : List (Int × Sv)} (h : MapO w mv (esV E)) {n : Int} (hn : (Lit.int .i64 n).wf = true) :
    (Instr.lookup 67 (.map mv) (.int .i64 n) false).run Try.prog w = .ok (cv ((lk n E).getD zC)) w := by
  rcases h with ⟨rfl, he⟩ | ⟨b, rfl, ho⟩
  · have : E = [] := List.eq_nil_of_length_eq_zero (by have := congrArg List.length he; simpa [esV] using this)
    subst this
    rw [Maps.look_nil false (int_keyed Try.underlying3) Try.underlying67 (zeroC w) (keyI hn)]
    rfl
  · obtain ⟨v, ps, hr, hv⟩ := ho.lookup (int_keyed Try.underlying3) Try.underlying67 (zeroC w) (zd := .held (cv zC)) (zp := []) rfl (keyI hn)
    rw [atD, esV_lk] at hv
    simp only [hR, Option.some.injEq, Prod.mk.injEq, DataW.held.injEq] at hv
    rw [hr, hv.1]
    cases lk n E <;> rfl
theorem MapO.lookOk {w : World} {mv : Option Nat} {E : List (Int × Sv)} (h : MapO w mv (esV E)) {n : Int} (hn : (Lit.int .i64 n).wf = true) :
    (Instr.lookup 67 (.map mv) (.int .i64 n) true).run Try.prog w = .ok (.tuple #[cv ((lk n E).getD zC), .bool (lk n E).isSome]) w := by
  rcases h with ⟨rfl, he⟩ | ⟨b, rfl, ho⟩
  · have : E = [] := List.eq_nil_of_length_eq_zero (by have := congrArg List.length he; simpa [esV] using this)
    subst this
    rw [Maps.look_nil true (int_keyed Try.underlying3) Try.underlying67 (zeroC w) (keyI hn)]
    rfl
  · obtain ⟨v, ps, hr, hv⟩ := ho.look_ok (int_keyed Try.underlying3) Try.underlying67 (zeroC w) (zd := .held (cv zC)) (zp := []) rfl (keyI hn)
    rw [atD, esV_lk] at hv
    rw [hasD, esV_lk] at hr
    simp only [hR, Option.some.injEq, Prod.mk.injEq, DataW.held.injEq] at hv
    rw [hr, hv.1]
    cases lk n E <;> rfl
theorem MapO.keep {w w' : World} {mv : Option Nat} {l : List (Int × Value)} (h : MapO w mv l) (hk : ∀ b, mv = some b → b < w.heap.size → w'.heap[b]? = w.heap[b]?) : MapO w' mv l := by
  rcases h with h | ⟨b, rfl, ho⟩
  · exact .inl h
  · have hlt := ho.lt
    obtain ⟨es, clock, hb, F, hs, hD⟩ := ho
    exact .inr ⟨b, rfl, es, clock, (hk b rfl hlt).trans hb, F, hs, hD⟩
/-- The map, and the segments' bytes: all in blocks of F, but not in X. -/
structure PR (w : World) (X : Nat) (F : Nat → Prop) (mv : Option Nat) (E : List (Int × Sv)) : Prop where
  r : Ris E
  m : MapO w mv (esV E)
  fm : ∀ b, mv = some b → F b ∧ b ≠ X
  s : ∀ x ∈ E, Own w 0 5 x.2.1 x.2.2.1 ∧ ∀ g, x.2.1.ownBlock = some g → F g ∧ g ≠ X
  a : E.Pairwise fun x y => ∀ g, x.2.1.ownBlock = some g → y.2.1.ownBlock ≠ some g
theorem ownD_keep {w w' : World} {base e : Nat} {v : Value} {xs : List Int} (h : Own w base e v xs) (hk : ∀ g, v.ownBlock = some g → w'.heap[g]? = w.heap[g]?) : Own w' base e v xs := ownsRow_keep h hk
theorem PR.keep {w w' : World} {X : Nat} {F : Nat → Prop} {mv : Option Nat} {E : List (Int × Sv)} (h : PR w X F mv E) (hk : ∀ b, F b → b ≠ X → b < w.heap.size → w'.heap[b]? = w.heap[b]?) : PR w' X F mv E :=
  ⟨h.r, h.m.keep (fun b hb hlt => hk b (h.fm b hb).1 (h.fm b hb).2 hlt), h.fm, fun x hx => ⟨ownD_keep (h.s x hx).1 (fun g hg => hk g ((h.s x hx).2 g hg).1 ((h.s x hx).2 g hg).2 (ownsRow_lt (h.s x hx).1 g hg).2), (h.s x hx).2⟩, h.a⟩
theorem PR.mono {w : World} {X : Nat} {F G : Nat → Prop} {mv : Option Nat} {E : List (Int × Sv)} (h : PR w X F mv E) (hs : ∀ j, j < w.heap.size → F j → G j) : PR w X G mv E :=
  ⟨h.r, h.m, fun b hb => ⟨hs b (by rcases h.m with ⟨e, _⟩ | ⟨b', e, ho⟩ <;> rw [e] at hb <;> cases hb; exact ho.lt) (h.fm b hb).1, (h.fm b hb).2⟩, fun x hx => ⟨(h.s x hx).1, fun g hg => ⟨hs g (ownsRow_lt (h.s x hx).1 g hg).2 ((h.s x hx).2 g hg).1, ((h.s x hx).2 g hg).2⟩⟩, h.a⟩
theorem PR.on {w w' : World} {X : Nat} {F : Nat → Prop} {mv : Option Nat} {E : List (Int × Sv)} (h : PR w X F mv E) (hb : Below w.heap.size w w') : PR w' X F mv E := h.keep (fun b _ _ hlt => hb.block b hlt)
theorem PR.setX {w : World} {X i : Nat} {F : Nat → Prop} {mv : Option Nat} {E : List (Int × Sv)} (h : PR w X F mv E) (u : Value) : PR (w.setCell ⟨X, i, none⟩ u) X F mv E := h.keep (fun b _ hne _ => Below.heap_setCell _ _ _ _ (fun e => hne e))
/-- A new block's cells, written. -/
theorem PR.setN {w : World} {X N i : Nat} {F : Nat → Prop} {mv : Option Nat} {E : List (Int × Sv)} (h : PR w X F mv E) (hN : ∀ j, F j → j ≠ N) (u : Value) : PR (w.setCell ⟨N, i, none⟩ u) X F mv E := h.keep (fun b hF _ _ => Below.heap_setCell _ _ _ _ (fun e => hN b hF e))

/-- As it is but for the segment n. -/
structure PRx (w : World) (X : Nat) (F : Nat → Prop) (mv : Option Nat) (E : List (Int × Sv)) (n : Int) : Prop where
  r : Ris E
  m : MapO w mv (esV E)
  fm : ∀ b, mv = some b → F b ∧ b ≠ X
  s : ∀ x ∈ E, x.1 ≠ n → Own w 0 5 x.2.1 x.2.2.1 ∧ ∀ g, x.2.1.ownBlock = some g → F g ∧ g ≠ X
  a : E.Pairwise fun x y => x.1 ≠ n → y.1 ≠ n → ∀ g, x.2.1.ownBlock = some g → y.2.1.ownBlock ≠ some g
theorem PR.x {w : World} {X : Nat} {F : Nat → Prop} {mv : Option Nat} {E : List (Int × Sv)} (h : PR w X F mv E) (n : Int) : PRx w X F mv E n :=
  ⟨h.r, h.m, h.fm, fun x hx _ => h.s x hx, h.a.imp (fun h _ _ => h)⟩
theorem PRx.keep {w w' : World} {X : Nat} {F G : Nat → Prop} {mv : Option Nat} {E : List (Int × Sv)} {n : Int} (h : PRx w X F mv E n) (hFG : ∀ j, j < w.heap.size → F j → G j) (hm : ∀ b, mv = some b → b < w.heap.size → w'.heap[b]? = w.heap[b]?)
    (hs : ∀ x ∈ E, x.1 ≠ n → ∀ g, x.2.1.ownBlock = some g → g < w.heap.size → w'.heap[g]? = w.heap[g]?) : PRx w' X G mv E n :=
  ⟨h.r, h.m.keep hm, fun b hb => ⟨hFG b (by rcases h.m with ⟨e, _⟩ | ⟨b', e, ho⟩ <;> rw [e] at hb <;> cases hb; exact ho.lt) (h.fm b hb).1, (h.fm b hb).2⟩, fun x hx hne => ⟨ownD_keep (h.s x hx hne).1 (fun g hg => hs x hx hne g hg (ownsRow_lt (h.s x hx hne).1 g hg).2), fun g hg => ⟨hFG g (ownsRow_lt (h.s x hx hne).1 g hg).2 ((h.s x hx hne).2 g hg).1, ((h.s x hx hne).2 g hg).2⟩⟩, h.a⟩
theorem PRx.on {w w' : World} {X : Nat} {F G : Nat → Prop} {mv : Option Nat} {E : List (Int × Sv)} {n : Int} (h : PRx w X F mv E n) (hb : Below w.heap.size w w') (hFG : ∀ j, j < w.heap.size → F j → G j) : PRx w' X G mv E n := h.keep hFG (fun b _ hlt => hb.block b hlt) (fun _ _ _ g _ hlt => hb.block g hlt)
theorem pw_sym {α : Type} {R : α → α → Prop} (hs : ∀ a b, R a b → R b a) : ∀ {l : List α}, l.Pairwise R → ∀ a ∈ l, ∀ b ∈ l, a ≠ b → R a b
  | [], _, a, ha, _, _, _ => absurd ha (by simp)
  | y :: r, h, a, ha, b, hb, hne => by
    obtain ⟨h1, h2⟩ := List.pairwise_cons.1 h
    rcases List.mem_cons.1 ha with e1 | ha'
    · rcases List.mem_cons.1 hb with e2 | hb'
      · exact absurd (e1.trans e2.symm) hne
      · rw [e1]
        exact h1 b hb'
    · rcases List.mem_cons.1 hb with e2 | hb'
      · rw [e2]
        exact hs _ _ (h1 a ha')
      · exact pw_sym hs h2 a ha' b hb' hne
theorem apart_ne {E : List (Int × Sv)} (h : E.Pairwise fun x y => ∀ g, x.2.1.ownBlock = some g → y.2.1.ownBlock ≠ some g) {x y : Int × Sv} (hx : x ∈ E) (hy : y ∈ E) (hne : x ≠ y) : ∀ g, x.2.1.ownBlock = some g → y.2.1.ownBlock ≠ some g :=
  pw_sym (R := fun x y : Int × Sv => ∀ g, x.2.1.ownBlock = some g → y.2.1.ownBlock ≠ some g) (fun a b h g hg hb => h g hb hg) h x hx y hy hne

structure Dk where
  L : List (Int × Sm)
  room : Int
  fuse : Int
  dead : Bool
def usM (L : List (Int × Sm)) : Nat := (L.map fun x => x.2.1.length).sum
/-- The program's disk in block X, its memory in blocks of F, its map's value and its segments as they lie. -/
def PDE (w : World) (X : Nat) (F : Nat → Prop) (d : Dk) (mv : Option Nat) (E : List (Int × Sv)) : Prop :=
  ∃ fz, F X ∧ mmE E = d.L ∧ PR w X F mv E ∧ Bn w X [.map mv, .int .i64 (usM d.L : Int), .int .i64 d.room, .bool d.dead, .bool (decide (0 ≤ d.fuse)), .int .i64 fz] ∧ (0 ≤ d.fuse → fz = d.fuse)
def PD (w : World) (X : Nat) (F : Nat → Prop) (d : Dk) : Prop := ∃ mv E, PDE w X F d mv E
theorem PDE.lt {w : World} {X : Nat} {F : Nat → Prop} {d : Dk} {mv : Option Nat} {E : List (Int × Sv)} (h : PDE w X F d mv E) : X < w.heap.size := by
  obtain ⟨fz, h1, h2, h3, h4, h5⟩ := h
  exact h4.lt
theorem PDE.keep {w w' : World} {X : Nat} {F : Nat → Prop} {d : Dk} {mv : Option Nat} {E : List (Int × Sv)} (h : PDE w X F d mv E) (hk : ∀ b, F b → b < w.heap.size → w'.heap[b]? = w.heap[b]?) : PDE w' X F d mv E := by
  obtain ⟨fz, h1, h2, h3, h4, h5⟩ := h
  exact ⟨fz, h1, h2, h3.keep (fun b hb _ hlt => hk b hb hlt), h4.blk (hk X h1 h4.lt), h5⟩
theorem PDE.mono {w : World} {X : Nat} {F G : Nat → Prop} {d : Dk} {mv : Option Nat} {E : List (Int × Sv)} (h : PDE w X F d mv E) (hs : ∀ j, j < w.heap.size → F j → G j) : PDE w X G d mv E := by
  obtain ⟨fz, h1, h2, h3, h4, h5⟩ := h
  exact ⟨fz, hs X h4.lt h1, h2, h3.mono hs, h4, h5⟩
theorem PDE.on {w w' : World} {X : Nat} {F : Nat → Prop} {d : Dk} {mv : Option Nat} {E : List (Int × Sv)} (h : PDE w X F d mv E) (hb : Below w.heap.size w w') : PDE w' X F d mv E := h.keep (fun b _ hlt => hb.block b hlt)
theorem PD.lt {w : World} {X : Nat} {F : Nat → Prop} {d : Dk} (h : PD w X F d) : X < w.heap.size := by
  obtain ⟨mv, E, h⟩ := h
  exact h.lt
theorem PD.keep {w w' : World} {X : Nat} {F : Nat → Prop} {d : Dk} (h : PD w X F d) (hk : ∀ b, F b → b < w.heap.size → w'.heap[b]? = w.heap[b]?) : PD w' X F d := by
  obtain ⟨mv, E, h⟩ := h
  exact ⟨mv, E, h.keep hk⟩
theorem PD.mono {w : World} {X : Nat} {F G : Nat → Prop} {d : Dk} (h : PD w X F d) (hs : ∀ j, j < w.heap.size → F j → G j) : PD w X G d := by
  obtain ⟨mv, E, h⟩ := h
  exact ⟨mv, E, h.mono hs⟩
theorem PD.on {w w' : World} {X : Nat} {F : Nat → Prop} {d : Dk} (h : PD w X F d) (hb : Below w.heap.size w w') : PD w' X F d := h.keep (fun b _ hlt => hb.block b hlt)
theorem usM_mem : ∀ {L : List (Int × Sm)} {x : Int × Sm}, x ∈ L → x.2.1.length ≤ usM L
  | [], x, h => absurd h (by simp)
  | y :: r, x, h => by
    have e : usM (y :: r) = y.2.1.length + usM r := by simp [usM]
    rw [e]
    rcases List.mem_cons.1 h with rfl | h
    · omega
    · have := usM_mem h
      omega
theorem usM_lk {L : List (Int × Sm)} {n : Int} {s : Sm} (h : lk n L = some s) : s.1.length ≤ usM L := usM_mem (lk_mem h)
end Go.Proofs.Ytajhombbkdlegaa

/- Rows of the call's own that lie apart from others; an element put in the place of a zero one. -/
namespace Go.Proofs.Ytajhombbkdlegaa
open Go.RowKit Go.Lib
set_option linter.unusedSimpArgs false
set_option linter.unusedVariables false

/-- As OwnK; nothing of it lies in a block that is bad. -/
def OwnB {α : Type} (w : World) (base : Nat) (bad : Nat → Prop) (e k : Nat) (R : (Nat → Prop) → World → α → List Value → Prop) (v : Value) (l : List α) : Prop :=
  ∃ qs : List (List Value), w.ownsRow base e k v l.length qs.flatten ∧ qs.length = l.length ∧ (∀ (i : Nat) (h : i < l.length) (h' : i < qs.length), (qs[i]).length = k ∧ R (fun b => base ≤ b ∧ v.ownBlock ≠ some b ∧ ¬ bad b) w l[i] qs[i]) ∧ ∀ g, v.ownBlock = some g → ¬ bad g
theorem OwnB.keep {α : Type} {w w' : World} {base e k : Nat} {bad bad' : Nat → Prop} {R : (Nat → Prop) → World → α → List Value → Prop} {v : Value} {l : List α} (hR : Kp R) (h : OwnB w base bad e k R v l) (hk : ∀ b, base ≤ b → ¬ bad b → b < w.heap.size → w'.heap[b]? = w.heap[b]? ∧ ¬ bad' b) : OwnB w' base bad' e k R v l := by
  obtain ⟨qs, ho, hl, hr, hg0⟩ := h
  refine ⟨qs, ownsRow_keep ho (fun g hg => ?_), hl, fun i h h' => ⟨(hr i h h').1, hR (hr i h h').2 (fun b hb hlt => ⟨⟨hb.1, hb.2.1, (hk b hb.1 hb.2.2 hlt).2⟩, (hk b hb.1 hb.2.2 hlt).1⟩)⟩, fun g hg => ?_⟩
  · obtain ⟨a, b⟩ := ownsRow_lt ho g hg
    exact (hk g a (hg0 g hg) b).1
  · obtain ⟨a, b⟩ := ownsRow_lt ho g hg
    exact (hk g a (hg0 g hg) b).2
theorem OwnB.on {α : Type} {w w' : World} {base e k : Nat} {bad : Nat → Prop} {R : (Nat → Prop) → World → α → List Value → Prop} {v : Value} {l : List α} (hR : Kp R) (h : OwnB w base bad e k R v l) (hb : Below w.heap.size w w') : OwnB w' base bad e k R v l := h.keep hR (fun b _ hbad hlt => ⟨hb.block b hlt, hbad⟩)
theorem OwnB.fx {α : Type} {w w' : World} {base e k X : Nat} {bad : Nat → Prop} {R : (Nat → Prop) → World → α → List Value → Prop} {v : Value} {l : List α} (hR : Kp R) (h : OwnB w base bad e k R v l) (hf : Fx X w w') (hX : X < base) : OwnB w' base bad e k R v l :=
  h.keep hR (fun b hb hbad hlt => ⟨hf.block b hlt (fun e => by have : b = X := Option.some.inj e; omega), hbad⟩)
theorem OwnB.set {α : Type} {w : World} {base e k : Nat} {bad : Nat → Prop} {R : (Nat → Prop) → World → α → List Value → Prop} {v : Value} {l : List α} (hR : Kp R) (h : OwnB w base bad e k R v l) {X i : Nat} (hX : X < base) (u : Value) : OwnB (w.setCell ⟨X, i, none⟩ u) base bad e k R v l :=
  h.keep hR (fun b hb hbad _ => ⟨Below.heap_setCell _ _ _ _ (fun e => by have : b = X := e; omega), hbad⟩)
theorem OwnB.form {α : Type} {w : World} {base e k : Nat} {bad : Nat → Prop} {R : (Nat → Prop) → World → α → List Value → Prop} {v : Value} {l : List α} (h : OwnB w base bad e k R v l) : ∃ a cap, v = .slice a l.length cap ∧ l.length ≤ cap ∧ cap ≤ maxLen := by
  obtain ⟨qs, ho, _⟩ := h
  rcases ho.2 with ⟨h1, h2⟩ | ⟨g, cap, cur, h1, _, _, h3, h4, _⟩
  · exact ⟨none, 0, by rw [h1, h2], by omega, by simp [maxLen]⟩
  · exact ⟨_, _, h1, h3, h4⟩
theorem OwnB.lt {α : Type} {w : World} {base e k : Nat} {bad : Nat → Prop} {R : (Nat → Prop) → World → α → List Value → Prop} {v : Value} {l : List α} (h : OwnB w base bad e k R v l) : ∀ g, v.ownBlock = some g → base ≤ g ∧ g < w.heap.size := by
  obtain ⟨qs, ho, _⟩ := h
  exact ownsRow_lt ho
theorem OwnB.snoc {α : Type} {w w' : World} {base e k lo n : Nat} {bad : Nat → Prop} {R : (Nat → Prop) → World → α → List Value → Prop} {v v' : Value} {l : List α} {p : α} {cs : List Value} {qs : List (List Value)} (hR : Kp R) (hk : cs.length = k)
    (hn : l.length = n) (ho : w.ownsRow base e k v n qs.flatten) (hl : qs.length = l.length) (hr : ∀ (i : Nat) (h : i < l.length) (h' : i < qs.length), (qs[i]).length = k ∧ R (fun b => base ≤ b ∧ v.ownBlock ≠ some b ∧ ¬ bad b) w l[i] qs[i])
    (ho' : w'.ownsRow base e k v' (n + 1) (qs.flatten ++ cs)) (hg : w.grownBy w' v.ownBlock) (hat : v'.ownBlock = v.ownBlock ∨ v'.ownBlock = some w.heap.size)
    (hp : R (fun b => lo ≤ b) w p cs) (hlo : base ≤ lo) (hv : ∀ x, v.ownBlock = some x → x < lo) (hbad : ∀ b, bad b → b < lo ∧ b < w.heap.size) (hvb : ∀ g, v.ownBlock = some g → ¬ bad g) : OwnB w' base bad e k R v' (l ++ [p]) := by
  subst hn
  have key : ∀ b, base ≤ b ∧ v.ownBlock ≠ some b ∧ ¬ bad b → b < w.heap.size → (base ≤ b ∧ v'.ownBlock ≠ some b ∧ ¬ bad b) ∧ w'.heap[b]? = w.heap[b]? := fun b hb hlt => by
    refine ⟨⟨hb.1, fun e => ?_, hb.2.2⟩, hg.block b hlt (fun e => hb.2.1 e.symm)⟩
    rcases hat with h | h
    · exact hb.2.1 (h ▸ e)
    · rw [h] at e; have : w.heap.size = b := Option.some.inj e; omega
  refine ⟨qs ++ [cs], ?_, by simp [hl], fun i h h' => ?_, fun g hg' => ?_⟩
  · rw [List.flatten_append, List.length_append]
    simpa using ho'
  · rcases Nat.lt_or_ge i l.length with hi | hi
    · rw [List.getElem_append_left hi, List.getElem_append_left (by omega)]
      exact ⟨(hr i hi (by omega)).1, hR (hr i hi (by omega)).2 key⟩
    · have : i = l.length := by simp at h; omega
      subst this
      have e1 : (l ++ [p])[l.length] = p := by simp
      have e2 : (qs ++ [cs])[l.length]'h' = cs := by simp [← hl]
      rw [e1, e2]
      exact ⟨hk, hR hp (fun b hb hlt => key b ⟨by omega, fun e => by have := hv b e; omega, fun q => by have := (hbad b q).1; omega⟩ hlt)⟩
  · rcases hat with h | h
    · exact hvb g (h ▸ hg')
    · rw [h] at hg'
      have : w.heap.size = g := Option.some.inj hg'
      intro q
      have := (hbad g q).2
      omega
theorem OwnB.rd {α : Type} {w : World} {base e k : Nat} {bad : Nat → Prop} {R : (Nat → Prop) → World → α → List Value → Prop} {v : Value} {l : List α} (hR : Kp R) (h : OwnB w base bad e k R v l) : RdK (fun b => base ≤ b) w k (R (fun b => base ≤ b) w) l v := by
  obtain ⟨qs, ho, hl, hr, _⟩ := h
  exact OwnK.rd hR ⟨qs, ho, hl, fun i h h' => ⟨(hr i h h').1, hR (hr i h h').2 (fun b hb _ => ⟨⟨hb.1, hb.2.1⟩, rfl⟩)⟩⟩
end Go.Proofs.Ytajhombbkdlegaa

/- The journal: a segment's payloads as math; rows of bytes, the program's segment in memory. -/
namespace Go.Proofs.Ytajhombbkdlegaa
open Go.RowKit Go.Lib Go.Maps
set_option linter.unusedSimpArgs false
set_option linter.unusedVariables false

/-- What is read of a segment. -/
structure SgM where
  recs : List (List Int)
  begun : Bool
  ended : Bool
  torn : Bool
  wrong : Bool
def jSg0 : SgM := ⟨[], false, false, false, false⟩
/-- A payload taken: at a segment's beginning, or behind it; none, if it may not stand there. -/
def jTk (s : SgM) (p : List Int) (z : Bool) : Option SgM :=
  if p.getD 0 0 = 0 ∧ p.length ≠ 1 then some { s with recs := s.recs ++ [p.drop 1] }
  else if p.getD 0 0 = 1 ∧ p.length = 1 ∧ z = true then some { s with begun := true }
  else if p.getD 0 0 = 2 ∧ p.length = 1 ∧ s.begun = true ∧ s.ended = false then some { s with ended := true }
  else none
/-- A segment's bytes from place a on. -/
def jPrs : Nat → SgM → Nat → List Int → SgM
  | 0, s, _, _ => s
  | f + 1, s, a, r =>
    if r.length = 0 then s
    else if (openS r).2.2 = 5 then { s with torn := true }
    else if (openS r).2.2 ≠ 0 then { s with wrong := true }
    else match jTk s (openS r).1 (decide (a = 0)) with
      | none => { s with wrong := true }
      | some s' => jPrs f s' (a + (openS r).2.1.toNat) (r.drop (openS r).2.1.toNat)
def jPrsB (b : List Int) : SgM := jPrs (b.length + 1) jSg0 0 b
theorem jPrs_end {f : Nat} {s : SgM} {a : Nat} {r : List Int} (h : r.length = 0) : jPrs f s a r = s := by
  cases f with
  | zero => rfl
  | succ f => unfold jPrs; rw [if_pos h]
theorem jPrs_torn {f : Nat} {s : SgM} {a : Nat} {r : List Int} (h : r.length < f) (h0 : r.length ≠ 0) (h5 : (openS r).2.2 = 5) : jPrs f s a r = { s with torn := true } := by
  cases f with
  | zero => omega
  | succ f => unfold jPrs; rw [if_neg h0, if_pos h5]
theorem jPrs_bad {f : Nat} {s : SgM} {a : Nat} {r : List Int} (h : r.length < f) (h0 : r.length ≠ 0) (h5 : (openS r).2.2 ≠ 5) (he : (openS r).2.2 ≠ 0) : jPrs f s a r = { s with wrong := true } := by
  cases f with
  | zero => omega
  | succ f => unfold jPrs; rw [if_neg h0, if_neg h5, if_pos he]
theorem jPrs_no {f : Nat} {s : SgM} {a : Nat} {r : List Int} (h : r.length < f) (h0 : r.length ≠ 0) (he : (openS r).2.2 = 0) (ht : jTk s (openS r).1 (decide (a = 0)) = none) : jPrs f s a r = { s with wrong := true } := by
  cases f with
  | zero => omega
  | succ f =>
    unfold jPrs
    rw [if_neg h0, if_neg (by omega), if_neg (by omega), ht]
theorem openS_size {r : List Int} (he : (openS r).2.2 = 0) : (openS r).2.1 = ((openS r).1.length : Int) + 6 ∧ 1 ≤ (openS r).1.length ∧ (openS r).1.length + 6 ≤ r.length := by
  unfold openS at he ⊢
  split at he
  · simp at he
  · rename_i h4
    rw [if_neg h4]
    split at he
    · simp at he
    · rename_i hb
      rw [if_neg hb]
      split at he
      · simp at he
      · rename_i h6
        rw [if_neg h6]
        split at he
        · simp at he
        · rename_i h7
          rw [if_neg h7]
          have h1 : ¬ tv r < 1 := fun h => hb (.inl h)
          have hlen : ((r.drop 4).take (tv r).toNat).length = (tv r).toNat := by
            rw [List.length_take, List.length_drop]
            omega
          simp only
          rw [hlen]
          omega
theorem jPrs_go {f : Nat} {s s' : SgM} {a : Nat} {r : List Int} (h : r.length < f) (h0 : r.length ≠ 0) (he : (openS r).2.2 = 0) (ht : jTk s (openS r).1 (decide (a = 0)) = some s') :
    ∃ f', (r.drop (openS r).2.1.toNat).length < f' ∧ jPrs f s a r = jPrs f' s' (a + (openS r).2.1.toNat) (r.drop (openS r).2.1.toNat) := by
  cases f with
  | zero => omega
  | succ f =>
    have hsz := openS_size he
    refine ⟨f, by rw [List.length_drop]; omega, ?_⟩
    conv => lhs; unfold jPrs
    rw [if_neg h0, if_neg (by omega), if_neg (by omega), ht]
/-- A row of bytes that may be anywhere in what is told. -/
def rBy (ok : Nat → Prop) (w : World) (x : List Int) (cs : List Value) : Prop := ∃ a c, cs = [.slice a x.length c] ∧ (∀ y, a = some y → ok y.block ∧ y.block < w.heap.size) ∧ Rd w (.slice a x.length c) x
theorem kp_By : Kp rBy := by
  intro ok ok' w w' x cs h hk
  obtain ⟨a, c, h1, h2, a', c', e, h4, h5, h6, h7⟩ := h
  simp only [Value.slice.injEq, true_and] at e
  obtain ⟨rfl, rfl⟩ := e
  refine ⟨a, c, h1, fun y hy => ?_, a, c, rfl, h4, h5, h6, fun y hy i hi => ?_⟩
  · obtain ⟨o1, o2⟩ := h2 y hy
    obtain ⟨o3, o4⟩ := hk _ o1 o2
    refine ⟨o3, ?_⟩
    rcases Nat.lt_or_ge y.block w'.heap.size with h | h
    · exact h
    · rw [Array.getElem?_eq_none h, Array.getElem?_eq_getElem o2] at o4
      cases o4
  · have hc := h7 y hy i hi
    have hb := (hk _ (h2 y hy).1 (h2 y hy).2).2
    exact (World.cell?_of_block (by rw [add_block]; exact hb)).trans hc
end Go.Proofs.Ytajhombbkdlegaa

/- The program's disk: burn, New, Used, Down, SetFuse, SetRoom. -/
namespace Go.Proofs.Ytajhombbkdlegaa
open Go.RowKit Go.Lib Go.Maps
set_option linter.unusedSimpArgs false
set_option linter.unusedVariables false
attribute [local go_sem ↓] Go.wp_at_zero Go.wp_at_succ

theorem hideD {p : Prop} (h : p) : Hid p := h
def brn (d : Dk) : Dk := if d.fuse = 0 then { d with dead := true } else if 0 < d.fuse then { d with fuse := d.fuse - 1 } else d
set_option maxHeartbeats 1000000 in
theorem dburn_any {w : World} {X : Nat} {F : Nat → Prop} {d : Dk} {mv : Option Nat} {E : List (Int × Sv)} (h : PDE w X F d mv E) (hd : d.fuse ≤ 9223372036854775807) :
    Calls Try.prog 53 #[.pointer (some ⟨X, 0, none⟩)] w fun e w' => e = .returned (.int .i64 (if d.fuse = 0 then 8 else 0)) ∧ PDE w' X F (brn d) mv E ∧ Kf F w w' := by
  obtain ⟨fz, h1, h2, h3, h4, h5⟩ := h
  obtain ⟨c3, f3⟩ := h4 3 _ rfl
  obtain ⟨c4, f4⟩ := h4 4 _ rfl
  obtain ⟨c5, f5⟩ := h4 5 _ rfl
  by_cases hf : 0 ≤ d.fuse
  · have e5 := h5 hf
    subst e5
    rw [decide_eq_true hf] at c4
    by_cases h0 : d.fuse = 0
    · obtain ⟨L, room, fu, dead⟩ := d
      simp only at h0
      subst h0
      simp only at h2 h4 c5
      go_enter Try.func53, Try.ntmps53
      go_wp2
      go_ret
      exact ⟨rfl, ⟨0, h1, h2, h3.setX _, h4.set (i := 3) (by simp) (.bool true), fun _ => rfl⟩, (Kf.refl F w).set h1 _⟩
    · have e1 : brn d = { d with fuse := d.fuse - 1 } := (if_neg h0).trans (if_pos (by omega))
      rw [if_neg h0, e1]
      have e2 : IntKind.i64.wrap (d.fuse - 1) = d.fuse - 1 := by rw [IntKind.wrap_i64]; omega
      have h4' := h4.set (i := 5) (by simp) (.int .i64 (d.fuse - 1))
      have e3 : decide (0 ≤ d.fuse) = decide (0 ≤ d.fuse - 1) := by rw [decide_eq_true hf, decide_eq_true (by omega)]
      rw [e3] at h4'
      go_enter Try.func53, Try.ntmps53
      go_wp2
      go_ret
      exact ⟨rfl, ⟨d.fuse - 1, h1, h2, h3.setX _, h4', fun _ => rfl⟩, (Kf.refl F w).set h1 _⟩
  · have h0 : ¬ d.fuse = 0 := by omega
    have e1 : brn d = d := (if_neg h0).trans (if_neg (by omega))
    rw [if_neg h0, e1]
    rw [decide_eq_false hf] at c4
    go_enter Try.func53, Try.ntmps53
    go_wp2
    go_ret
    exact ⟨rfl, ⟨fz, h1, h2, h3, h4, h5⟩, Kf.refl F w⟩
set_option maxHeartbeats 1000000 in
theorem dnew_any (w : World) (n : Int) : Calls Try.prog 10 #[.int .i64 n] w fun e w' => e = .returned (.pointer (some ⟨w.heap.size, 0, none⟩)) ∧ PD w' w.heap.size (fun j => j = w.heap.size) ⟨[], max n 0, -1, false⟩ ∧ Below w.heap.size w w' := by
  have hp : ∀ m : Int, m = max n 0 → PD (w.alloc (.cells #[.map none, .int .i64 0, .int .i64 m, .bool false, .bool false, .int .i64 0] 69)) w.heap.size (fun j => j = w.heap.size) ⟨[], max n 0, -1, false⟩ := fun m hm => by
    subst hm
    exact ⟨none, [], 0, rfl, rfl, ⟨List.Pairwise.nil, .inl ⟨rfl, rfl⟩, fun _ h => (by cases h), fun x hx => absurd hx (by simp), List.Pairwise.nil⟩, Bn.new w [.map none, .int .i64 0, .int .i64 (max n 0), .bool false, .bool false, .int .i64 0] _ _ rfl, fun h => by simp only at h; omega⟩
  by_cases hn : n < 0
  · go_enter Try.func10, Try.ntmps10
    go_wp2
    go_ret
    exact ⟨rfl, hp 0 (by omega), (Below.refl _ _).alloc (Nat.le_refl _) _⟩
  · go_enter Try.func10, Try.ntmps10
    go_wp2
    go_ret
    exact ⟨rfl, hp n (by omega), (Below.refl _ _).alloc (Nat.le_refl _) _⟩

def sgC (n sz : Int) (rv : Value) (s : SgM) : List Value := [.int .i64 n, .int .i64 sz, rv, .bool s.begun, .bool s.ended, .bool s.torn, .bool s.wrong]
theorem inf_bytes : (Try.prog.info? 41).map (fun i => (i.zero, i.size, i.bytes)) = some (some (.slice none 0 0), 1, 24) := by kernel_rfl
theorem inf_getJ {t : TypeId} {z : Value} {a b : Nat} (h : (Try.prog.info? t).map (fun i => (i.zero, i.size, i.bytes)) = some (some z, a, b)) : ∃ i, Try.prog.info? t = some i ∧ i.zero = some z ∧ i.size = a ∧ i.bytes = b := by
  cases hq : Try.prog.info? t with
  | none => rw [hq] at h; cases h
  | some i =>
    rw [hq] at h
    simp only [Option.map_some, Option.some.injEq, Prod.mk.injEq] at h
    exact ⟨i, rfl, h.1, h.2.1, h.2.2⟩
/-- The payload without its first byte. -/
theorem rby_tail {w : World} {lo g c pl : Nat} {p : List Int} (h : Own w lo 5 (.slice (some ⟨g, 0, none⟩) pl c) p) (hpl : p.length = pl) (h2 : 2 ≤ pl) : rBy (fun b => lo ≤ b) w (p.drop 1) [.slice (some ⟨g, 1, none⟩) (pl - 1) (c - 1)] := by
  subst hpl
  have hlt := ownsRow_lt h g rfl
  have hlen : (p.drop 1).length = p.length - 1 := by simp
  have hr := h.rd
  obtain ⟨b', off', cap', e, hc', hm', hcell⟩ := hr.lies (by omega)
  simp only [Value.slice.injEq, Option.some.injEq, Addr.mk.injEq, and_true, true_and] at e
  obtain ⟨⟨rfl, rfl⟩, rfl⟩ := e
  have hp := Rd.part (k := 1) (n := p.length - 1) rfl hcell hc' hm' (by omega)
  rw [if_neg (by omega), List.take_of_length_le (by simp)] at hp
  refine ⟨_, _, by rw [hlen], fun y hy => ?_, by rw [hlen]; exact hp⟩
  obtain rfl := Option.some.inj hy
  exact hlt
set_option maxRecDepth 100000 in
set_option maxHeartbeats 4000000 in
theorem jtake_0 {w : World} {Z base lo pb pc pl : Nat} {n sz : Int} {a : Nat} {s : SgM} {rv : Value} {p : List Int} (hB : Bn w Z (sgC n sz rv s)) (ho : OwnK w base 41 1 rBy rv s.recs) (hZ : Z < base) (hbs : base ≤ w.heap.size)
    (hp : Own w lo 5 (.slice (some ⟨pb, 0, none⟩) pl pc) p) (hlo : base ≤ lo) (hrv : ∀ x, rv.ownBlock = some x → x < lo) (hbn : s.recs.length ≤ 1000000) (h0 : p.getD 0 0 = 0) (hpl : p.length = pl) (h2 : 2 ≤ pl) :
    Calls Try.prog 75 #[.pointer (some ⟨Z, 0, none⟩), .slice (some ⟨pb, 0, none⟩) pl pc, .int .i64 (a : Int)] w fun e w' => e = .returned (.bool true) ∧
      ∃ rv', Bn w' Z (sgC n sz rv' { s with recs := s.recs ++ [p.drop 1] }) ∧ OwnK w' base 41 1 rBy rv' (s.recs ++ [p.drop 1]) ∧ Kf (fun j => j = Z ∨ base ≤ j) w w' := by
  obtain ⟨ra, rc, rfl, hrl, hrm⟩ := ho.form
  obtain ⟨z2, f2⟩ := hB 2 _ rfl
  have hpc := ownsRow_lt hp pb rfl
  have hcell := World.ownsRow.cells hp (g := pb) rfl 0 (.int .u8 0) (by
    rw [List.getElem?_map, List.getElem?_eq_getElem (by omega)]
    rw [List.getD_eq_getElem?_getD, List.getElem?_eq_getElem (by omega)] at h0
    simpa using h0)
  rw [add_plain, Nat.zero_add] at hcell
  have htl := rby_tail hp hpl h2
  have hcap : pl ≤ pc := by
    have := hp.2
    rcases this with ⟨e, _⟩ | ⟨g, cap, cur, e, _, _, h3, _⟩
    · simp at e
    · simp only [Value.slice.injEq] at e
      omega
  have e1 : ¬ (pl : Int) = 1 := by omega
  have e2 : ((pl : Int) == 1) = false := by simp; omega
  have e3 : ¬ pc = 1 := by omega
  have i1 : (1 : Int) ≤ (pl : Int) := by omega
  have i2 : (0 : Int) < (pl : Int) := by omega
  have i3 : (pl : Int) ≤ (pc : Int) := by omega
  obtain ⟨ib, hi, hi0, hi1, hi2⟩ := inf_getJ inf_bytes
  obtain ⟨k, hk⟩ : ∃ k, s.recs.length = k := ⟨_, rfl⟩
  have hal : Below w.heap.size w.drew (w.drew.alloc (.cells #[.slice (some ⟨pb, 1, none⟩) (pl - 1) (pc - 1)] 41))  := (Below.refl w.heap.size w.drew).alloc (Nat.le_refl _) _
  have hZw : Z < w.heap.size := by omega
  have z2d : w.drew.cell? ⟨Z, 2, none⟩ = some (.slice ra s.recs.length rc) := z2
  have z2a : (w.drew.alloc (.cells #[.slice (some ⟨pb, 1, none⟩) (pl - 1) (pc - 1)] 41)).cell? ⟨Z, 2, none⟩ = some (.slice ra s.recs.length rc) := (hal.cell (p := ⟨Z, 2, none⟩) hZw).trans z2
  rw [hk] at z2 z2d z2a hbn
  have HK := hideD hk
  have HO := hideD ho
  have HP := hideD htl
  have HB := hideD hB
  have HRV := hideD hrv
  have HPL := hideD hpl
  clear hk ho htl hB hrv hpl hp h0 hal hcap hpc
  go_enter Try.func75, Try.ntmps75
  go_upto_region 4 with fail
  go_region_law (first
    | (rw [← HK.out]; refine step_push w.drew (by rfl) (.tmp 26) (.tmp 29) 30 (by rfl) base 41 ib (.slice none 0 0) 1 24 Try.underlying30 hi hi0 hi1 hi2 rfl kp_By (.slice ra s.recs.length rc) s.recs (p.drop 1) [.slice (some ⟨pb, 1, none⟩) (pl - 1) (pc - 1)] lo (by rfl) (by rfl) rfl (by simp [Value.oneCell']) (HO.out.on kp_By (Below.refl _ _).drew) HP.out hlo HRV.out (by have := HK.out; omega) (by unfold maxLen; have := HK.out; omega) hbs ?_; intro v1 wb hO1 hg1 hb1; obtain ⟨a1, c1, rfl, _, _⟩ := hO1.form; rw [List.length_append, List.length_singleton] at hO1; have hBb := HB.out.blk (hb1.block Z hZ); obtain ⟨z3, f3⟩ := hBb 2 _ rfl; have HO1 := hideD hO1; have HBB := hideD hBb; have HB1 := hideD hb1; clear hO1 hg1 hb1 hBb)
    | fail)
  all_goals (
    go_wp2
    go_ret
    refine ⟨rfl, _, HBB.out.set (i := 2) (by simp [sgC]) _, HO1.out.set kp_By hZ _, ?_⟩
    have h := HB1.out
    have kf : Kf (fun j => j = Z ∨ base ≤ j) w wb := ⟨h.os, h.tape, h.output, h.size, fun j hj hn => h.block j (Nat.lt_of_not_le (fun e => hn (Or.inr e)))⟩
    exact kf.set (X := Z) (Or.inl rfl) _)
/-- The payload's first byte, in memory. -/
theorem own_head {w : World} {lo g c pl : Nat} {p : List Int} (h : Own w lo 5 (.slice (some ⟨g, 0, none⟩) pl c) p) (h1 : 1 ≤ p.length) : w.cell? ⟨g, 0, none⟩ = some (.int .u8 (p.getD 0 0)) := by
  have hcell := World.ownsRow.cells h (g := g) rfl 0 (.int .u8 (p.getD 0 0)) (by
    rw [List.getElem?_map, List.getElem?_eq_getElem (by omega), List.getD_eq_getElem?_getD, List.getElem?_eq_getElem (by omega)]
    rfl)
  rwa [add_plain, Nat.zero_add] at hcell
set_option maxRecDepth 100000 in
set_option maxHeartbeats 4000000 in
theorem jtake_1 {w : World} {Z lo pb pc : Nat} {n sz : Int} {s : SgM} {rv : Value} {p : List Int} (hB : Bn w Z (sgC n sz rv s))
    (hp : Own w lo 5 (.slice (some ⟨pb, 0, none⟩) 1 pc) p) (h0 : p.getD 0 0 = 1) (hpl : p.length = 1) :
    Calls Try.prog 75 #[.pointer (some ⟨Z, 0, none⟩), .slice (some ⟨pb, 0, none⟩) 1 pc, .int .i64 0] w fun e w' => e = .returned (.bool true) ∧
      Bn w' Z (sgC n sz rv { s with begun := true }) ∧ Kf (fun j => j = Z) w w' := by
  obtain ⟨z3, f3⟩ := hB 3 _ rfl
  have hcell := own_head hp (by omega)
  rw [h0] at hcell
  have HB := hideD hB
  clear hB hp h0 hpl
  go_enter Try.func75, Try.ntmps75
  go_wp2
  go_ret
  exact ⟨rfl, HB.out.set (i := 3) (by simp [sgC]) _, (Kf.refl (fun j => j = Z) w).set (X := Z) rfl _⟩
set_option maxRecDepth 100000 in
set_option maxHeartbeats 4000000 in
theorem jtake_2 {w : World} {Z lo pb pc : Nat} {n sz : Int} {a : Nat} {s : SgM} {rv : Value} {p : List Int} (hB : Bn w Z (sgC n sz rv s))
    (hp : Own w lo 5 (.slice (some ⟨pb, 0, none⟩) 1 pc) p) (h0 : p.getD 0 0 = 2) (hpl : p.length = 1) (hb : s.begun = true) (he : s.ended = false) :
    Calls Try.prog 75 #[.pointer (some ⟨Z, 0, none⟩), .slice (some ⟨pb, 0, none⟩) 1 pc, .int .i64 (a : Int)] w fun e w' => e = .returned (.bool true) ∧
      Bn w' Z (sgC n sz rv { s with ended := true }) ∧ Kf (fun j => j = Z) w w' := by
  obtain ⟨z3, f3⟩ := hB 3 _ rfl
  obtain ⟨z4, f4⟩ := hB 4 _ rfl
  rw [hb] at z3
  rw [he] at z4
  have hcell := own_head hp (by omega)
  rw [h0] at hcell
  have HB := hideD hB
  clear hB hp h0 hpl hb he
  go_enter Try.func75, Try.ntmps75
  go_wp2
  go_ret
  exact ⟨rfl, HB.out.set (i := 4) (by simp [sgC]) _, (Kf.refl (fun j => j = Z) w).set (X := Z) rfl _⟩
set_option maxRecDepth 100000 in
set_option maxHeartbeats 4000000 in
theorem jtake_no {w : World} {Z lo pb pc pl : Nat} {n sz : Int} {a : Nat} {s : SgM} {rv : Value} {p : List Int} (hB : Bn w Z (sgC n sz rv s))
    (hp : Own w lo 5 (.slice (some ⟨pb, 0, none⟩) pl pc) p) (hpl : p.length = pl) (h1 : 1 ≤ pl) (ht : jTk s p (decide (a = 0)) = none) :
    Calls Try.prog 75 #[.pointer (some ⟨Z, 0, none⟩), .slice (some ⟨pb, 0, none⟩) pl pc, .int .i64 (a : Int)] w fun e w' => e = .returned (.bool false) ∧ w = w' := by
  obtain ⟨z3, f3⟩ := hB 3 _ rfl
  obtain ⟨z4, f4⟩ := hB 4 _ rfl
  have hcell := own_head hp (by omega)
  have q0 : ¬ (p.getD 0 0 = 0 ∧ p.length ≠ 1) := fun h => by unfold jTk at ht; rw [if_pos h] at ht; cases ht
  have q1 : ¬ (p.getD 0 0 = 1 ∧ p.length = 1 ∧ a = 0) := fun h => by unfold jTk at ht; rw [if_neg q0, if_pos ⟨h.1, h.2.1, decide_eq_true h.2.2⟩] at ht; cases ht
  have q2 : ¬ (p.getD 0 0 = 2 ∧ p.length = 1 ∧ s.begun = true ∧ s.ended = false) := fun h => by
    unfold jTk at ht
    rw [if_neg q0, if_neg (fun h => q1 ⟨h.1, h.2.1, of_decide_eq_true h.2.2⟩), if_pos h] at ht
    cases ht
  obtain ⟨k, hk⟩ : ∃ k, p.getD 0 0 = k := ⟨_, rfl⟩
  obtain ⟨bb, hbb⟩ : ∃ k, s.begun = k := ⟨_, rfl⟩
  obtain ⟨be, hbe⟩ : ∃ k, s.ended = k := ⟨_, rfl⟩
  rw [hk] at hcell q0 q1 q2
  rw [hpl] at q0 q1 q2
  rw [hbb] at z3 q2
  rw [hbe] at z4 q2
  have i2 : (0 : Int) < (pl : Int) := by omega
  clear hB hp hk hbb hbe ht hpl
  by_cases hl : pl = 1
  · subst hl
    by_cases k0 : k = 0
    · subst k0
      go_enter Try.func75, Try.ntmps75
      go_wp2
      go_ret
      exact ⟨rfl, rfl⟩
    by_cases k1 : k = 1
    · subst k1
      have ha : ¬ (a : Int) = 0 := by
        have : ¬ a = 0 := fun e => q1 ⟨rfl, rfl, e⟩
        omega
      have ha' : ¬ a = 0 := by omega
      go_enter Try.func75, Try.ntmps75
      go_wp2
      go_ret
      exact ⟨rfl, rfl⟩
    by_cases k2 : k = 2
    · subst k2
      cases bb with
      | false =>
        go_enter Try.func75, Try.ntmps75
        go_wp2
        go_ret
        exact ⟨rfl, rfl⟩
      | true =>
        cases be with
        | false => exact absurd ⟨rfl, rfl, rfl, rfl⟩ q2
        | true =>
          go_enter Try.func75, Try.ntmps75
          go_wp2
          go_ret
          exact ⟨rfl, rfl⟩
    · go_enter Try.func75, Try.ntmps75
      go_wp2
      go_ret
      exact ⟨rfl, rfl⟩
  · have k0 : ¬ k = 0 := fun e => q0 ⟨e, hl⟩
    have e1 : ¬ (pl : Int) = 1 := by omega
    have e2 : ((pl : Int) == 1) = false := by simp; omega
    by_cases k1 : k = 1
    · subst k1
      go_enter Try.func75, Try.ntmps75
      go_wp2
      go_ret
      exact ⟨rfl, rfl⟩
    by_cases k2 : k = 2
    · subst k2
      go_enter Try.func75, Try.ntmps75
      go_wp2
      go_ret
      exact ⟨rfl, rfl⟩
    · go_enter Try.func75, Try.ntmps75
      go_wp2
      go_ret
      exact ⟨rfl, rfl⟩

theorem dl_some {w : World} {b : Nat} {l : List (Int × Value)} {n : Int} {v : Value} (ho : w.ownsMap Try.prog 3 hR b l.length (.map (esD l))) (hs : Ris l) (hl : l.length ≤ 100000) (hn : (Lit.int .i64 n).wf = true) :
    ∃ w', (Instr.mapUpdate 67 (.map (some b)) (.int .i64 n) v).run Try.prog w = .ok () w' ∧ w'.ownsMap Try.prog 3 hR b (pt n v l).length (.map (esD (pt n v l))) ∧ w.mapTurned w' b := by
  obtain ⟨w', h1, h2, h3⟩ := ho.store (int_keyed Try.underlying3) Try.underlying67 (by unfold maxLen; omega) (val := v) (d := .held v) (ps := []) (keyI hn) rfl
  rw [putD n v hs] at h2
  exact ⟨w', h1, ownsMap_tight h2, h3⟩
/-- A segment is put among those that are there. -/
theorem PRx.put {w w' : World} {X b : Nat} {F : Nat → Prop} {E : List (Int × Sv)} {n : Int} {s : Sv} (h : PRx w X F (some b) E n) (ho : w'.ownsMap Try.prog 3 hR b (pt n (cv s) (esV E)).length (.map (esD (pt n (cv s) (esV E))))) (ht : w.mapTurned w' b)
    (hs : Own w 0 5 s.1 s.2.1) (hf : ∀ g, s.1.ownBlock = some g → F g ∧ g ≠ X) (ha : ∀ x ∈ E, x.1 ≠ n → ∀ g, x.2.1.ownBlock = some g → s.1.ownBlock ≠ some g) : PR w' X F (some b) (pt n s E) := by
  obtain ⟨es0, cl0, es1, cl1, hb0, _⟩ := id ht
  have hkeep : ∀ {v : Value} {xs : List Int}, Own w 0 5 v xs → Own w' 0 5 v xs := fun {v xs} hv => ownD_keep hv (fun g hg => ht.grown.block g (ownsRow_lt hv g hg).2 (fun e => by
    have e : g = b := Option.some.inj e
    subst e
    rcases hv.2 with ⟨rfl, _⟩ | ⟨g', cap, cur, rfl, _, hc, _⟩
    · simp [Value.ownBlock] at hg
    · have : g' = g := by simpa [Value.ownBlock] using hg
      subst this
      rw [hb0] at hc
      cases hc))
  have hm : ∀ x ∈ pt n s E, x = (n, s) ∨ (x ∈ E ∧ x.1 ≠ n) := fun x hx => mem_pt h.r hx
  refine ⟨ris_pt h.r, .inr ⟨b, rfl, by rw [esV_pt]; exact ho⟩, h.fm, fun x hx => ?_, ?_⟩
  · rcases hm x hx with rfl | ⟨hx, _⟩
    · exact ⟨hkeep hs, hf⟩
    · rename_i hne
      exact ⟨hkeep (h.s x hx hne).1, (h.s x hx hne).2⟩
  · have hap := h.a
    have hr := h.r
    clear h ho hkeep hm
    induction E with
    | nil => simp [pt]
    | cons y r ih =>
      obtain ⟨a1, a2⟩ := List.pairwise_cons.1 hap
      obtain ⟨r1, r2⟩ := List.pairwise_cons.1 hr
      have ih := ih (fun x hx => ha x (List.mem_cons_of_mem _ hx)) a2 r2
      unfold pt
      split
      · rename_i hlt
        have hne : ∀ x ∈ y :: r, x.1 ≠ n := fun x hx => by
          rcases List.mem_cons.1 hx with rfl | hx
          · omega
          · have := r1 x hx
            omega
        exact List.pairwise_cons.2 ⟨fun x hx g hg hx2 => ha x hx (hne x hx) g hx2 hg, hap.imp_of_mem (fun hx hy h => h (hne _ hx) (hne _ hy))⟩
      · split
        · rename_i hlt he
          have hne : ∀ x ∈ r, x.1 ≠ n := fun x hx => by
            have := r1 x hx
            omega
          exact List.pairwise_cons.2 ⟨fun x hx g hg hx2 => ha x (List.mem_cons_of_mem _ hx) (hne x hx) g hx2 hg, a2.imp_of_mem (fun hx hy h => h (hne _ hx) (hne _ hy))⟩
        · rename_i hlt he
          refine List.pairwise_cons.2 ⟨fun x hx g hg => ?_, ih⟩
          rcases mem_pt r2 hx with rfl | ⟨hx, hne⟩
          · exact ha y List.mem_cons_self he g hg
          · exact a1 x hx he hne g hg
theorem eqlSome (b : Nat) (w : World) : (binOp .eql 67 (.map (some b)) (.map none)).run Try.prog w = .ok (.bool false) w := by kernel_rfl
theorem eqlNil (w : World) : (binOp .eql 67 (.map none) (.map none)).run Try.prog w = .ok (.bool true) w := by kernel_rfl
theorem esV_len (E : List (Int × Sv)) : (esV E).length = E.length := by simp [esV]
set_option maxRecDepth 100000 in
set_option maxHeartbeats 4000000 in
theorem dput_any {w : World} {X : Nat} {F : Nat → Prop} {mv : Option Nat} {E : List (Int × Sv)} {cs : List Value} {n : Int} {s : Sv} (h : PRx w X F mv E n) (hB : Bn w X (.map mv :: cs)) (hX : F X) (hn : (Lit.int .i64 n).wf = true) (hl : E.length ≤ 100000)
    (hs : Own w 0 5 s.1 s.2.1) (hf : ∀ g, s.1.ownBlock = some g → F g ∧ g ≠ X) (ha : ∀ x ∈ E, x.1 ≠ n → ∀ g, x.2.1.ownBlock = some g → s.1.ownBlock ≠ some g) :
    Calls Try.prog 54 #[.pointer (some ⟨X, 0, none⟩), .int .i64 n, cv s] w fun e w' => e = .returned (.tuple #[]) ∧ (∃ mv', Bn w' X (.map mv' :: cs) ∧ PR w' X (nF F w) mv' (pt n s E)) ∧ Kf F w w' := by
  have hXl := hB.lt
  obtain ⟨c0, f0⟩ := hB 0 _ rfl
  have hmono : ∀ j, F j → nF F w j := fun j hj => .inl hj
  have hal : Below w.heap.size w (w.alloc (.cells #[s.1, .int .i64 (s.2.2 : Int)] 93)) := (Below.refl _ _).alloc (Nat.le_refl _) _
  have hBx := Bn.new w [s.1, .int .i64 (s.2.2 : Int)] 93 _ rfl
  obtain ⟨sv, sb, sn⟩ := s
  simp only at *
  have hs' : Own (w.alloc (.cells #[sv, .int .i64 (sn : Int)] 93)) 0 5 sv sb := ownD_keep hs (fun g hg => hal.block g (ownsRow_lt hs g hg).2)
  obtain ⟨x0, g0⟩ := hBx 0 _ rfl
  obtain ⟨x1, g1⟩ := hBx 1 _ rfl
  obtain ⟨C0, D0⟩ := (hB.on hal) 0 _ rfl
  have hlN : ∀ j, F j → j < w.heap.size → j ≠ w.heap.size := fun j _ h => by omega
  cases mv with
  | none =>
    have hE : E = [] := by
      rcases h.m with ⟨_, e⟩ | ⟨b, e, _⟩
      · exact List.eq_nil_of_length_eq_zero (by have := congrArg List.length e; simpa [esV] using this)
      · cases e
    subst hE
    have hmm := @run_makeMap Try.prog
    have hsz : (w.alloc (.cells #[sv, .int .i64 (sn : Int)] 93)).heap.size = w.heap.size + 1 := by simp
    have hal2 : Below (w.heap.size + 1) (w.alloc (.cells #[sv, .int .i64 (sn : Int)] 93)) ((w.alloc (.cells #[sv, .int .i64 (sn : Int)] 93)).alloc (.map #[] 0)) := (Below.refl _ _).alloc (by simp) _
    have ho0 := World.ownsMap_made (w.alloc (.cells #[sv, .int .i64 (sn : Int)] 93)) Try.prog 3 hR
    rw [hsz] at ho0
    have C1 := (hal2.cell (p := ⟨X, 0, none⟩) (show X < w.heap.size + 1 by omega)).trans C0
    have D1 := (hal2.frozen (p := ⟨X, 0, none⟩) (show X < w.heap.size + 1 by omega)).trans D0
    have y0 := (hal2.cell (p := ⟨w.heap.size, 0, none⟩) (Nat.lt_succ_self _)).trans x0
    have y1 := (hal2.cell (p := ⟨w.heap.size, 1, none⟩) (Nat.lt_succ_self _)).trans x1
    have hbw : Below w.heap.size w ((w.alloc (.cells #[sv, .int .i64 (sn : Int)] 93)).alloc (.map #[] 0)) := hal.trans (hal2.mono (by omega))
    have hb2 := hB.on hbw
    have hs2 := ownD_keep hs (fun g hg => hbw.block g (ownsRow_lt hs g hg).2)
    have hsz2 : ((w.alloc (.cells #[sv, .int .i64 (sn : Int)] 93)).alloc (.map #[] 0)).heap.size = w.heap.size + 2 := by simp
    obtain ⟨W, hW⟩ : ∃ W, (w.alloc (.cells #[sv, .int .i64 (sn : Int)] 93)).alloc (.map #[] 0) = W := ⟨_, rfl⟩
    rw [hW] at ho0 C1 D1 y0 y1 hbw hb2 hs2 hsz2
    have ho1 : (W.setCell ⟨X, 0, none⟩ (.map (some (w.heap.size + 1)))).drew.ownsMap Try.prog 3 hR (w.heap.size + 1) ([] : List (Int × Value)).length (.map (esD [])) := (ho0.setCell (show w.heap.size + 1 ≠ X by omega) _).drew
    obtain ⟨w2, hr2, ho2, ht2⟩ := dl_some (n := n) (v := cv (sv, sb, sn)) ho1 List.Pairwise.nil (by simp) hn
    have hP3 : PRx (W.setCell ⟨X, 0, none⟩ (.map (some (w.heap.size + 1)))).drew X (nF F w) (some (w.heap.size + 1)) [] n :=
      ⟨List.Pairwise.nil, .inr ⟨_, rfl, ho1⟩, fun b hb => by cases hb; exact ⟨.inr (by omega), by omega⟩, fun x hx => absurd hx (by simp), List.Pairwise.nil⟩
    have hs3 : Own (W.setCell ⟨X, 0, none⟩ (.map (some (w.heap.size + 1)))).drew 0 5 sv sb := ownD_keep hs2 (fun g hg => Below.heap_setCell _ _ _ _ (fun e => (hf g hg).2 e))
    have hfin := hP3.put ho2 ht2 hs3 (fun g hg => ⟨.inl (hf g hg).1, (hf g hg).2⟩) (fun x hx => absurd hx (by simp))
    have hb3 : Bn (W.setCell ⟨X, 0, none⟩ (.map (some (w.heap.size + 1)))).drew X (.map (some (w.heap.size + 1)) :: cs) := hb2.set (i := 0) (by simp) _
    have hb4 : Bn w2 X (.map (some (w.heap.size + 1)) :: cs) := hb3.blk (ht2.grown.block X (by show X < (W.setCell _ _).heap.size; simp; omega) (fun e => by have := Option.some.inj e; omega))
    have hk : Kf F w w2 := (((Kf.of hbw (Nat.le_refl _)).set hX _).drew).transN (Kf.grown ht2.grown (fun k hk => by have := Option.some.inj hk; subst this; exact Or.inr (by omega)))
    have E0 : (W.setCell ⟨X, 0, none⟩ (.map (some (w.heap.size + 1)))).cell? ⟨X, 0, none⟩ = some (.map (some (w.heap.size + 1))) := cell_same4 C1
    have E1 : (W.setCell ⟨X, 0, none⟩ (.map (some (w.heap.size + 1)))).cell? ⟨w.heap.size, 0, none⟩ = some sv := cell_far4 (by omega) y0
    have E2 : (W.setCell ⟨X, 0, none⟩ (.map (some (w.heap.size + 1)))).cell? ⟨w.heap.size, 1, none⟩ = some (.int .i64 (sn : Int)) := cell_far4 (by omega) y1
    have V0 : (W.setCell ⟨X, 0, none⟩ (.map (some (w.heap.size + 1)))).drew.cell? ⟨X, 0, none⟩ = some (.map (some (w.heap.size + 1))) := E0
    have V1 : (W.setCell ⟨X, 0, none⟩ (.map (some (w.heap.size + 1)))).drew.cell? ⟨w.heap.size, 0, none⟩ = some sv := E1
    have V2 : (W.setCell ⟨X, 0, none⟩ (.map (some (w.heap.size + 1)))).drew.cell? ⟨w.heap.size, 1, none⟩ = some (.int .i64 (sn : Int)) := E2
    have Z0 : w2.cell? ⟨X, 0, none⟩ = some (.map (some (w.heap.size + 1))) := (World.cell?_of_block (a := ⟨X, 0, none⟩) (ht2.grown.block X (by show X < (W.setCell _ _).heap.size; simp; omega) (fun e => by have := Option.some.inj e; omega))).trans E0
    have Z1 : w2.cell? ⟨w.heap.size, 0, none⟩ = some sv := (World.cell?_of_block (a := ⟨w.heap.size, 0, none⟩) (ht2.grown.block w.heap.size (by show w.heap.size < (W.setCell _ _).heap.size; simp; omega) (fun e => by have := Option.some.inj e; omega))).trans E1
    have Z2 : w2.cell? ⟨w.heap.size, 1, none⟩ = some (.int .i64 (sn : Int)) := (World.cell?_of_block (a := ⟨w.heap.size, 1, none⟩) (ht2.grown.block w.heap.size (by show w.heap.size < (W.setCell _ _).heap.size; simp; omega) (fun e => by have := Option.some.inj e; omega))).trans E2
    have HF := hideD (And.intro hb4 (And.intro hfin hk))
    clear ho0 ho1 ho2 ht2 hP3 hs2 hs3 hfin hb2 hb3 hb4 hk hbw hB h hs hs' hal2 hal hBx hf ha hmono y0 y1
    unfold cv at hr2
    have hq := eqlNil
    go_enter Try.func54, Try.ntmps54
    unfold cv
    go_wp2
    go_region_held_law (fun w' => w'.cell? ⟨X, 0, none⟩ = some (.map (some (w.heap.size + 1))) ∧ w'.cell? ⟨w.heap.size, 0, none⟩ = some sv ∧ w'.cell? ⟨w.heap.size, 1, none⟩ = some (.int .i64 (sn : Int)))
      (first | (with_reducible exact ⟨E0, E1, E2⟩) | (with_reducible exact ⟨Z0, Z1, Z2⟩) | (with_reducible exact ⟨V0, V1, V2⟩)) (fail)
    go_end0
    exact ⟨rfl, ⟨_, HF.out.1, HF.out.2.1⟩, HF.out.2.2⟩
  | some b =>
    have ho : w.ownsMap Try.prog 3 hR b (esV E).length (.map (esD (esV E))) := by
      rcases h.m with ⟨e, _⟩ | ⟨b', e, ho⟩
      · cases e
      · cases e
        exact ho
    have ho1 := ((ho.alloc (.cells #[sv, .int .i64 (sn : Int)] 93)).drew)
    obtain ⟨w2, hr2, ho2, ht2⟩ := dl_some (v := cv (sv, sb, sn)) ho1 (ris_esV h.r) (by rw [esV_len]; exact hl) hn
    have hP3 : PRx (w.alloc (.cells #[sv, .int .i64 (sn : Int)] 93)).drew X (nF F w) (some b) E n := (h.on hal (fun j _ hj => Or.inl hj)).keep (fun _ _ h => h) (fun _ _ _ => rfl) (fun _ _ _ _ _ _ => rfl)
    have hfin := hP3.put ho2 ht2 hs' (fun g hg => ⟨.inl (hf g hg).1, (hf g hg).2⟩) ha
    have hbX := (h.fm b rfl).2
    have hb4 : Bn w2 X (.map (some b) :: cs) := (hB.on hal).blk (ht2.grown.block X (by show X < (w.alloc _).heap.size; simp; omega) (fun e => hbX (Option.some.inj e).symm))
    have hk : Kf F w w2 := ((Kf.of hal (Nat.le_refl _)).drew).trans (Kf.grown ht2.grown (fun k hk => by have := Option.some.inj hk; subst this; exact (h.fm _ rfl).1))
    have hbl := ho.lt
    have V0 : (w.alloc (.cells #[sv, .int .i64 (sn : Int)] 93)).drew.cell? ⟨X, 0, none⟩ = some (.map (some b)) := C0
    have V1 : (w.alloc (.cells #[sv, .int .i64 (sn : Int)] 93)).drew.cell? ⟨w.heap.size, 0, none⟩ = some sv := x0
    have V2 : (w.alloc (.cells #[sv, .int .i64 (sn : Int)] 93)).drew.cell? ⟨w.heap.size, 1, none⟩ = some (.int .i64 (sn : Int)) := x1
    have Z0 : w2.cell? ⟨X, 0, none⟩ = some (.map (some b)) := (World.cell?_of_block (a := ⟨X, 0, none⟩) (ht2.grown.block X (by show X < (w.alloc _).heap.size; simp; omega) (fun e => hbX (Option.some.inj e).symm))).trans C0
    have Z1 : w2.cell? ⟨w.heap.size, 0, none⟩ = some sv := (World.cell?_of_block (a := ⟨w.heap.size, 0, none⟩) (ht2.grown.block w.heap.size (by show w.heap.size < (w.alloc _).heap.size; simp) (fun e => by have := Option.some.inj e; omega))).trans x0
    have Z2 : w2.cell? ⟨w.heap.size, 1, none⟩ = some (.int .i64 (sn : Int)) := (World.cell?_of_block (a := ⟨w.heap.size, 1, none⟩) (ht2.grown.block w.heap.size (by show w.heap.size < (w.alloc _).heap.size; simp) (fun e => by have := Option.some.inj e; omega))).trans x1
    have HF := hideD (And.intro hb4 (And.intro hfin hk))
    clear ho ho1 ho2 ht2 hP3 hs' hfin hb4 hk hal hB h hs hBx hf ha hmono
    unfold cv at hr2
    have hq := eqlSome b
    go_enter Try.func54, Try.ntmps54
    unfold cv
    go_wp2
    go_region_held_law (fun w' => w'.cell? ⟨X, 0, none⟩ = some (.map (some b)) ∧ w'.cell? ⟨w.heap.size, 0, none⟩ = some sv ∧ w'.cell? ⟨w.heap.size, 1, none⟩ = some (.int .i64 (sn : Int)))
      (first | (with_reducible exact ⟨C0, x0, x1⟩) | (with_reducible exact ⟨Z0, Z1, Z2⟩) | (with_reducible exact ⟨V0, V1, V2⟩)) (fail)
    go_end0
    exact ⟨rfl, ⟨_, HF.out.1, HF.out.2.1⟩, HF.out.2.2⟩

theorem slice_form {w : World} {base e : Nat} {v : Value} {xs : List Int} (h : Own w base e v xs) : ∃ a cap, v = .slice a xs.length cap ∧ xs.length ≤ cap ∧ cap ≤ maxLen := by
  rcases h.2 with ⟨h1, h2⟩ | ⟨g, cap, cur, h1, _, _, h3, h4, _⟩
  · exact ⟨none, 0, by rw [h1, h2], by omega, by simp [maxLen]⟩
  · exact ⟨_, _, h1, h3, h4⟩
theorem PR.del {w w' : World} {X b : Nat} {F : Nat → Prop} {E : List (Int × Sv)} {n : Int} (h : PR w X F (some b) E) (ho : w'.ownsMap Try.prog 3 hR b (dl n (esV E)).length (.map (esD (dl n (esV E))))) (ht : w.mapTurned w' b) : PR w' X F (some b) (dl n E) := by
  obtain ⟨es0, cl0, es1, cl1, hb0, _⟩ := id ht
  have hkeep : ∀ {v : Value} {xs : List Int}, Own w 0 5 v xs → Own w' 0 5 v xs := fun {v xs} hv => ownD_keep hv (fun g hg => ht.grown.block g (ownsRow_lt hv g hg).2 (fun e => by
    have e : g = b := Option.some.inj e
    subst e
    rcases hv.2 with ⟨rfl, _⟩ | ⟨g', cap, cur, rfl, _, hc, _⟩
    · simp [Value.ownBlock] at hg
    · have : g' = g := by simpa [Value.ownBlock] using hg
      subst this
      rw [hb0] at hc
      cases hc))
  exact ⟨ris_dl h.r, .inr ⟨b, rfl, by rw [← esV_dl]; exact ho⟩, h.fm, fun x hx => ⟨hkeep (h.s x (mem_dl.1 hx).1).1, (h.s x (mem_dl.1 hx).1).2⟩, h.a.filter _⟩

theorem dfind_res {w : World} {R : Nat} {a b x : Value} {tmps : Array Value} (hR : Bn w R [a, b]) (ht : tmps.getD 4 undef = .pointer (some ⟨R, 0, none⟩)) (hx : tmps.getD 5 undef = x) : (results Try.f59 tmps).run Try.prog w = .ok (.tuple #[.agg #[a, b], x]) w := by
  obtain ⟨c0, _⟩ := hR 0 _ rfl
  obtain ⟨c1, _⟩ := hR 1 _ rfl
  have ht' : tmps[4]?.getD undef = .pointer (some ⟨R, 0, none⟩) := by simpa using ht
  have hx' : tmps[5]?.getD undef = x := by simpa using hx
  simp [results, Try.results59, go_sem, ht', hx', c0, c1]
theorem doper_res {w : World} {R : Nat} {a b x : Value} {tmps : Array Value} (hR : Bn w R [a, b]) (ht : tmps.getD 4 undef = .pointer (some ⟨R, 0, none⟩)) (hx : tmps.getD 5 undef = x) : (results Try.f69 tmps).run Try.prog w = .ok (.tuple #[.agg #[a, b], x]) w := by
  obtain ⟨c0, _⟩ := hR 0 _ rfl
  obtain ⟨c1, _⟩ := hR 1 _ rfl
  have ht' : tmps[4]?.getD undef = .pointer (some ⟨R, 0, none⟩) := by simpa using ht
  have hx' : tmps[5]?.getD undef = x := by simpa using hx
  simp [results, Try.results69, go_sem, ht', hx', c0, c1]
/-- What lies in a segment, and the error. -/
def fdE (dead : Bool) (n : Int) (E : List (Int × Sv)) : Sv × Int := if dead then (zC, 8) else match lk n E with | none => (zC, 5) | some s => (s, 0)
theorem Bn2.new {w : World} (a b : Value) : Bn (w.alloc (.cells #[a, b] 93)) w.heap.size [a, b] := Bn.new w [a, b] _ _ rfl
set_option maxRecDepth 100000 in
set_option maxHeartbeats 4000000 in
theorem dfind_any {w : World} {X : Nat} {F : Nat → Prop} {d : Dk} {mv : Option Nat} {E : List (Int × Sv)} (h : PDE w X F d mv E) {n : Int} (hn : (Lit.int .i64 n).wf = true) :
    Calls Try.prog 59 #[.pointer (some ⟨X, 0, none⟩), .int .i64 n] w fun e w' => e = .returned (.tuple #[cv (fdE d.dead n E).1, .int .i64 (fdE d.dead n E).2]) ∧ Below w.heap.size w w' := by
  obtain ⟨fz, h1, h2, h3, h4, h5⟩ := h
  have hXl := h4.lt
  have hal : Below w.heap.size w (w.alloc (.cells #[.slice none 0 0, .int .i64 0] 93)) := (Below.refl _ _).alloc (Nat.le_refl _) _
  have hB1 := h4.on hal
  have hR1 : Bn (w.alloc (.cells #[.slice none 0 0, .int .i64 0] 93)) w.heap.size [.slice none 0 0, .int .i64 0] := Bn2.new _ _
  obtain ⟨r0, q0⟩ := hR1 0 _ rfl
  obtain ⟨r1, q1⟩ := hR1 1 _ rfl
  obtain ⟨c0, f0⟩ := hB1 0 _ rfl
  obtain ⟨c3, f3⟩ := hB1 3 _ rfl
  have hlook := (h3.on hal).m.lookOk hn
  have hsl : ∀ s, lk n E = some s → ∃ a cap, s.1 = .slice a s.2.1.length cap := fun s hs => by
    obtain ⟨a, cap, e, _, _⟩ := slice_form (h3.s _ (lk_mem hs)).1
    exact ⟨a, cap, e⟩
  have hsz : (w.alloc (.cells #[.slice none 0 0, .int .i64 0] 93)).heap.size = w.heap.size + 1 := by simp
  clear h2 h3 h4
  by_cases hd : d.dead = true
  · have e : fdE d.dead n E = (zC, 8) := if_pos hd
    rw [e]
    rw [hd] at c3
    clear hlook e hsl
    go_enter Try.func59, Try.ntmps59
    go_upto_region 1 with fail
    generalize w.alloc (.cells #[.slice none 0 0, .int .i64 0] 93) = w1 at *
    have HR := hideD (show ∀ u v : Value, Bn ((w1.setCell ⟨w.heap.size, 0, none⟩ u).setCell ⟨w.heap.size, 1, none⟩ v) w.heap.size [u, v] from fun u v => (hR1.set (i := 0) (by simp) u).set (i := 1) (by simp) v)
    have HS := hideD (show ∀ u v : Value, Below w.heap.size w ((w1.setCell ⟨w.heap.size, 0, none⟩ u).setCell ⟨w.heap.size, 1, none⟩ v) from fun u v => (hal.setCell (Nat.le_refl _) _).setCell (Nat.le_refl _) _)
    have HB1 := hideD hR1
    have HAL := hideD hal
    clear hB1 hR1 hal
    go_wp2
    exact bodyPost_ret (dfind_res (HR.out _ _) rfl rfl) rfl ⟨rfl, HS.out _ _⟩
  have hd : d.dead = false := by simpa using hd
  rw [hd] at c3
  have e : fdE d.dead n E = match lk n E with | none => (zC, 5) | some s => (s, 0) := if_neg (by simp [hd])
  rw [e]
  clear e
  cases hk : lk n E with
  | none =>
    rw [hk] at hlook
    simp only [Option.getD_none, Option.isSome_none] at hlook ⊢
    unfold cv zC at hlook
    simp only at hlook
    clear hk hsl
    go_enter Try.func59, Try.ntmps59
    go_upto_region 1 with fail
    generalize w.alloc (.cells #[.slice none 0 0, .int .i64 0] 93) = w1 at *
    have HR := hideD (show ∀ u v : Value, Bn ((w1.setCell ⟨w.heap.size, 0, none⟩ u).setCell ⟨w.heap.size, 1, none⟩ v) w.heap.size [u, v] from fun u v => (hR1.set (i := 0) (by simp) u).set (i := 1) (by simp) v)
    have HS := hideD (show ∀ u v : Value, Below w.heap.size w ((w1.setCell ⟨w.heap.size, 0, none⟩ u).setCell ⟨w.heap.size, 1, none⟩ v) from fun u v => (hal.setCell (Nat.le_refl _) _).setCell (Nat.le_refl _) _)
    have HB1 := hideD hR1
    have HAL := hideD hal
    clear hB1 hR1 hal
    go_wp2
    exact bodyPost_ret (dfind_res ((HR.out _ _).on ((Below.refl _ _).alloc (Nat.le_refl _) _)) rfl rfl) rfl ⟨rfl, (HS.out _ _).alloc (by simp; omega) _⟩
  | some s =>
    rw [hk] at hlook
    simp only [Option.getD_some, Option.isSome_some] at hlook ⊢
    obtain ⟨a0, cap0, hs0⟩ := hsl s hk
    obtain ⟨sv, sb, sn⟩ := s
    simp only at hs0
    subst hs0
    unfold cv at hlook
    simp only at hlook
    clear hk hsl
    go_enter Try.func59, Try.ntmps59
    go_upto_region 1 with fail
    generalize w.alloc (.cells #[.slice none 0 0, .int .i64 0] 93) = w1 at *
    have HR := hideD (show ∀ u v : Value, Bn ((w1.setCell ⟨w.heap.size, 0, none⟩ u).setCell ⟨w.heap.size, 1, none⟩ v) w.heap.size [u, v] from fun u v => (hR1.set (i := 0) (by simp) u).set (i := 1) (by simp) v)
    have HS := hideD (show ∀ u v : Value, Below w.heap.size w ((w1.setCell ⟨w.heap.size, 0, none⟩ u).setCell ⟨w.heap.size, 1, none⟩ v) from fun u v => (hal.setCell (Nat.le_refl _) _).setCell (Nat.le_refl _) _)
    have HB1 := hideD hR1
    have HAL := hideD hal
    clear hB1 hR1 hal
    go_wp2
    exact bodyPost_ret (dfind_res ((HR.out _ _).on ((Below.refl _ _).alloc (Nat.le_refl _) _)) rfl rfl) rfl ⟨rfl, (HS.out _ _).alloc (by simp; omega) _⟩

def cF (F : Nat → Prop) (w : World) : Nat → Prop := fun j => F j ∧ j < w.heap.size
theorem PDE.clip {w : World} {X : Nat} {F : Nat → Prop} {d : Dk} {mv : Option Nat} {E : List (Int × Sv)} (h : PDE w X F d mv E) : PDE w X (cF F w) d mv E := h.mono (fun j hj hF => ⟨hF, hj⟩)
theorem PDE.wide {w w0 : World} {X : Nat} {F : Nat → Prop} {d : Dk} {mv : Option Nat} {E : List (Int × Sv)} (h : PDE w X (cF F w0) d mv E) : PDE w X F d mv E := h.mono (fun j hj hF => hF.1)
theorem Kf.wide {F : Nat → Prop} {w0 w w' : World} (h : Kf (cF F w0) w w') : Kf F w w' := h.mono (fun j hF => hF.1)
/-- New blocks stay where only those of F turn that were there. -/
theorem Bn.kf {w w' w0 : World} {Y : Nat} {F : Nat → Prop} {c : Value} {cs : List Value} (h : Bn w Y (c :: cs)) (hk : Kf (cF F w0) w w') (hY : w0.heap.size ≤ Y) : Bn w' Y (c :: cs) := h.blk (hk.block Y h.lt (fun e => by have := e.2; omega))
/-- An operation's segment, and the error. -/
def opE (d : Dk) (n : Int) (E : List (Int × Sv)) : Sv × Int := if (fdE d.dead n E).2 ≠ 0 then (zC, (fdE d.dead n E).2) else if d.fuse = 0 then (zC, 8) else ((fdE d.dead n E).1, 0)
def opD (d : Dk) (n : Int) (E : List (Int × Sv)) : Dk := if (fdE d.dead n E).2 ≠ 0 then d else brn d
theorem fdE_form {d : Dk} {n : Int} {E : List (Int × Sv)} {w : World} {X : Nat} {F : Nat → Prop} {mv : Option Nat} (h : PR w X F mv E) : ∃ a cap, (fdE d.dead n E).1.1 = .slice a (fdE d.dead n E).1.2.1.length cap := by
  unfold fdE
  split
  · exact ⟨none, 0, rfl⟩
  · cases hk : lk n E with
    | none => exact ⟨none, 0, rfl⟩
    | some s =>
      obtain ⟨a, cap, e, _, _⟩ := slice_form (h.s _ (lk_mem hk)).1
      exact ⟨a, cap, e⟩
set_option maxRecDepth 100000 in
set_option maxHeartbeats 4000000 in
theorem doper_any {w : World} {X : Nat} {F : Nat → Prop} {d : Dk} {mv : Option Nat} {E : List (Int × Sv)} (h0 : PDE w X F d mv E) (hd : d.fuse ≤ 9223372036854775807) {n : Int} (hn : (Lit.int .i64 n).wf = true) :
    Calls Try.prog 69 #[.pointer (some ⟨X, 0, none⟩), .int .i64 n] w fun e w' => e = .returned (.tuple #[cv (opE d n E).1, .int .i64 (opE d n E).2]) ∧ PDE w' X F (opD d n E) mv E ∧ Kf F w w' := by
  have h := h0.clip
  have hal : Below w.heap.size w (w.alloc (.cells #[.slice none 0 0, .int .i64 0] 93)) := (Below.refl _ _).alloc (Nat.le_refl _) _
  have hR1 : Bn (w.alloc (.cells #[.slice none 0 0, .int .i64 0] 93)) w.heap.size [.slice none 0 0, .int .i64 0] := Bn2.new _ _
  have hP1 := h.on hal
  have hsz : (w.alloc (.cells #[.slice none 0 0, .int .i64 0] 93)).heap.size = w.heap.size + 1 := by simp
  obtain ⟨a0, cap0, hform⟩ := fdE_form (d := d) (n := n) (by obtain ⟨_, _, _, h3, _⟩ := h; exact h3)
  have hfn := dfind_any hP1 hn
  obtain ⟨⟨fv, fb, fs⟩, fe, hfe⟩ : ∃ (a : Sv) (b : Int), fdE d.dead n E = (a, b) := ⟨_, _, rfl⟩
  obtain ⟨ov, oe, hoe⟩ : ∃ a b, opE d n E = (a, b) := ⟨_, _, rfl⟩
  obtain ⟨od, hod⟩ : ∃ x, opD d n E = x := ⟨_, rfl⟩
  rw [hoe, hod]
  unfold opE at hoe
  unfold opD at hod
  rw [hfe] at hfn hform hoe hod
  simp only at hform hfn hoe hod
  subst hform
  have HOE := hideD hoe
  have HOD := hideD hod
  have HD := hideD hd
  clear hoe hod hfe h h0 hd
  unfold cv at hfn
  go_enter Try.func69, Try.ntmps69
  go_upto_region 1 with fail
  generalize w.alloc (.cells #[.slice none 0 0, .int .i64 0] 93) = w1 at *
  go_upto_region 2 with (first
    | (go_at_call 59; refine hfn.mono ?_; rintro e w2 ⟨rfl, b2⟩; clear hfn)
    | fail)
  have b3 : Below w2.heap.size w2 (w2.alloc (.cells #[.slice a0 fb.length cap0, .int .i64 (fs : Int)] 93)) := (Below.refl _ _).alloc (Nat.le_refl _) _
  have hR3 := (hR1.on b2).on b3
  have hT3 : Bn (w2.alloc (.cells #[.slice a0 fb.length cap0, .int .i64 (fs : Int)] 93)) w2.heap.size [.slice a0 fb.length cap0, .int .i64 (fs : Int)] := Bn2.new _ _
  have hP3 := (hP1.on b2).on b3
  have hl2 := b2.size
  have hbw : Below w.heap.size w (w2.alloc (.cells #[.slice a0 fb.length cap0, .int .i64 (fs : Int)] 93)) := (hal.trans (b2.mono (by omega))).trans (b3.mono (by omega))
  obtain ⟨Z, hZ⟩ : ∃ Z, w2.heap.size = Z := ⟨_, rfl⟩
  rw [hZ] at hT3
  generalize w2.alloc (.cells #[.slice a0 fb.length cap0, .int .i64 (fs : Int)] 93) = w3 at *
  have hZw : w.heap.size < Z := by omega
  simp only [hZ]
  clear hP1 hR1 hal b2 b3 hl2 hsz hZ
  obtain ⟨r0, q0⟩ := hR3 0 _ rfl
  obtain ⟨r1, q1⟩ := hR3 1 _ rfl
  have HR := hideD (show ∀ W u v, Bn W w.heap.size [.slice none 0 0, .int .i64 0] → Bn ((W.setCell ⟨w.heap.size, 0, none⟩ u).setCell ⟨w.heap.size, 1, none⟩ v) w.heap.size [u, v] from fun W u v h => (h.set (i := 0) (by simp) u).set (i := 1) (by simp) v)
  have HP := hideD hP3
  have HB := hideD hbw
  have HR3 := hideD hR3
  have HT3 := hideD hT3
  clear hP3 hbw hR3 hT3
  have hend : ∀ (W : World) (u v : Value) (D : Dk), PDE W X (cF F w) D mv E → Kf (cF F w) w W → PDE ((W.setCell ⟨w.heap.size, 0, none⟩ u).setCell ⟨w.heap.size, 1, none⟩ v) X F D mv E ∧ Kf F w ((W.setCell ⟨w.heap.size, 0, none⟩ u).setCell ⟨w.heap.size, 1, none⟩ v) := fun W u v D h k => by
    refine ⟨(h.keep (fun b hb hlt => ?_)).wide, ?_⟩
    · rw [Below.heap_setCell _ _ _ _ (fun e => by have := hb.2; have : b = w.heap.size := e; omega), Below.heap_setCell _ _ _ _ (fun e => by have := hb.2; have : b = w.heap.size := e; omega)]
    · have k2 : Below w.heap.size W ((W.setCell ⟨w.heap.size, 0, none⟩ u).setCell ⟨w.heap.size, 1, none⟩ v) := ((Below.refl w.heap.size W).setCell (p := ⟨w.heap.size, 0, none⟩) (Nat.le_refl _) u).setCell (p := ⟨w.heap.size, 1, none⟩) (Nat.le_refl _) v
      exact ⟨k2.os.trans k.os, k2.tape.trans k.tape, k2.output.trans k.output, Nat.le_trans k.size k2.size, fun j hj hn => (k2.block j hj).trans (k.block j hj (fun e => hn e.1))⟩
  have HE := hideD hend
  clear hend
  by_cases hf : fe = 0
  · subst hf
    have hbn := dburn_any HP.out HD.out
    by_cases hz : d.fuse = 0
    · rw [if_pos hz] at hbn
      go_wp2_with (first
        | (go_at_call 53; refine hbn.mono ?_; rintro e w4 ⟨rfl, p4, k4⟩; clear hbn; have hR4 := HR3.out.kf k4 (Nat.le_refl _); obtain ⟨r0, q0⟩ := hR4 0 _ rfl; obtain ⟨r1, q1⟩ := hR4 1 _ rfl; have HP4 := hideD p4; have HR4 := hideD hR4; have HK4 := hideD ((Kf.of HB.out (Nat.le_refl _)).trans k4); clear p4 hR4 k4)
        | fail)
      have e1 := HOE.out
      rw [if_neg (by simp), if_pos hz] at e1
      have e2 := HOD.out
      rw [if_neg (by simp)] at e2
      cases e1
      subst e2
      exact bodyPost_ret (doper_res (HR.out _ _ _ HR4.out) rfl rfl) rfl ⟨rfl, HE.out _ _ _ _ HP4.out HK4.out⟩
    · rw [if_neg hz] at hbn
      go_wp2_with (first
        | (go_at_call 53; refine hbn.mono ?_; rintro e w4 ⟨rfl, p4, k4⟩; clear hbn; have hR4 := HR3.out.kf k4 (Nat.le_refl _); have hT4 := HT3.out.kf k4 (Nat.le_of_lt hZw); obtain ⟨r0, q0⟩ := hR4 0 _ rfl; obtain ⟨r1, q1⟩ := hR4 1 _ rfl; obtain ⟨t0, _⟩ := hT4 0 _ rfl; obtain ⟨t1, _⟩ := hT4 1 _ rfl; have HP4 := hideD p4; have HR4 := hideD hR4; have HK4 := hideD ((Kf.of HB.out (Nat.le_refl _)).trans k4); clear p4 hR4 k4 hT4)
        | fail)
      have e1 := HOE.out
      rw [if_neg (by simp), if_neg hz] at e1
      have e2 := HOD.out
      rw [if_neg (by simp)] at e2
      cases e1
      subst e2
      exact bodyPost_ret (doper_res (HR.out _ _ _ HR4.out) rfl rfl) rfl ⟨rfl, HE.out _ _ _ _ HP4.out HK4.out⟩
  · go_wp2
    have e1 := HOE.out
    rw [if_pos hf] at e1
    have e2 := HOD.out
    rw [if_pos hf] at e2
    cases e1
    subst e2
    exact bodyPost_ret (doper_res (HR.out _ _ _ HR3.out) rfl rfl) rfl ⟨rfl, HE.out _ _ _ _ HP.out (Kf.of HB.out (Nat.le_refl _))⟩
end Go.Proofs.Ytajhombbkdlegaa
