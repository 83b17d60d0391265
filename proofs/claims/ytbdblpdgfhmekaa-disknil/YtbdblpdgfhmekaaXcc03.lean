import Derived.Test.YtbdblpdgfhmekaaXcc02
import Derived.Carry
import Derived.WalkSmall
import Derived.BigQuiet
import Derived.Deep.QuietTactic
import Derived.Deep.DeepCutAuto
import Derived.Deep.RegionHeldLaw
import Derived.Deep.RegionLaw
import Derived.Deep.Cut
import Derived.Lib.SlBytesConst

/- The program's disk in memory. -/
namespace Go.Proofs.Ytbdblpdgfhmekaa
open Go.RowKit Go.Lib Go.Maps
set_option linter.unusedSimpArgs false
set_option linter.unusedVariables false

/-- Nothing but blocks of F has turned, and new blocks. -/
structure Kf (F : Nat → Prop) (w w' : World) : Prop where
  os : w'.os = w.os
  tape : w'.tape = w.tape
  output : w'.output = w.output
  size : w.heap.size ≤ w'.heap.size
  block : ∀ k, k < w.heap.size → ¬ F k → w'.heap[k]? = w.heap[k]?
theorem Kf.refl (F : Nat → Prop) (w : World) : Kf F w w := ⟨rfl, rfl, rfl, Nat.le_refl _, fun _ _ _ => rfl⟩
/-- What is there of F, and what is new since w. -/
def nF (F : Nat → Prop) (w : World) : Nat → Prop := fun j => F j ∨ w.heap.size ≤ j
theorem Kf.trans {F : Nat → Prop} {a b c : World} (h : Kf F a b) (k : Kf F b c) : Kf F a c :=
  ⟨k.os.trans h.os, k.tape.trans h.tape, k.output.trans h.output, Nat.le_trans h.size k.size, fun j hj hn => (k.block j (Nat.lt_of_lt_of_le hj h.size) hn).trans (h.block j hj hn)⟩
theorem Kf.transN {F : Nat → Prop} {a b c : World} (h : Kf F a b) (k : Kf (nF F a) b c) : Kf F a c :=
  ⟨k.os.trans h.os, k.tape.trans h.tape, k.output.trans h.output, Nat.le_trans h.size k.size, fun j hj hn => (k.block j (Nat.lt_of_lt_of_le hj h.size) (fun e => e.elim hn (fun e => by omega))).trans (h.block j hj hn)⟩
theorem Kf.of {F : Nat → Prop} {B : Nat} {a b : World} (h : Below B a b) (hB : a.heap.size ≤ B) : Kf F a b := ⟨h.os, h.tape, h.output, h.size, fun k hk _ => h.block k (by omega)⟩
theorem Kf.grown {F : Nat → Prop} {a b : World} {row : Option Nat} (h : a.grownBy b row) (hr : ∀ k, row = some k → F k) : Kf F a b := ⟨h.os, h.tape, h.output, h.size, fun k hk hn => h.block k hk (fun e => hn (hr k e.symm))⟩
theorem Kf.set {F : Nat → Prop} {X i : Nat} {a b : World} (h : Kf F a b) (hX : F X) (u : Value) : Kf F a (b.setCell ⟨X, i, none⟩ u) :=
  ⟨h.os, h.tape, h.output, by simpa using h.size, fun k hk hn => (Below.heap_setCell _ _ _ _ (fun e => hn (by have : k = X := e; rw [this]; exact hX))).trans (h.block k hk hn)⟩
theorem Kf.alloc {F : Nat → Prop} {a b : World} (h : Kf F a b) (o : Obj) : Kf F a (b.alloc o) := h.trans (Kf.of ((Below.refl b.heap.size b).alloc (Nat.le_refl _) o) (Nat.le_refl _))
theorem Kf.drew {F : Nat → Prop} {a b : World} (h : Kf F a b) : Kf F a b.drew := ⟨h.os, h.tape, h.output, h.size, h.block⟩
theorem Kf.drewN {F : Nat → Prop} {a b : World} (h : Kf F a b) (m : Nat) : Kf F a (b.drewN m) := ⟨h.os, h.tape, h.output, h.size, h.block⟩
theorem Kf.mono {F G : Nat → Prop} {a b : World} (h : Kf F a b) (hs : ∀ j, F j → G j) : Kf G a b := ⟨h.os, h.tape, h.output, h.size, fun k hk hn => h.block k hk (fun e => hn (hs k e))⟩
theorem Kf.below {F : Nat → Prop} {B : Nat} {a b : World} (h : Kf F a b) (hF : ∀ j, F j → B ≤ j) (hB : B ≤ a.heap.size) : Below B a b := ⟨h.os, h.tape, h.output, h.size, fun k hk => h.block k (by omega) (fun e => by have := hF k e; omega)⟩

/-- A segment as the program has it: the slice of its bytes, its bytes, how many of them are synced. -/
abbrev Sv := Value × List Int × Nat
abbrev Sm := List Int × Nat
def cv (x : Sv) : Value := .agg #[x.1, .int .i64 (x.2.2 : Int)]
def zC : Sv := (.slice none 0 0, [], 0)
def esV (E : List (Int × Sv)) : List (Int × Value) := E.map fun x => (x.1, cv x.2)
def mmE (E : List (Int × Sv)) : List (Int × Sm) := E.map fun x => (x.1, x.2.2)
theorem esV_pt (n : Int) (s : Sv) (E : List (Int × Sv)) : esV (pt n s E) = pt n (cv s) (esV E) := pt_map (fun x => cv x.2) cv (fun _ => rfl) n s E
theorem mmE_pt (n : Int) (s : Sv) (E : List (Int × Sv)) : mmE (pt n s E) = pt n s.2 (mmE E) := pt_map (fun x : Int × Sv => x.2.2) (fun y : Sv => y.2) (fun _ => rfl) n s E
theorem esV_lk (n : Int) (E : List (Int × Sv)) : lk n (esV E) = (lk n E).map cv := lk_map (fun x => cv x.2) cv (fun _ => rfl) n E
theorem mmE_lk (n : Int) (E : List (Int × Sv)) : lk n (mmE E) = (lk n E).map (·.2) := lk_map (fun x : Int × Sv => x.2.2) (fun y : Sv => y.2) (fun _ => rfl) n E
theorem esV_dl (n : Int) (E : List (Int × Sv)) : dl n (esV E) = esV (dl n E) := dl_map (fun x => cv x.2) n E
theorem ris_esV {E : List (Int × Sv)} (h : Ris E) : Ris (esV E) := List.pairwise_map.2 h
theorem ris_mmE {E : List (Int × Sv)} (h : Ris E) : Ris (mmE E) := List.pairwise_map.2 h

theorem u8_info : (Try.prog.info? 5).map (fun i => (i.zero, i.size, i.bytes)) = some (some (.int .u8 0), 1, 1) := by kernel_rfl
theorem u8_inf : ∃ i, Try.prog.info? 5 = some i ∧ i.zero = some (.int .u8 0) ∧ i.size = 1 ∧ i.bytes = 1 := by
  have h := u8_info
  cases hq : Try.prog.info? 5 with
  | none => rw [hq] at h; cases h
  | some i =>
    rw [hq] at h
    simp only [Option.map_some, Option.some.injEq, Prod.mk.injEq] at h
    exact ⟨i, rfl, h.1, h.2.1, h.2.2⟩

/-- The map's value in memory. -/
def MapO (w : World) (mv : Option Nat) (l : List (Int × Value)) : Prop := (mv = none ∧ l = []) ∨ ∃ b, mv = some b ∧ w.ownsMap Try.prog 3 hR b l.length (.map (esD l))
theorem keyI {n : Int} (hn : (Lit.int .i64 n).wf = true) : keyOf Try.prog 3 (.int .i64 n) = some (.int .i64 n) := keyOf_int_mk Try.underlying3 hn
theorem zeroC (w : World) : (zeroValue 63).run Try.prog w = .ok (cv zC) w := Try.zeroValue63 w
theorem MapO.look {w : World} {mv : Option Nat} {E : List (Int × Sv)} (h : MapO w mv (esV E)) {n : Int} (hn : (Lit.int .i64 n).wf = true) :
    (Instr.lookup 50 (.map mv) (.int .i64 n) false).run Try.prog w = .ok (cv ((lk n E).getD zC)) w := by
  rcases h with ⟨rfl, he⟩ | ⟨b, rfl, ho⟩
  · have : E = [] := List.eq_nil_of_length_eq_zero (by have := congrArg List.length he; simpa [esV] using this)
    subst this
    rw [Maps.look_nil false (int_keyed Try.underlying3) Try.underlying50 (zeroC w) (keyI hn)]
    rfl
  · obtain ⟨v, ps, hr, hv⟩ := ho.lookup (int_keyed Try.underlying3) Try.underlying50 (zeroC w) (zd := .held (cv zC)) (zp := []) rfl (keyI hn)
    rw [atD, esV_lk] at hv
    simp only [hR, Option.some.injEq, Prod.mk.injEq, DataW.held.injEq] at hv
    rw [hr, hv.1]
    cases lk n E <;> rfl
theorem MapO.keep {w w' : World} {mv : Option Nat} {l : List (Int × Value)} (h : MapO w mv l) (hk : ∀ b, mv = some b → b < w.heap.size → w'.heap[b]? = w.heap[b]?) : MapO w' mv l := by
  rcases h with h | ⟨b, rfl, ho⟩
  · exact .inl h
  · have hlt := ho.lt
    obtain ⟨es, clock, hb, F, hs, hD⟩ := ho
    exact .inr ⟨b, rfl, es, clock, (hk b rfl hlt).trans hb, F, hs, hD⟩
/-- The map, and the segments' bytes: all in blocks of F, but not in X. -/
structure PR (w : World) (X : Nat) (F : Nat → Prop) (mv : Option Nat) (E : List (Int × Sv)) : Prop where
  r : Ris E
  m : MapO w mv (esV E)
  fm : ∀ b, mv = some b → F b ∧ b ≠ X
  s : ∀ x ∈ E, Own w 0 5 x.2.1 x.2.2.1 ∧ ∀ g, x.2.1.ownBlock = some g → F g ∧ g ≠ X
  a : E.Pairwise fun x y => ∀ g, x.2.1.ownBlock = some g → y.2.1.ownBlock ≠ some g
theorem own_keep {w w' : World} {base e : Nat} {v : Value} {xs : List Int} (h : Own w base e v xs) (hk : ∀ g, v.ownBlock = some g → w'.heap[g]? = w.heap[g]?) : Own w' base e v xs := ownsRow_keep h hk
theorem PR.keep {w w' : World} {X : Nat} {F : Nat → Prop} {mv : Option Nat} {E : List (Int × Sv)} (h : PR w X F mv E) (hk : ∀ b, F b → b ≠ X → b < w.heap.size → w'.heap[b]? = w.heap[b]?) : PR w' X F mv E :=
  ⟨h.r, h.m.keep (fun b hb hlt => hk b (h.fm b hb).1 (h.fm b hb).2 hlt), h.fm, fun x hx => ⟨own_keep (h.s x hx).1 (fun g hg => hk g ((h.s x hx).2 g hg).1 ((h.s x hx).2 g hg).2 (ownsRow_lt (h.s x hx).1 g hg).2), (h.s x hx).2⟩, h.a⟩
theorem PR.mono {w : World} {X : Nat} {F G : Nat → Prop} {mv : Option Nat} {E : List (Int × Sv)} (h : PR w X F mv E) (hs : ∀ j, j < w.heap.size → F j → G j) : PR w X G mv E :=
  ⟨h.r, h.m, fun b hb => ⟨hs b (by rcases h.m with ⟨e, _⟩ | ⟨b', e, ho⟩ <;> rw [e] at hb <;> cases hb; exact ho.lt) (h.fm b hb).1, (h.fm b hb).2⟩, fun x hx => ⟨(h.s x hx).1, fun g hg => ⟨hs g (ownsRow_lt (h.s x hx).1 g hg).2 ((h.s x hx).2 g hg).1, ((h.s x hx).2 g hg).2⟩⟩, h.a⟩
theorem PR.on {w w' : World} {X : Nat} {F : Nat → Prop} {mv : Option Nat} {E : List (Int × Sv)} (h : PR w X F mv E) (hb : Below w.heap.size w w') : PR w' X F mv E := h.keep (fun b _ _ hlt => hb.block b hlt)
theorem PR.setX {w : World} {X i : Nat} {F : Nat → Prop} {mv : Option Nat} {E : List (Int × Sv)} (h : PR w X F mv E) (u : Value) : PR (w.setCell ⟨X, i, none⟩ u) X F mv E := h.keep (fun b _ hne _ => Below.heap_setCell _ _ _ _ (fun e => hne e))
/-- A new block's cells, written. -/
theorem PR.setN {w : World} {X N i : Nat} {F : Nat → Prop} {mv : Option Nat} {E : List (Int × Sv)} (h : PR w X F mv E) (hN : ∀ j, F j → j ≠ N) (u : Value) : PR (w.setCell ⟨N, i, none⟩ u) X F mv E := h.keep (fun b hF _ _ => Below.heap_setCell _ _ _ _ (fun e => hN b hF e))

/-- As it is but for the segment n. -/
structure PRx (w : World) (X : Nat) (F : Nat → Prop) (mv : Option Nat) (E : List (Int × Sv)) (n : Int) : Prop where
  r : Ris E
  m : MapO w mv (esV E)
  fm : ∀ b, mv = some b → F b ∧ b ≠ X
  s : ∀ x ∈ E, x.1 ≠ n → Own w 0 5 x.2.1 x.2.2.1 ∧ ∀ g, x.2.1.ownBlock = some g → F g ∧ g ≠ X
  a : E.Pairwise fun x y => x.1 ≠ n → y.1 ≠ n → ∀ g, x.2.1.ownBlock = some g → y.2.1.ownBlock ≠ some g
theorem PR.x {w : World} {X : Nat} {F : Nat → Prop} {mv : Option Nat} {E : List (Int × Sv)} (h : PR w X F mv E) (n : Int) : PRx w X F mv E n :=
  ⟨h.r, h.m, h.fm, fun x hx _ => h.s x hx, h.a.imp (fun h _ _ => h)⟩
theorem PRx.keep {w w' : World} {X : Nat} {F G : Nat → Prop} {mv : Option Nat} {E : List (Int × Sv)} {n : Int} (h : PRx w X F mv E n) (hFG : ∀ j, j < w.heap.size → F j → G j) (hm : ∀ b, mv = some b → b < w.heap.size → w'.heap[b]? = w.heap[b]?)
    (hs : ∀ x ∈ E, x.1 ≠ n → ∀ g, x.2.1.ownBlock = some g → g < w.heap.size → w'.heap[g]? = w.heap[g]?) : PRx w' X G mv E n :=
  ⟨h.r, h.m.keep hm, fun b hb => ⟨hFG b (by rcases h.m with ⟨e, _⟩ | ⟨b', e, ho⟩ <;> rw [e] at hb <;> cases hb; exact ho.lt) (h.fm b hb).1, (h.fm b hb).2⟩, fun x hx hne => ⟨own_keep (h.s x hx hne).1 (fun g hg => hs x hx hne g hg (ownsRow_lt (h.s x hx hne).1 g hg).2), fun g hg => ⟨hFG g (ownsRow_lt (h.s x hx hne).1 g hg).2 ((h.s x hx hne).2 g hg).1, ((h.s x hx hne).2 g hg).2⟩⟩, h.a⟩
theorem PRx.on {w w' : World} {X : Nat} {F G : Nat → Prop} {mv : Option Nat} {E : List (Int × Sv)} {n : Int} (h : PRx w X F mv E n) (hb : Below w.heap.size w w') (hFG : ∀ j, j < w.heap.size → F j → G j) : PRx w' X G mv E n := h.keep hFG (fun b _ hlt => hb.block b hlt) (fun _ _ _ g _ hlt => hb.block g hlt)
theorem pw_sym {α : Type} {R : α → α → Prop} (hs : ∀ a b, R a b → R b a) : ∀ {l : List α}, l.Pairwise R → ∀ a ∈ l, ∀ b ∈ l, a ≠ b → R a b
  | [], _, a, ha, _, _, _ => absurd ha (by simp)
  | y :: r, h, a, ha, b, hb, hne => by
    obtain ⟨h1, h2⟩ := List.pairwise_cons.1 h
    rcases List.mem_cons.1 ha with e1 | ha'
    · rcases List.mem_cons.1 hb with e2 | hb'
      · exact absurd (e1.trans e2.symm) hne
      · rw [e1]
        exact h1 b hb'
    · rcases List.mem_cons.1 hb with e2 | hb'
      · rw [e2]
        exact hs _ _ (h1 a ha')
      · exact pw_sym hs h2 a ha' b hb' hne
theorem apart_ne {E : List (Int × Sv)} (h : E.Pairwise fun x y => ∀ g, x.2.1.ownBlock = some g → y.2.1.ownBlock ≠ some g) {x y : Int × Sv} (hx : x ∈ E) (hy : y ∈ E) (hne : x ≠ y) : ∀ g, x.2.1.ownBlock = some g → y.2.1.ownBlock ≠ some g :=
  pw_sym (R := fun x y : Int × Sv => ∀ g, x.2.1.ownBlock = some g → y.2.1.ownBlock ≠ some g) (fun a b h g hg hb => h g hb hg) h x hx y hy hne

structure Dk where
  L : List (Int × Sm)
  room : Int
  fuse : Int
  dead : Bool
def usM (L : List (Int × Sm)) : Nat := (L.map fun x => x.2.1.length).sum
/-- The program's disk in block X, its memory in blocks of F, its map's value and its segments as they lie. -/
def PDE (w : World) (X : Nat) (F : Nat → Prop) (d : Dk) (mv : Option Nat) (E : List (Int × Sv)) : Prop :=
  ∃ fz, F X ∧ mmE E = d.L ∧ PR w X F mv E ∧ Bn w X [.map mv, .int .i64 (usM d.L : Int), .int .i64 d.room, .bool d.dead, .bool (decide (0 ≤ d.fuse)), .int .i64 fz] ∧ (0 ≤ d.fuse → fz = d.fuse)
def PD (w : World) (X : Nat) (F : Nat → Prop) (d : Dk) : Prop := ∃ mv E, PDE w X F d mv E
theorem PDE.lt {w : World} {X : Nat} {F : Nat → Prop} {d : Dk} {mv : Option Nat} {E : List (Int × Sv)} (h : PDE w X F d mv E) : X < w.heap.size := by
  obtain ⟨fz, h1, h2, h3, h4, h5⟩ := h
  exact h4.lt
theorem PDE.keep {w w' : World} {X : Nat} {F : Nat → Prop} {d : Dk} {mv : Option Nat} {E : List (Int × Sv)} (h : PDE w X F d mv E) (hk : ∀ b, F b → b < w.heap.size → w'.heap[b]? = w.heap[b]?) : PDE w' X F d mv E := by
  obtain ⟨fz, h1, h2, h3, h4, h5⟩ := h
  exact ⟨fz, h1, h2, h3.keep (fun b hb _ hlt => hk b hb hlt), h4.blk (hk X h1 h4.lt), h5⟩
theorem PDE.mono {w : World} {X : Nat} {F G : Nat → Prop} {d : Dk} {mv : Option Nat} {E : List (Int × Sv)} (h : PDE w X F d mv E) (hs : ∀ j, j < w.heap.size → F j → G j) : PDE w X G d mv E := by
  obtain ⟨fz, h1, h2, h3, h4, h5⟩ := h
  exact ⟨fz, hs X h4.lt h1, h2, h3.mono hs, h4, h5⟩
theorem PDE.on {w w' : World} {X : Nat} {F : Nat → Prop} {d : Dk} {mv : Option Nat} {E : List (Int × Sv)} (h : PDE w X F d mv E) (hb : Below w.heap.size w w') : PDE w' X F d mv E := h.keep (fun b _ hlt => hb.block b hlt)
theorem PD.lt {w : World} {X : Nat} {F : Nat → Prop} {d : Dk} (h : PD w X F d) : X < w.heap.size := by
  obtain ⟨mv, E, h⟩ := h
  exact h.lt
theorem PD.keep {w w' : World} {X : Nat} {F : Nat → Prop} {d : Dk} (h : PD w X F d) (hk : ∀ b, F b → b < w.heap.size → w'.heap[b]? = w.heap[b]?) : PD w' X F d := by
  obtain ⟨mv, E, h⟩ := h
  exact ⟨mv, E, h.keep hk⟩
theorem PD.mono {w : World} {X : Nat} {F G : Nat → Prop} {d : Dk} (h : PD w X F d) (hs : ∀ j, j < w.heap.size → F j → G j) : PD w X G d := by
  obtain ⟨mv, E, h⟩ := h
  exact ⟨mv, E, h.mono hs⟩
theorem PD.on {w w' : World} {X : Nat} {F : Nat → Prop} {d : Dk} (h : PD w X F d) (hb : Below w.heap.size w w') : PD w' X F d := h.keep (fun b _ hlt => hb.block b hlt)
theorem usM_mem : ∀ {L : List (Int × Sm)} {x : Int × Sm}, x ∈ L → x.2.1.length ≤ usM L
  | [], x, h => absurd h (by simp)
  | y :: r, x, h => by
    have e : usM (y :: r) = y.2.1.length + usM r := by simp [usM]
    rw [e]
    rcases List.mem_cons.1 h with rfl | h
    · omega
    · have := usM_mem h
      omega
theorem usM_lk {L : List (Int × Sm)} {n : Int} {s : Sm} (h : lk n L = some s) : s.1.length ≤ usM L := usM_mem (lk_mem h)
end Go.Proofs.Ytbdblpdgfhmekaa

/- The program's disk: burn, New, Used, Down, SetFuse, SetRoom. -/
namespace Go.Proofs.Ytbdblpdgfhmekaa
open Go.RowKit Go.Lib Go.Maps
set_option linter.unusedSimpArgs false
set_option linter.unusedVariables false
attribute [local go_sem ↓] Go.wp_at_zero Go.wp_at_succ

theorem hideD {p : Prop} (h : p) : Hid p := h
def brn (d : Dk) : Dk := if d.fuse = 0 then { d with dead := true } else if 0 < d.fuse then { d with fuse := d.fuse - 1 } else d
set_option maxHeartbeats 1000000 in
theorem dburn_any {w : World} {X : Nat} {F : Nat → Prop} {d : Dk} {mv : Option Nat} {E : List (Int × Sv)} (h : PDE w X F d mv E) (hd : d.fuse ≤ 9223372036854775807) :
    Calls Try.prog 36 #[.pointer (some ⟨X, 0, none⟩)] w fun e w' => e = .returned (.int .i64 (if d.fuse = 0 then 8 else 0)) ∧ PDE w' X F (brn d) mv E ∧ Kf F w w' := by
  obtain ⟨fz, h1, h2, h3, h4, h5⟩ := h
  obtain ⟨c3, f3⟩ := h4 3 _ rfl
  obtain ⟨c4, f4⟩ := h4 4 _ rfl
  obtain ⟨c5, f5⟩ := h4 5 _ rfl
  by_cases hf : 0 ≤ d.fuse
  · have e5 := h5 hf
    subst e5
    rw [decide_eq_true hf] at c4
    by_cases h0 : d.fuse = 0
    · obtain ⟨L, room, fu, dead⟩ := d
      simp only at h0
      subst h0
      simp only at h2 h4 c5
      go_enter Try.func36, Try.ntmps36
      go_wp2
      go_ret
      exact ⟨rfl, ⟨0, h1, h2, h3.setX _, h4.set (i := 3) (by simp) (.bool true), fun _ => rfl⟩, (Kf.refl F w).set h1 _⟩
    · have e1 : brn d = { d with fuse := d.fuse - 1 } := (if_neg h0).trans (if_pos (by omega))
      rw [if_neg h0, e1]
      have e2 : IntKind.i64.wrap (d.fuse - 1) = d.fuse - 1 := by rw [IntKind.wrap_i64]; omega
      have h4' := h4.set (i := 5) (by simp) (.int .i64 (d.fuse - 1))
      have e3 : decide (0 ≤ d.fuse) = decide (0 ≤ d.fuse - 1) := by rw [decide_eq_true hf, decide_eq_true (by omega)]
      rw [e3] at h4'
      go_enter Try.func36, Try.ntmps36
      go_wp2
      go_ret
      exact ⟨rfl, ⟨d.fuse - 1, h1, h2, h3.setX _, h4', fun _ => rfl⟩, (Kf.refl F w).set h1 _⟩
  · have h0 : ¬ d.fuse = 0 := by omega
    have e1 : brn d = d := (if_neg h0).trans (if_neg (by omega))
    rw [if_neg h0, e1]
    rw [decide_eq_false hf] at c4
    go_enter Try.func36, Try.ntmps36
    go_wp2
    go_ret
    exact ⟨rfl, ⟨fz, h1, h2, h3, h4, h5⟩, Kf.refl F w⟩
set_option maxHeartbeats 1000000 in
theorem dnew_any (w : World) (n : Int) : Calls Try.prog 8 #[.int .i64 n] w fun e w' => e = .returned (.pointer (some ⟨w.heap.size, 0, none⟩)) ∧ PD w' w.heap.size (fun j => j = w.heap.size) ⟨[], max n 0, -1, false⟩ ∧ Below w.heap.size w w' := by
  have hp : ∀ m : Int, m = max n 0 → PD (w.alloc (.cells #[.map none, .int .i64 0, .int .i64 m, .bool false, .bool false, .int .i64 0] 52)) w.heap.size (fun j => j = w.heap.size) ⟨[], max n 0, -1, false⟩ := fun m hm => by
    subst hm
    exact ⟨none, [], 0, rfl, rfl, ⟨List.Pairwise.nil, .inl ⟨rfl, rfl⟩, fun _ h => (by cases h), fun x hx => absurd hx (by simp), List.Pairwise.nil⟩, Bn.new w [.map none, .int .i64 0, .int .i64 (max n 0), .bool false, .bool false, .int .i64 0] _ _ rfl, fun h => by simp only at h; omega⟩
  by_cases hn : n < 0
  · go_enter Try.func8, Try.ntmps8
    go_wp2
    go_ret
    exact ⟨rfl, hp 0 (by omega), (Below.refl _ _).alloc (Nat.le_refl _) _⟩
  · go_enter Try.func8, Try.ntmps8
    go_wp2
    go_ret
    exact ⟨rfl, hp n (by omega), (Below.refl _ _).alloc (Nat.le_refl _) _⟩
theorem dused_any {w : World} {X : Nat} {F : Nat → Prop} {d : Dk} (h : PD w X F d) : Calls Try.prog 23 #[.pointer (some ⟨X, 0, none⟩)] w fun e w' => e = .returned (.int .i64 (usM d.L : Int)) ∧ w = w' := by
  obtain ⟨mv, E, fz, h1, h2, h3, h4, h5⟩ := h
  obtain ⟨c1, f1⟩ := h4 1 _ rfl
  go_enter Try.func23, Try.ntmps23
  go_wp2
  go_ret
  exact ⟨rfl, rfl⟩
theorem dused_nil (w : World) : Calls Try.prog 23 #[.pointer none] w fun e w' => e = .returned (.int .i64 0) ∧ w = w' := by
  go_enter Try.func23, Try.ntmps23
  go_wp2
  go_ret
  exact ⟨rfl, rfl⟩
theorem ddown_nil (w : World) : Calls Try.prog 16 #[.pointer none] w fun e w' => e = .returned (.bool false) ∧ w = w' := by
  go_enter Try.func16, Try.ntmps16
  go_wp2
  go_ret
  exact ⟨rfl, rfl⟩
theorem dfuse_nil (w : World) (n : Int) : Calls Try.prog 17 #[.pointer none, .int .i64 n] w fun e w' => e = .returned (.tuple #[]) ∧ w = w' := by
  go_enter Try.func17, Try.ntmps17
  go_wp2
  refine bodyPost_ret (results_none rfl _ _ _) rfl ?_
  exact ⟨rfl, rfl⟩
theorem droom_nil (w : World) (n : Int) : Calls Try.prog 18 #[.pointer none, .int .i64 n] w fun e w' => e = .returned (.tuple #[]) ∧ w = w' := by
  go_enter Try.func18, Try.ntmps18
  go_wp2
  refine bodyPost_ret (results_none rfl _ _ _) rfl ?_
  exact ⟨rfl, rfl⟩

theorem dl_some {w : World} {b : Nat} {l : List (Int × Value)} {n : Int} {v : Value} (ho : w.ownsMap Try.prog 3 hR b l.length (.map (esD l))) (hs : Ris l) (hl : l.length ≤ 100000) (hn : (Lit.int .i64 n).wf = true) :
    ∃ w', (Instr.mapUpdate 50 (.map (some b)) (.int .i64 n) v).run Try.prog w = .ok () w' ∧ w'.ownsMap Try.prog 3 hR b (pt n v l).length (.map (esD (pt n v l))) ∧ w.mapTurned w' b := by
  obtain ⟨w', h1, h2, h3⟩ := ho.store (int_keyed Try.underlying3) Try.underlying50 (by unfold maxLen; omega) (val := v) (d := .held v) (ps := []) (keyI hn) rfl
  rw [putD n v hs] at h2
  exact ⟨w', h1, ownsMap_tight h2, h3⟩
/-- A segment is put among those that are there. -/
theorem PRx.put {w w' : World} {X b : Nat} {F : Nat → Prop} {E : List (Int × Sv)} {n : Int} {s : Sv} (h : PRx w X F (some b) E n) (ho : w'.ownsMap Try.prog 3 hR b (pt n (cv s) (esV E)).length (.map (esD (pt n (cv s) (esV E))))) (ht : w.mapTurned w' b)
    (hs : Own w 0 5 s.1 s.2.1) (hf : ∀ g, s.1.ownBlock = some g → F g ∧ g ≠ X) (ha : ∀ x ∈ E, x.1 ≠ n → ∀ g, x.2.1.ownBlock = some g → s.1.ownBlock ≠ some g) : PR w' X F (some b) (pt n s E) := by
  obtain ⟨es0, cl0, es1, cl1, hb0, _⟩ := id ht
  have hkeep : ∀ {v : Value} {xs : List Int}, Own w 0 5 v xs → Own w' 0 5 v xs := fun {v xs} hv => own_keep hv (fun g hg => ht.grown.block g (ownsRow_lt hv g hg).2 (fun e => by
    have e : g = b := Option.some.inj e
    subst e
    rcases hv.2 with ⟨rfl, _⟩ | ⟨g', cap, cur, rfl, _, hc, _⟩
    · simp [Value.ownBlock] at hg
    · have : g' = g := by simpa [Value.ownBlock] using hg
      subst this
      rw [hb0] at hc
      cases hc))
  have hm : ∀ x ∈ pt n s E, x = (n, s) ∨ (x ∈ E ∧ x.1 ≠ n) := fun x hx => mem_pt h.r hx
  refine ⟨ris_pt h.r, .inr ⟨b, rfl, by rw [esV_pt]; exact ho⟩, h.fm, fun x hx => ?_, ?_⟩
  · rcases hm x hx with rfl | ⟨hx, _⟩
    · exact ⟨hkeep hs, hf⟩
    · rename_i hne
      exact ⟨hkeep (h.s x hx hne).1, (h.s x hx hne).2⟩
  · have hap := h.a
    have hr := h.r
    clear h ho hkeep hm
    induction E with
    | nil => simp [pt]
    | cons y r ih =>
      obtain ⟨a1, a2⟩ := List.pairwise_cons.1 hap
      obtain ⟨r1, r2⟩ := List.pairwise_cons.1 hr
      have ih := ih (fun x hx => ha x (List.mem_cons_of_mem _ hx)) a2 r2
      unfold pt
      split
      · rename_i hlt
        have hne : ∀ x ∈ y :: r, x.1 ≠ n := fun x hx => by
          rcases List.mem_cons.1 hx with rfl | hx
          · omega
          · have := r1 x hx
            omega
        exact List.pairwise_cons.2 ⟨fun x hx g hg hx2 => ha x hx (hne x hx) g hx2 hg, hap.imp_of_mem (fun hx hy h => h (hne _ hx) (hne _ hy))⟩
      · split
        · rename_i hlt he
          have hne : ∀ x ∈ r, x.1 ≠ n := fun x hx => by
            have := r1 x hx
            omega
          exact List.pairwise_cons.2 ⟨fun x hx g hg hx2 => ha x (List.mem_cons_of_mem _ hx) (hne x hx) g hx2 hg, a2.imp_of_mem (fun hx hy h => h (hne _ hx) (hne _ hy))⟩
        · rename_i hlt he
          refine List.pairwise_cons.2 ⟨fun x hx g hg => ?_, ih⟩
          rcases mem_pt r2 hx with rfl | ⟨hx, hne⟩
          · exact ha y List.mem_cons_self he g hg
          · exact a1 x hx he hne g hg
theorem eqlSome (b : Nat) (w : World) : (binOp .eql 50 (.map (some b)) (.map none)).run Try.prog w = .ok (.bool false) w := by kernel_rfl
theorem eqlNil (w : World) : (binOp .eql 50 (.map none) (.map none)).run Try.prog w = .ok (.bool true) w := by kernel_rfl
theorem esV_len (E : List (Int × Sv)) : (esV E).length = E.length := by simp [esV]
set_option maxRecDepth 100000 in
set_option maxHeartbeats 4000000 in
theorem dput_any {w : World} {X : Nat} {F : Nat → Prop} {mv : Option Nat} {E : List (Int × Sv)} {cs : List Value} {n : Int} {s : Sv} (h : PRx w X F mv E n) (hB : Bn w X (.map mv :: cs)) (hX : F X) (hn : (Lit.int .i64 n).wf = true) (hl : E.length ≤ 100000)
    (hs : Own w 0 5 s.1 s.2.1) (hf : ∀ g, s.1.ownBlock = some g → F g ∧ g ≠ X) (ha : ∀ x ∈ E, x.1 ≠ n → ∀ g, x.2.1.ownBlock = some g → s.1.ownBlock ≠ some g) :
    Calls Try.prog 37 #[.pointer (some ⟨X, 0, none⟩), .int .i64 n, cv s] w fun e w' => e = .returned (.tuple #[]) ∧ (∃ mv', Bn w' X (.map mv' :: cs) ∧ PR w' X (nF F w) mv' (pt n s E)) ∧ Kf F w w' := by
  have hXl := hB.lt
  obtain ⟨c0, f0⟩ := hB 0 _ rfl
  have hmono : ∀ j, F j → nF F w j := fun j hj => .inl hj
  have hal : Below w.heap.size w (w.alloc (.cells #[s.1, .int .i64 (s.2.2 : Int)] 63)) := (Below.refl _ _).alloc (Nat.le_refl _) _
  have hBx := Bn.new w [s.1, .int .i64 (s.2.2 : Int)] 63 _ rfl
  obtain ⟨sv, sb, sn⟩ := s
  simp only at *
  have hs' : Own (w.alloc (.cells #[sv, .int .i64 (sn : Int)] 63)) 0 5 sv sb := own_keep hs (fun g hg => hal.block g (ownsRow_lt hs g hg).2)
  obtain ⟨x0, g0⟩ := hBx 0 _ rfl
  obtain ⟨x1, g1⟩ := hBx 1 _ rfl
  obtain ⟨C0, D0⟩ := (hB.on hal) 0 _ rfl
  have hlN : ∀ j, F j → j < w.heap.size → j ≠ w.heap.size := fun j _ h => by omega
  cases mv with
  | none =>
    have hE : E = [] := by
      rcases h.m with ⟨_, e⟩ | ⟨b, e, _⟩
      · exact List.eq_nil_of_length_eq_zero (by have := congrArg List.length e; simpa [esV] using this)
      · cases e
    subst hE
    have hmm := @run_makeMap Try.prog
    have hsz : (w.alloc (.cells #[sv, .int .i64 (sn : Int)] 63)).heap.size = w.heap.size + 1 := by simp
    have hal2 : Below (w.heap.size + 1) (w.alloc (.cells #[sv, .int .i64 (sn : Int)] 63)) ((w.alloc (.cells #[sv, .int .i64 (sn : Int)] 63)).alloc (.map #[] 0)) := (Below.refl _ _).alloc (by simp) _
    have ho0 := World.ownsMap_made (w.alloc (.cells #[sv, .int .i64 (sn : Int)] 63)) Try.prog 3 hR
    rw [hsz] at ho0
    have C1 := (hal2.cell (p := ⟨X, 0, none⟩) (show X < w.heap.size + 1 by omega)).trans C0
    have D1 := (hal2.frozen (p := ⟨X, 0, none⟩) (show X < w.heap.size + 1 by omega)).trans D0
    have y0 := (hal2.cell (p := ⟨w.heap.size, 0, none⟩) (Nat.lt_succ_self _)).trans x0
    have y1 := (hal2.cell (p := ⟨w.heap.size, 1, none⟩) (Nat.lt_succ_self _)).trans x1
    have hbw : Below w.heap.size w ((w.alloc (.cells #[sv, .int .i64 (sn : Int)] 63)).alloc (.map #[] 0)) := hal.trans (hal2.mono (by omega))
    have hb2 := hB.on hbw
    have hs2 := own_keep hs (fun g hg => hbw.block g (ownsRow_lt hs g hg).2)
    have hsz2 : ((w.alloc (.cells #[sv, .int .i64 (sn : Int)] 63)).alloc (.map #[] 0)).heap.size = w.heap.size + 2 := by simp
    obtain ⟨W, hW⟩ : ∃ W, (w.alloc (.cells #[sv, .int .i64 (sn : Int)] 63)).alloc (.map #[] 0) = W := ⟨_, rfl⟩
    rw [hW] at ho0 C1 D1 y0 y1 hbw hb2 hs2 hsz2
    have ho1 : (W.setCell ⟨X, 0, none⟩ (.map (some (w.heap.size + 1)))).drew.ownsMap Try.prog 3 hR (w.heap.size + 1) ([] : List (Int × Value)).length (.map (esD [])) := (ho0.setCell (show w.heap.size + 1 ≠ X by omega) _).drew
    obtain ⟨w2, hr2, ho2, ht2⟩ := dl_some (n := n) (v := cv (sv, sb, sn)) ho1 List.Pairwise.nil (by simp) hn
    have hP3 : PRx (W.setCell ⟨X, 0, none⟩ (.map (some (w.heap.size + 1)))).drew X (nF F w) (some (w.heap.size + 1)) [] n :=
      ⟨List.Pairwise.nil, .inr ⟨_, rfl, ho1⟩, fun b hb => by cases hb; exact ⟨.inr (by omega), by omega⟩, fun x hx => absurd hx (by simp), List.Pairwise.nil⟩
    have hs3 : Own (W.setCell ⟨X, 0, none⟩ (.map (some (w.heap.size + 1)))).drew 0 5 sv sb := own_keep hs2 (fun g hg => Below.heap_setCell _ _ _ _ (fun e => (hf g hg).2 e))
    have hfin := hP3.put ho2 ht2 hs3 (fun g hg => ⟨.inl (hf g hg).1, (hf g hg).2⟩) (fun x hx => absurd hx (by simp))
    have hb3 : Bn (W.setCell ⟨X, 0, none⟩ (.map (some (w.heap.size + 1)))).drew X (.map (some (w.heap.size + 1)) :: cs) := hb2.set (i := 0) (by simp) _
    have hb4 : Bn w2 X (.map (some (w.heap.size + 1)) :: cs) := hb3.blk (ht2.grown.block X (by show X < (W.setCell _ _).heap.size; simp; omega) (fun e => by have := Option.some.inj e; omega))
    have hk : Kf F w w2 := (((Kf.of hbw (Nat.le_refl _)).set hX _).drew).transN (Kf.grown ht2.grown (fun k hk => by have := Option.some.inj hk; subst this; exact Or.inr (by omega)))
    have E0 : (W.setCell ⟨X, 0, none⟩ (.map (some (w.heap.size + 1)))).cell? ⟨X, 0, none⟩ = some (.map (some (w.heap.size + 1))) := cell_same4 C1
    have E1 : (W.setCell ⟨X, 0, none⟩ (.map (some (w.heap.size + 1)))).cell? ⟨w.heap.size, 0, none⟩ = some sv := cell_far4 (by omega) y0
    have E2 : (W.setCell ⟨X, 0, none⟩ (.map (some (w.heap.size + 1)))).cell? ⟨w.heap.size, 1, none⟩ = some (.int .i64 (sn : Int)) := cell_far4 (by omega) y1
    have V0 : (W.setCell ⟨X, 0, none⟩ (.map (some (w.heap.size + 1)))).drew.cell? ⟨X, 0, none⟩ = some (.map (some (w.heap.size + 1))) := E0
    have V1 : (W.setCell ⟨X, 0, none⟩ (.map (some (w.heap.size + 1)))).drew.cell? ⟨w.heap.size, 0, none⟩ = some sv := E1
    have V2 : (W.setCell ⟨X, 0, none⟩ (.map (some (w.heap.size + 1)))).drew.cell? ⟨w.heap.size, 1, none⟩ = some (.int .i64 (sn : Int)) := E2
    have Z0 : w2.cell? ⟨X, 0, none⟩ = some (.map (some (w.heap.size + 1))) := (World.cell?_of_block (a := ⟨X, 0, none⟩) (ht2.grown.block X (by show X < (W.setCell _ _).heap.size; simp; omega) (fun e => by have := Option.some.inj e; omega))).trans E0
    have Z1 : w2.cell? ⟨w.heap.size, 0, none⟩ = some sv := (World.cell?_of_block (a := ⟨w.heap.size, 0, none⟩) (ht2.grown.block w.heap.size (by show w.heap.size < (W.setCell _ _).heap.size; simp; omega) (fun e => by have := Option.some.inj e; omega))).trans E1
    have Z2 : w2.cell? ⟨w.heap.size, 1, none⟩ = some (.int .i64 (sn : Int)) := (World.cell?_of_block (a := ⟨w.heap.size, 1, none⟩) (ht2.grown.block w.heap.size (by show w.heap.size < (W.setCell _ _).heap.size; simp; omega) (fun e => by have := Option.some.inj e; omega))).trans E2
    have HF := hideD (And.intro hb4 (And.intro hfin hk))
    clear ho0 ho1 ho2 ht2 hP3 hs2 hs3 hfin hb2 hb3 hb4 hk hbw hB h hs hs' hal2 hal hBx hf ha hmono y0 y1
    unfold cv at hr2
    have hq := eqlNil
    go_enter Try.func37, Try.ntmps37
    unfold cv
    go_wp2
    go_region_held_law (fun w' => w'.cell? ⟨X, 0, none⟩ = some (.map (some (w.heap.size + 1))) ∧ w'.cell? ⟨w.heap.size, 0, none⟩ = some sv ∧ w'.cell? ⟨w.heap.size, 1, none⟩ = some (.int .i64 (sn : Int)))
      (first | (with_reducible exact ⟨E0, E1, E2⟩) | (with_reducible exact ⟨Z0, Z1, Z2⟩) | (with_reducible exact ⟨V0, V1, V2⟩)) (fail)
    go_end0
    exact ⟨rfl, ⟨_, HF.out.1, HF.out.2.1⟩, HF.out.2.2⟩
  | some b =>
    have ho : w.ownsMap Try.prog 3 hR b (esV E).length (.map (esD (esV E))) := by
      rcases h.m with ⟨e, _⟩ | ⟨b', e, ho⟩
      · cases e
      · cases e
        exact ho
    have ho1 := ((ho.alloc (.cells #[sv, .int .i64 (sn : Int)] 63)).drew)
    obtain ⟨w2, hr2, ho2, ht2⟩ := dl_some (v := cv (sv, sb, sn)) ho1 (ris_esV h.r) (by rw [esV_len]; exact hl) hn
    have hP3 : PRx (w.alloc (.cells #[sv, .int .i64 (sn : Int)] 63)).drew X (nF F w) (some b) E n := (h.on hal (fun j _ hj => Or.inl hj)).keep (fun _ _ h => h) (fun _ _ _ => rfl) (fun _ _ _ _ _ _ => rfl)
    have hfin := hP3.put ho2 ht2 hs' (fun g hg => ⟨.inl (hf g hg).1, (hf g hg).2⟩) ha
    have hbX := (h.fm b rfl).2
    have hb4 : Bn w2 X (.map (some b) :: cs) := (hB.on hal).blk (ht2.grown.block X (by show X < (w.alloc _).heap.size; simp; omega) (fun e => hbX (Option.some.inj e).symm))
    have hk : Kf F w w2 := ((Kf.of hal (Nat.le_refl _)).drew).trans (Kf.grown ht2.grown (fun k hk => by have := Option.some.inj hk; subst this; exact (h.fm _ rfl).1))
    have hbl := ho.lt
    have V0 : (w.alloc (.cells #[sv, .int .i64 (sn : Int)] 63)).drew.cell? ⟨X, 0, none⟩ = some (.map (some b)) := C0
    have V1 : (w.alloc (.cells #[sv, .int .i64 (sn : Int)] 63)).drew.cell? ⟨w.heap.size, 0, none⟩ = some sv := x0
    have V2 : (w.alloc (.cells #[sv, .int .i64 (sn : Int)] 63)).drew.cell? ⟨w.heap.size, 1, none⟩ = some (.int .i64 (sn : Int)) := x1
    have Z0 : w2.cell? ⟨X, 0, none⟩ = some (.map (some b)) := (World.cell?_of_block (a := ⟨X, 0, none⟩) (ht2.grown.block X (by show X < (w.alloc _).heap.size; simp; omega) (fun e => hbX (Option.some.inj e).symm))).trans C0
    have Z1 : w2.cell? ⟨w.heap.size, 0, none⟩ = some sv := (World.cell?_of_block (a := ⟨w.heap.size, 0, none⟩) (ht2.grown.block w.heap.size (by show w.heap.size < (w.alloc _).heap.size; simp) (fun e => by have := Option.some.inj e; omega))).trans x0
    have Z2 : w2.cell? ⟨w.heap.size, 1, none⟩ = some (.int .i64 (sn : Int)) := (World.cell?_of_block (a := ⟨w.heap.size, 1, none⟩) (ht2.grown.block w.heap.size (by show w.heap.size < (w.alloc _).heap.size; simp) (fun e => by have := Option.some.inj e; omega))).trans x1
    have HF := hideD (And.intro hb4 (And.intro hfin hk))
    clear ho ho1 ho2 ht2 hP3 hs' hfin hb4 hk hal hB h hs hBx hf ha hmono
    unfold cv at hr2
    have hq := eqlSome b
    go_enter Try.func37, Try.ntmps37
    unfold cv
    go_wp2
    go_region_held_law (fun w' => w'.cell? ⟨X, 0, none⟩ = some (.map (some b)) ∧ w'.cell? ⟨w.heap.size, 0, none⟩ = some sv ∧ w'.cell? ⟨w.heap.size, 1, none⟩ = some (.int .i64 (sn : Int)))
      (first | (with_reducible exact ⟨C0, x0, x1⟩) | (with_reducible exact ⟨Z0, Z1, Z2⟩) | (with_reducible exact ⟨V0, V1, V2⟩)) (fail)
    go_end0
    exact ⟨rfl, ⟨_, HF.out.1, HF.out.2.1⟩, HF.out.2.2⟩

theorem slice_form {w : World} {base e : Nat} {v : Value} {xs : List Int} (h : Own w base e v xs) : ∃ a cap, v = .slice a xs.length cap ∧ xs.length ≤ cap ∧ cap ≤ maxLen := by
  rcases h.2 with ⟨h1, h2⟩ | ⟨g, cap, cur, h1, _, _, h3, h4, _⟩
  · exact ⟨none, 0, by rw [h1, h2], by omega, by simp [maxLen]⟩
  · exact ⟨_, _, h1, h3, h4⟩
theorem PR.del {w w' : World} {X b : Nat} {F : Nat → Prop} {E : List (Int × Sv)} {n : Int} (h : PR w X F (some b) E) (ho : w'.ownsMap Try.prog 3 hR b (dl n (esV E)).length (.map (esD (dl n (esV E))))) (ht : w.mapTurned w' b) : PR w' X F (some b) (dl n E) := by
  obtain ⟨es0, cl0, es1, cl1, hb0, _⟩ := id ht
  have hkeep : ∀ {v : Value} {xs : List Int}, Own w 0 5 v xs → Own w' 0 5 v xs := fun {v xs} hv => own_keep hv (fun g hg => ht.grown.block g (ownsRow_lt hv g hg).2 (fun e => by
    have e : g = b := Option.some.inj e
    subst e
    rcases hv.2 with ⟨rfl, _⟩ | ⟨g', cap, cur, rfl, _, hc, _⟩
    · simp [Value.ownBlock] at hg
    · have : g' = g := by simpa [Value.ownBlock] using hg
      subst this
      rw [hb0] at hc
      cases hc))
  exact ⟨ris_dl h.r, .inr ⟨b, rfl, by rw [← esV_dl]; exact ho⟩, h.fm, fun x hx => ⟨hkeep (h.s x (mem_dl.1 hx).1).1, (h.s x (mem_dl.1 hx).1).2⟩, h.a.filter _⟩

theorem dfind_res {w : World} {R : Nat} {a b x : Value} {tmps : Array Value} (hR : Bn w R [a, b]) (ht : tmps.getD 4 undef = .pointer (some ⟨R, 0, none⟩)) (hx : tmps.getD 5 undef = x) : (results Try.f33 tmps).run Try.prog w = .ok (.tuple #[.agg #[a, b], x]) w := by
  obtain ⟨c0, _⟩ := hR 0 _ rfl
  obtain ⟨c1, _⟩ := hR 1 _ rfl
  have ht' : tmps[4]?.getD undef = .pointer (some ⟨R, 0, none⟩) := by simpa using ht
  have hx' : tmps[5]?.getD undef = x := by simpa using hx
  simp [results, Try.results33, go_sem, ht', hx', c0, c1]
theorem doper_res {w : World} {R : Nat} {a b x : Value} {tmps : Array Value} (hR : Bn w R [a, b]) (ht : tmps.getD 4 undef = .pointer (some ⟨R, 0, none⟩)) (hx : tmps.getD 5 undef = x) : (results Try.f38 tmps).run Try.prog w = .ok (.tuple #[.agg #[a, b], x]) w := by
  obtain ⟨c0, _⟩ := hR 0 _ rfl
  obtain ⟨c1, _⟩ := hR 1 _ rfl
  have ht' : tmps[4]?.getD undef = .pointer (some ⟨R, 0, none⟩) := by simpa using ht
  have hx' : tmps[5]?.getD undef = x := by simpa using hx
  simp [results, Try.results38, go_sem, ht', hx', c0, c1]
theorem Bn2.new {w : World} (a b : Value) : Bn (w.alloc (.cells #[a, b] 63)) w.heap.size [a, b] := Bn.new w [a, b] _ _ rfl
set_option maxRecDepth 100000 in
set_option maxHeartbeats 4000000 in
theorem dfind_nil (w : World) (n : Int) : Calls Try.prog 33 #[.pointer none, .int .i64 n] w fun e w' => e = .returned (.tuple #[cv zC, .int .i64 1]) ∧ Below w.heap.size w w' := by
  have hal : Below w.heap.size w (w.alloc (.cells #[.slice none 0 0, .int .i64 0] 63)) := (Below.refl _ _).alloc (Nat.le_refl _) _
  have hR1 : Bn (w.alloc (.cells #[.slice none 0 0, .int .i64 0] 63)) w.heap.size [.slice none 0 0, .int .i64 0] := Bn2.new _ _
  obtain ⟨r0, q0⟩ := hR1 0 _ rfl
  obtain ⟨r1, q1⟩ := hR1 1 _ rfl
  go_enter Try.func33, Try.ntmps33
  go_upto_region 1 with fail
  generalize w.alloc (.cells #[.slice none 0 0, .int .i64 0] 63) = w1 at *
  have HR := hideD (show ∀ u v : Value, Bn ((w1.setCell ⟨w.heap.size, 0, none⟩ u).setCell ⟨w.heap.size, 1, none⟩ v) w.heap.size [u, v] from fun u v => (hR1.set (i := 0) (by simp) u).set (i := 1) (by simp) v)
  have HS := hideD (show ∀ u v : Value, Below w.heap.size w ((w1.setCell ⟨w.heap.size, 0, none⟩ u).setCell ⟨w.heap.size, 1, none⟩ v) from fun u v => (hal.setCell (Nat.le_refl _) _).setCell (Nat.le_refl _) _)
  clear hR1 hal
  go_wp2
  exact bodyPost_ret (dfind_res (HR.out _ _) rfl rfl) rfl ⟨rfl, HS.out _ _⟩

def cF (F : Nat → Prop) (w : World) : Nat → Prop := fun j => F j ∧ j < w.heap.size
theorem PDE.clip {w : World} {X : Nat} {F : Nat → Prop} {d : Dk} {mv : Option Nat} {E : List (Int × Sv)} (h : PDE w X F d mv E) : PDE w X (cF F w) d mv E := h.mono (fun j hj hF => ⟨hF, hj⟩)
theorem PDE.wide {w w0 : World} {X : Nat} {F : Nat → Prop} {d : Dk} {mv : Option Nat} {E : List (Int × Sv)} (h : PDE w X (cF F w0) d mv E) : PDE w X F d mv E := h.mono (fun j hj hF => hF.1)
theorem Kf.wide {F : Nat → Prop} {w0 w w' : World} (h : Kf (cF F w0) w w') : Kf F w w' := h.mono (fun j hF => hF.1)

theorem lk_own {E : List (Int × Sv)} {w : World} {X : Nat} {F : Nat → Prop} {mv : Option Nat} (h : PR w X F mv E) (n : Int) : Own w 0 5 ((lk n E).getD zC).1 ((lk n E).getD zC).2.1 ∧ (∀ g, ((lk n E).getD zC).1.ownBlock = some g → F g ∧ g ≠ X) ∧ ∀ x ∈ E, x.1 ≠ n → ∀ g, x.2.1.ownBlock = some g → ((lk n E).getD zC).1.ownBlock ≠ some g := by
  cases hk : lk n E with
  | none =>
    refine ⟨World.ownsRow_nil w 0 5 1, fun g hg => ?_, fun x hx hne g hg h => ?_⟩
    · simp [zC, Value.ownBlock] at hg
    · simp [zC, Value.ownBlock] at h
  | some s =>
    have hm := lk_mem hk
    exact ⟨(h.s _ hm).1, (h.s _ hm).2, fun x hx hne g hg hs => apart_ne h.a hx hm (fun e => hne (by rw [e])) g hg hs⟩
theorem dorow_form {w : World} {base e n : Nat} {v : Value} {xs : List Value} (h : w.ownsRow base e 1 v n xs) : ∃ a cap, v = .slice a n cap ∧ n ≤ cap ∧ cap ≤ maxLen := by
  rcases h.2 with ⟨h1, h2⟩ | ⟨g, cap, cur, h1, _, _, h3, h4, _⟩
  · exact ⟨none, 0, by rw [h1, h2], by omega, by simp [maxLen]⟩
  · exact ⟨_, _, h1, h3, h4⟩
theorem lk_lt {β : Type} {n : Int} : ∀ {l : List (Int × β)}, (∀ x ∈ l, n < x.1) → lk n l = none
  | [], _ => rfl
  | y :: r, h => by
    have := h y List.mem_cons_self
    unfold lk
    rw [if_neg (by omega)]
    exact lk_lt (fun x hx => h x (List.mem_cons_of_mem _ hx))
theorem usM_cons (y : Int × Sm) (r : List (Int × Sm)) : usM (y :: r) = y.2.1.length + usM r := by simp [usM]
theorem usM_pt (n : Int) (s : Sm) : ∀ {L : List (Int × Sm)}, Ris L → usM (pt n s L) + ((lk n L).getD ([], 0)).1.length = usM L + s.1.length
  | [], _ => by simp [pt, lk, usM]
  | y :: r, hs => by
    obtain ⟨h1, h2⟩ := List.pairwise_cons.1 hs
    have ih := usM_pt n s h2
    unfold pt lk
    by_cases hlt : n < y.1
    · rw [if_pos hlt, if_neg (by omega), lk_lt (fun x hx => by have := h1 x hx; omega), usM_cons]
      simp
      omega
    · rw [if_neg hlt]
      by_cases he : y.1 = n
      · rw [if_pos he, if_pos he, usM_cons, usM_cons]
        simp
        omega
      · rw [if_neg he, if_neg he, usM_cons, usM_cons]
        omega
theorem usM_app {n : Int} {sb bs : List Int} {sn : Nat} {L : List (Int × Sm)} (hs : Ris L) (h : (lk n L).getD ([], 0) = (sb, sn)) : usM (pt n (sb ++ bs, sn) L) = usM L + bs.length := by
  have := usM_pt n (sb ++ bs, sn) hs
  rw [h, List.length_append] at this
  simp only at this
  omega
theorem usM_mmE {E : List (Int × Sv)} (n : Int) : ((lk n E).getD zC).2.1.length ≤ usM (mmE E) := by
  cases hq : lk n E with
  | none => simp [zC]
  | some s => exact usM_lk (by rw [mmE_lk, hq]; rfl)
theorem Kf.setNew {F : Nat → Prop} {N i : Nat} {a b : World} (h : Kf F a b) (hN : a.heap.size ≤ N) (u : Value) : Kf F a (b.setCell ⟨N, i, none⟩ u) :=
  ⟨h.os, h.tape, h.output, by simpa using h.size, fun k hk hn => (Below.heap_setCell _ _ _ _ (fun e => by have : k = N := e; omega)).trans (h.block k hk hn)⟩
/-- Bytes appended: the disk, the error. -/
def appD (d : Dk) (n : Int) (bs : List Int) : Dk × Int :=
  if d.dead = true then (d, 8) else if n < 0 then (d, 1) else if (bs.length : Int) > d.room - (usM d.L : Int) then (d, 7) else if d.fuse = 0 then (brn d, 8)
  else ({ brn d with L := pt n (((lk n d.L).getD ([], 0)).1 ++ bs, ((lk n d.L).getD ([], 0)).2) d.L }, 0)
theorem dapp_nil (w : World) (n : Int) (v : Value) : Calls Try.prog 19 #[.pointer none, .int .i64 n, v] w fun e w' => e = .returned (.int .i64 1) ∧ w = w' := by
  go_enter Try.func19, Try.ntmps19
  go_wp2
  go_ret
  exact ⟨rfl, rfl⟩
theorem brn_L (d : Dk) : (brn d).L = d.L ∧ (brn d).room = d.room := by
  unfold brn
  split
  · exact ⟨rfl, rfl⟩
  · split <;> exact ⟨rfl, rfl⟩
set_option maxRecDepth 100000 in
set_option maxHeartbeats 8000000 in
theorem dapp_any {w : World} {X : Nat} {F : Nat → Prop} {d : Dk} {n : Int} {v : Value} {bs : List Int} (h0 : PD w X F d) (hfu : d.fuse ≤ 9223372036854775807) (hro : 0 ≤ d.room ∧ d.room ≤ 9223372036854775807) (hn : (Lit.int .i64 n).wf = true)
    (hl : d.L.length ≤ 100000) (hu : usM d.L ≤ 1000000) (hb : bs.length ≤ 1000000) (hv : ∀ w1, Kf F w w1 → Rd w1 v bs) :
    Calls Try.prog 19 #[.pointer (some ⟨X, 0, none⟩), .int .i64 n, v] w fun e w' => e = .returned (.int .i64 (appD d n bs).2) ∧ PD w' X (nF F w) (appD d n bs).1 ∧ Kf F w w' := by
  obtain ⟨mv, E, h⟩ := h0
  obtain ⟨fz, h1, h2, h3, h4, h5⟩ := id h
  obtain ⟨va, vc, rfl, hvl, hvm, _⟩ := id (hv w (Kf.refl F w))
  have hXl := h4.lt
  obtain ⟨c1, f1⟩ := h4 1 _ rfl
  obtain ⟨c2, f2⟩ := h4 2 _ rfl
  obtain ⟨c3, f3⟩ := h4 3 _ rfl
  have hwide : PD w X (nF F w) d := ⟨mv, E, h.mono (fun j _ hj => .inl hj)⟩
  unfold appD
  by_cases hd : d.dead = true
  · rw [if_pos hd]
    rw [hd] at c3
    clear h h2 h3 h4 h5
    go_enter Try.func19, Try.ntmps19
    go_wp2
    go_ret
    exact ⟨rfl, hwide, Kf.refl F w⟩
  rw [if_neg hd]
  have hd : d.dead = false := by simpa using hd
  rw [hd] at c3
  by_cases hn0 : n < 0
  · rw [if_pos hn0]
    clear h h2 h3 h4 h5
    go_enter Try.func19, Try.ntmps19
    go_wp2
    go_ret
    exact ⟨rfl, hwide, Kf.refl F w⟩
  rw [if_neg hn0]
  have hw1 : IntKind.i64.wrap (d.room - (usM d.L : Int)) = d.room - (usM d.L : Int) := by rw [IntKind.wrap_i64]; omega
  by_cases hr : (bs.length : Int) > d.room - (usM d.L : Int)
  · rw [if_pos hr]
    clear h h2 h3 h4 h5
    go_enter Try.func19, Try.ntmps19
    go_wp2
    go_quiet (fail)
    go_wp2
    go_ret
    exact ⟨rfl, hwide.keep (fun _ _ _ => rfl), (Kf.refl F w).drewN _⟩
  rw [if_neg hr]
  have hC := h.clip
  have hbn := fun m => dburn_any (w := w.drewN m) (hC.keep (fun _ _ _ => rfl)) hfu
  by_cases hz : d.fuse = 0
  · rw [if_pos hz]
    simp only [if_pos hz] at hbn
    have hkf := fun m => (Kf.refl (cF F w) w).drewN m
    clear h h2 h3 h4 h5 hC
    go_enter Try.func19, Try.ntmps19
    go_wp2
    go_quiet (fail)
    go_wp2_with (first
      | (go_at_call 36; refine (hbn _).mono ?_; rintro e w1 ⟨rfl, p1, k1⟩; clear hbn)
      | fail)
    go_ret
    exact ⟨rfl, ⟨mv, E, p1.wide.mono (fun j _ hj => .inl hj)⟩, ((hkf _).trans k1).wide⟩
  rw [if_neg hz]
  simp only [if_neg hz] at hbn
  have hkf := fun m => (Kf.refl (cF F w) w).drewN m
  have hmm : mmE E = d.L := h2
  have hlE : E.length ≤ 100000 := by rw [← hmm] at hl; simpa [mmE] using hl
  obtain ⟨d', hd'⟩ : ∃ d' : Dk, { brn d with L := pt n (((lk n d.L).getD ([], 0)).1 ++ bs, ((lk n d.L).getD ([], 0)).2) d.L } = d' := ⟨_, rfl⟩
  rw [hd']
  have HD := hideD hd'
  have HV := hideD hv
  clear h h2 h3 h4 h5 hd' hv hwide
  go_enter Try.func19, Try.ntmps19
  go_wp2
  go_quiet (fail)
  go_upto_region 12 with (first
    | (go_at_call 36; refine (hbn _).mono ?_; rintro e w1 ⟨rfl, p1, k1⟩; clear hbn)
    | fail)
  have hk1 := (hkf _).trans k1
  obtain ⟨gz, g1, g2, g3, g4, g5⟩ := id p1
  obtain ⟨a0, a1, a2⟩ := lk_own g3 n
  have hlk := mmE_lk n E
  rw [hmm] at hlk
  have hlook := g3.m.look hn
  obtain ⟨⟨sv, sb, sn⟩, hs0⟩ : ∃ x, (lk n E).getD zC = x := ⟨_, rfl⟩
  have hold : (lk n d.L).getD ([], 0) = (sb, sn) := by
    rw [hlk]
    cases hq : lk n E with
    | none =>
      rw [hq] at hs0
      simp only [Option.getD_none] at hs0
      cases hs0
      rfl
    | some s =>
      rw [hq] at hs0
      simp only [Option.getD_some] at hs0
      subst hs0
      rfl
  rw [hs0] at a0 a1 a2 hlook
  simp only at a0 a1 a2
  obtain ⟨sa, sc, rfl, hsl, hsm⟩ := slice_form a0
  unfold cv at hlook
  simp only at hlook
  obtain ⟨e0, i0⟩ := g4 0 _ rfl
  have hsbl : sb.length ≤ 1000000 := by
    have := usM_mmE (E := E) n
    rw [hs0, hmm] at this
    simp only at this
    omega
  have hal : Below w1.heap.size w1 (w1.alloc (.cells #[.slice sa sb.length sc, .int .i64 (sn : Int)] 63)) := (Below.refl _ _).alloc (Nat.le_refl _) _
  have hB8 : Bn (w1.alloc (.cells #[.slice sa sb.length sc, .int .i64 (sn : Int)] 63)) w1.heap.size [.slice sa sb.length sc, .int .i64 (sn : Int)] := Bn2.new _ _
  have hsz := hk1.size
  have hO2 : Own (w1.alloc (.cells #[.slice sa sb.length sc, .int .i64 (sn : Int)] 63)) 0 5 (.slice sa sb.length sc) sb := own_keep a0 (fun g hg => hal.block g (ownsRow_lt a0 g hg).2)
  have hR2 : Rd (w1.alloc (.cells #[.slice sa sb.length sc, .int .i64 (sn : Int)] 63)) (.slice va bs.length vc) bs := HV.out _ (hk1.wide.alloc _)
  have hB2 := g4.on hal
  have hX2 : PRx (w1.alloc (.cells #[.slice sa sb.length sc, .int .i64 (sn : Int)] 63)) X (cF F w) mv E n := (g3.x n).on hal (fun _ _ h => h)
  have hown1 := fun g hg => (ownsRow_lt a0 g hg).2
  have hxlt : ∀ x ∈ E, ∀ g, x.2.1.ownBlock = some g → g < w.heap.size := fun x hx g hg => ((g3.s x hx).2 g hg).1.2
  have hmlt : ∀ b, mv = some b → b < w.heap.size ∧ b ≠ X ∧ b < w1.heap.size ∧ (.slice sa sb.length sc : Value).ownBlock ≠ some b := fun b hb => by
    refine ⟨(g3.fm b hb).1.2, (g3.fm b hb).2, by have := (g3.fm b hb).1.2; omega, fun e => ?_⟩
    rcases g3.m with ⟨e1, _⟩ | ⟨b', e1, ho⟩
    · rw [hb] at e1
      cases e1
    · rw [hb] at e1
      cases e1
      obtain ⟨es, cl, hes, _⟩ := ho
      rcases a0.2 with ⟨e2, _⟩ | ⟨g', cap, cur, e2, _, hc, _⟩
      · rw [e2] at e
        simp [Value.ownBlock] at e
      · rw [e2] at e
        have : g' = b := by simpa [Value.ownBlock] using e
        subst this
        rw [hes] at hc
        cases hc
  have hK2 : Kf F w (w1.alloc (.cells #[.slice sa sb.length sc, .int .i64 (sn : Int)] 63)) := hk1.wide.alloc _
  have hs2 : (w1.alloc (.cells #[.slice sa sb.length sc, .int .i64 (sn : Int)] 63)).heap.size = w1.heap.size + 1 := by simp
  have hris := hideD (ris_mmE g3.r)
  have hg5 := hideD g5
  clear k1 hkf hC hlk hs0 p1 g2 g3 g4 g5 hk1 hal a0
  go_upto_region 13 with fail
  obtain ⟨Z, hZ⟩ : ∃ Z, w1.heap.size = Z := ⟨_, rfl⟩
  simp only [hZ] at hB8 hown1 hsz hs2 hmlt ⊢
  generalize w1.alloc (.cells #[.slice sa sb.length sc, .int .i64 (sn : Int)] 63) = w2 at *
  clear hZ hlook e0 i0
  obtain ⟨t0, k0⟩ := hB8 0 _ rfl
  obtain ⟨i0, hi, hz0, hz1, hz2⟩ := u8_inf
  have hsrc := hR2.src (t := 30) (e := 5) Try.underlying30
  have hO2' : w2.ownsRow 0 5 1 (.slice sa sb.length sc) sb.length (sb.map (Value.int .u8)) := hO2
  have HB8 := hideD hB8
  have HB2 := hideD hB2
  clear hB8 hB2 hO2 hR2
  have hfin : ∀ (vb : Value) (wb : World), wb.ownsRow 0 5 1 vb (sb.length + bs.length) (sb.map (Value.int .u8) ++ bs.map (Value.int .u8)) → w2.grownBy wb (.slice sa sb.length sc : Value).ownBlock → (vb.ownBlock = (.slice sa sb.length sc : Value).ownBlock ∨ vb.ownBlock = some w2.heap.size) →
      ∃ va' vc', vb = .slice va' (sb.length + bs.length) vc' ∧ Bn wb Z [.slice sa sb.length sc, .int .i64 (sn : Int)] ∧ Kf F w (wb.setCell ⟨Z, 0, none⟩ vb) ∧
        Calls Try.prog 37 #[.pointer (some ⟨X, 0, none⟩), .int .i64 n, cv (vb, sb ++ bs, sn)] (wb.setCell ⟨Z, 0, none⟩ vb) fun e w' => e = .returned (.tuple #[]) ∧ (∃ mv', Bn w' X (.map mv' :: [.int .i64 (usM (brn d).L : Int), .int .i64 (brn d).room, .bool (brn d).dead, .bool (decide (0 ≤ (brn d).fuse)), .int .i64 gz]) ∧ PR w' X (nF F w) mv' (pt n (vb, sb ++ bs, sn) E)) ∧ Kf (nF F w) (wb.setCell ⟨Z, 0, none⟩ vb) w' := fun vb wb hOb hgb hat => by
    obtain ⟨va', vc', hvb, _, _⟩ := dorow_form hOb
    have hZb : wb.heap[Z]? = w2.heap[Z]? := hgb.block Z (by omega) (fun e => by have := hown1 Z e.symm; omega)
    have hXb : wb.heap[X]? = w2.heap[X]? := hgb.block X (by omega) (fun e => (a1 X e.symm).2 rfl)
    have hBb := HB8.out.blk hZb
    have hne : ∀ b, b ≠ Z → (wb.setCell ⟨Z, 0, none⟩ vb).heap[b]? = wb.heap[b]? := fun b hb => Below.heap_setCell _ _ _ _ (fun e => hb e)
    have hXs := (HB2.out.blk hXb).far (show Z ≠ X by omega) (i := 0) vb
    have hlen : (sb ++ bs).length = sb.length + bs.length := by simp
    have hvo : Own (wb.setCell ⟨Z, 0, none⟩ vb) 0 5 vb (sb ++ bs) := by
      unfold Own
      rw [hlen, List.map_append]
      exact ownsRow_keep hOb (fun g hg => hne g (fun e => by
        subst e
        rcases hat with h | h
        · rw [h] at hg
          have := hown1 _ hg
          omega
        · rw [h] at hg
          have := Option.some.inj hg
          omega))
    have hvf : ∀ g, vb.ownBlock = some g → nF F w g ∧ g ≠ X := fun g hg => by
      rcases hat with h | h
      · rw [h] at hg
        exact ⟨.inl (a1 g hg).1.1, (a1 g hg).2⟩
      · rw [h] at hg
        have := Option.some.inj hg
        exact ⟨.inr (by omega), by omega⟩
    have hap : ∀ x ∈ E, x.1 ≠ n → ∀ g, x.2.1.ownBlock = some g → vb.ownBlock ≠ some g := fun x hx hne g hg e => by
      rcases hat with h | h
      · rw [h] at e
        exact a2 x hx hne g hg e
      · rw [h] at e
        have := Option.some.inj e
        have := hxlt x hx g hg
        omega
    have hPx : PRx (wb.setCell ⟨Z, 0, none⟩ vb) X (nF F w) mv E n := hX2.keep (fun j _ hj => .inl hj.1)
      (fun b hb hlt => by
        obtain ⟨m1, m2, m3, m4⟩ := hmlt b hb
        rw [hne b (by omega)]
        exact hgb.block b hlt (fun e => m4 e.symm))
      (fun x hx hxn g hg hlt => by
        have := hxlt x hx g hg
        rw [hne g (by omega)]
        exact hgb.block g hlt (fun e => a2 x hx hxn g hg e.symm))
    have hc := dput_any (s := (vb, sb ++ bs, sn)) hPx hXs (.inl h1) hn hlE hvo hvf hap
    refine ⟨va', vc', hvb, hBb, (hK2.trans (Kf.grown hgb (fun k hk => (a1 k hk).1.1))).setNew (by omega) _, hc.mono ?_⟩
    rintro e w' ⟨rfl, ⟨mv', q1, q2⟩, q3⟩
    refine ⟨rfl, ⟨mv', q1, q2.mono (fun j _ hj => hj.elim id (fun h => .inr ?_))⟩, q3⟩
    have h1 := hgb.size
    have h2 : (wb.setCell ⟨Z, 0, none⟩ vb).heap.size = wb.heap.size := by simp
    omega
  have HF := hideD hfin
  clear hfin hX2 hmlt
  go_wp2_with (first
    | (at_builtin; refine wpList_append_at _ rfl _ _ 30 30 rfl 0 5 i0 (.int .u8 0) 1 1 Try.underlying30 hi hz0 hz1 hz2 rfl (.slice sa sb.length sc) sb.length _ rfl hO2' _ _ _ rfl hsrc bs.length (.inr (by omega)) (Nat.le_refl _) (by unfold maxLen; omega) (Nat.zero_le _) ?_; intro vb wb hOb hgb hat; obtain ⟨va', vc', rfl, hBb, hKb, hput⟩ := HF.out vb wb hOb hgb hat; obtain ⟨b0, j0⟩ := hBb 0 _ rfl; obtain ⟨b1, j1⟩ := hBb 1 _ rfl; clear HF hO2' hsrc t0 k0 hat hgb hOb; unfold cv at hput; simp only at hput)
    | (go_at_call 37; refine hput.mono ?_; rintro e w4 ⟨rfl, ⟨mv', q1, q2⟩, q3⟩; clear hput; obtain ⟨x1, y1⟩ := q1 1 _ rfl)
    | fail)
  go_ret
  have hwr : wrap64 ((usM (brn d).L : Int) + (bs.length : Int)) = (usM d.L : Int) + (bs.length : Int) := by
    rw [(brn_L d).1]
    unfold wrap64
    omega
  rw [hwr]
  have hD := HD.out
  rw [hold] at hD
  have hus2 := usM_app (bs := bs) (show Ris d.L by rw [← hmm]; exact hris.out) hold
  have hq := q1.set (i := 1) (by simp) (.int .i64 ((usM d.L : Int) + (bs.length : Int)))
  refine ⟨rfl, ⟨mv', pt n (.slice va' (sb.length + bs.length) vc', sb ++ bs, sn) E, gz, .inl h1, ?_, q2.setX _, ?_, ?_⟩, (hKb.transN q3).set h1 _⟩
  · rw [mmE_pt, hmm, ← hD]
  · rw [← hD]
    simp only
    rw [hus2]
    exact hq
  · rw [← hD]
    exact hg5.out

theorem rd_on {w w' : World} {v : Value} {xs : List Int} (h : Rd w v xs) (hb : Below w.heap.size w w') : Rd w' v xs := by
  obtain ⟨a, c, rfl, hc, hm, hnil, hcell⟩ := h
  exact ⟨a, c, rfl, hc, hm, hnil, fun x hx i hi => (hb.cell (p := x.add i) (World.block_lt_of_cell? w _ (hcell x hx i hi))).trans (hcell x hx i hi)⟩
set_option maxRecDepth 100000 in
set_option maxHeartbeats 2000000 in
theorem clone_any {w : World} {v : Value} {bs : List Int} (h : Rd w v bs) (hb : bs.length ≤ 1000000) :
    Calls Try.prog 34 #[v] w fun e w' => (∃ v', e = .returned v' ∧ Own w' w.heap.size 5 v' bs) ∧ Below w.heap.size w w' := by
  have q22 : ∀ (w : World) (a : Option Addr) (n c n' c' : Nat), (binOp .eql 30 (.slice a n c) (.slice none n' c')).run Try.prog w = .ok (.bool a.isNone) w := fun w a n c n' c' => Lib.run_eql_slice_nil w _ _ a n c n' c' Try.underlying30
  obtain ⟨a, c, rfl, hc, hm, hnil, hcell⟩ := id h
  cases a with
  | none =>
    obtain ⟨rfl, rfl⟩ := hnil rfl
    clear hcell h
    go_enter Try.func34, Try.ntmps34
    go_wp2
    go_ret
    exact ⟨⟨_, rfl, World.ownsRow_nil w _ 5 1⟩, Below.refl _ w⟩
  | some a =>
    obtain ⟨i0, hi, hz0, hz1, hz2⟩ := u8_inf
    have hal : Below w.heap.size w (w.alloc (.cells #[] 5)) := (Below.refl _ _).alloc (Nat.le_refl _) _
    have hR := rd_on h hal
    have hsrc := hR.src (t := 30) (e := 5) Try.underlying30
    have hown : (w.alloc (.cells #[] 5)).ownsRow w.heap.size 5 1 (.slice (some ⟨w.heap.size, 0, none⟩) 0 0) 0 [] := World.ownsRow_made w #[] 0 (Nat.le_refl _) (Nat.zero_le _) rfl
    clear hcell h hR hnil
    go_enter Try.func34, Try.ntmps34
    go_wp2_with (first
      | (at_builtin; refine wpList_append_at _ rfl _ _ 30 30 rfl w.heap.size 5 i0 (.int .u8 0) 1 1 Try.underlying30 hi hz0 hz1 hz2 rfl _ 0 _ rfl hown _ _ _ rfl hsrc bs.length (.inr (by omega)) (Nat.le_refl _) (by unfold maxLen; omega) (by simp) ?_; intro vb wb hOb hgb hat; clear hown hsrc)
      | fail)
    go_ret
    refine ⟨⟨_, rfl, ?_⟩, hal.grown hgb (by simp) (fun k hk => by have : w.heap.size = k := Option.some.inj hk; omega)⟩
    unfold Own
    simpa using hOb
theorem zC_rd (w : World) : Rd w zC.1 zC.2.1 := ⟨none, 0, rfl, by simp [zC], by simp [maxLen], fun _ => ⟨rfl, rfl⟩, fun x hx => by cases hx⟩
set_option maxRecDepth 100000 in
set_option maxHeartbeats 2000000 in
/-- Read, by what find answers. -/
theorem dread_by {w : World} {p : Value} {n : Int} {s : Sv} {x : Int} (hf : Calls Try.prog 33 #[p, .int .i64 n] w fun e w' => e = .returned (.tuple #[cv s, .int .i64 x]) ∧ Below w.heap.size w w') (hs : Rd w s.1 s.2.1) (hb : s.2.1.length ≤ 1000000) :
    Calls Try.prog 13 #[p, .int .i64 n] w fun e w' => (∃ v', e = .returned (.tuple #[v', .int .i64 x]) ∧ Own w' w.heap.size 5 v' s.2.1) ∧ Below w.heap.size w w' := by
  obtain ⟨sv, sb, sn⟩ := s
  simp only at hs hb
  obtain ⟨a, c, rfl, hc, hm, _, _⟩ := id hs
  unfold cv at hf
  simp only at hf ⊢
  go_enter Try.func13, Try.ntmps13
  go_upto_region 2 with (first
    | (go_at_call 33; refine hf.mono ?_; rintro e w2 ⟨rfl, b2⟩; clear hf)
    | fail)
  have b3 : Below w2.heap.size w2 (w2.alloc (.cells #[.slice a sb.length c, .int .i64 (sn : Int)] 63)) := (Below.refl _ _).alloc (Nat.le_refl _) _
  have hT := Bn2.new (w := w2) (.slice a sb.length c) (.int .i64 (sn : Int))
  have hR := rd_on (rd_on hs b2) b3
  have hbw := b2.trans (b3.mono b2.size)
  have hsz := hbw.size
  obtain ⟨t0, k0⟩ := hT 0 _ rfl
  have hcl := clone_any hR hb
  clear hR hs b2 hT b3
  obtain ⟨Z, hZ⟩ : ∃ Z, w2.heap.size = Z := ⟨_, rfl⟩
  simp only [hZ] at t0 k0 ⊢
  generalize w2.alloc (.cells #[.slice a sb.length c, .int .i64 (sn : Int)] 63) = w3 at *
  go_wp2_with (first
    | (go_at_call 34; refine hcl.mono ?_; rintro e w4 ⟨⟨v', rfl, ho⟩, b4⟩; clear hcl)
    | fail)
  go_ret2
  exact ⟨⟨_, rfl, ⟨ho.1, ho.2.imp id (fun ⟨g, cap, cur, e1, e2, e3⟩ => ⟨g, cap, cur, e1, Nat.le_trans hsz e2, e3⟩)⟩⟩, hbw.trans (b4.mono hsz)⟩
theorem dread_nil (w : World) (n : Int) : Calls Try.prog 13 #[.pointer none, .int .i64 n] w fun e w' => (∃ v', e = .returned (.tuple #[v', .int .i64 1]) ∧ Own w' w.heap.size 5 v' []) ∧ Below w.heap.size w w' :=
  dread_by (dfind_nil w n) (zC_rd w) (by simp [zC])
theorem dsynced_nil (w : World) (n : Int) : Calls Try.prog 14 #[.pointer none, .int .i64 n] w fun e w' => e = .returned (.int .i64 0) ∧ w = w' := by
  go_enter Try.func14, Try.ntmps14
  go_wp2
  go_ret
  exact ⟨rfl, rfl⟩
theorem dspoil_nil (w : World) (n k b : Int) : Calls Try.prog 22 #[.pointer none, .int .i64 n, .int .i64 k, .int .u8 b] w fun e w' => e = .returned (.bool false) ∧ w = w' := by
  go_enter Try.func22, Try.ntmps22
  go_wp2
  go_ret
  exact ⟨rfl, rfl⟩
theorem dcrash_nil (w : World) (v : Value) : Calls Try.prog 15 #[.pointer none, v] w fun e w' => e = .returned (.tuple #[]) ∧ w = w' := by
  go_enter Try.func15, Try.ntmps15
  go_wp2
  refine bodyPost_ret (results_none rfl _ _ _) rfl ?_
  exact ⟨rfl, rfl⟩
theorem dsegs_nil (w : World) : Calls Try.prog 12 #[.pointer none] w fun e w' => e = .returned (.slice none 0 0) ∧ w = w' := by
  go_enter Try.func12, Try.ntmps12
  go_wp2
  go_ret
  exact ⟨rfl, rfl⟩
end Go.Proofs.Ytbdblpdgfhmekaa
