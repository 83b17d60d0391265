
/- The document's reader in memory; what its is and fail do. -/
import Derived.Test.YtiddccohldjjcaaDoorRgS
import Derived.Test.YtiddccohldjjcaaDoorExC
import Derived.Test.YtiddccohldjjcaaDoorGlyB
import Derived.BigQuiet
import Derived.Deep.QuietTactic
import Derived.BigRegion
namespace Go.Proofs.YtiddccohldjjcaaDoor
open Go.RowKit Go.Lib
set_option linter.unusedSimpArgs false
set_option linter.unusedVariables false
attribute [local go_sem ↓] Go.wp_at_zero Go.wp_at_succ

/-- Nothing but block X has turned, and new blocks. -/
abbrev Fx (X : Nat) (w w' : World) : Prop := w.grownBy w' (some X)
theorem Fx.refl (X : Nat) (w : World) : Fx X w w := ⟨rfl, rfl, rfl, Nat.le_refl _, fun _ _ _ => rfl⟩
theorem Fx.trans {X : Nat} {a b c : World} (h : Fx X a b) (k : Fx X b c) : Fx X a c :=
  ⟨k.os.trans h.os, k.tape.trans h.tape, k.output.trans h.output, Nat.le_trans h.size k.size, fun j hj hne => (k.block j (Nat.lt_of_lt_of_le hj h.size) hne).trans (h.block j hj hne)⟩
theorem Fx.of {X B : Nat} {a b : World} (h : Below B a b) (hB : a.heap.size ≤ B) : Fx X a b := ⟨h.os, h.tape, h.output, h.size, fun k hk _ => h.block k (by omega)⟩
theorem Fx.setX {X i : Nat} {a b : World} (h : Fx X a b) (u : Value) : Fx X a (b.setCell ⟨X, i, none⟩ u) :=
  ⟨h.os, h.tape, h.output, by simpa using h.size, fun k hk hne => (Below.heap_setCell _ _ _ _ (fun e => hne (congrArg some e))).trans (h.block k hk hne)⟩
theorem Fx.drewN {X : Nat} {a b : World} (h : Fx X a b) (m : Nat) : Fx X a (b.drewN m) := ⟨h.os, h.tape, h.output, h.size, h.block⟩
theorem Fx.drew {X : Nat} {a b : World} (h : Fx X a b) : Fx X a b.drew := ⟨h.os, h.tape, h.output, h.size, h.block⟩
theorem Fx.alloc {X : Nat} {a b : World} (h : Fx X a b) (o : Obj) : Fx X a (b.alloc o) := h.trans (Fx.of ((Below.refl b.heap.size b).alloc (Nat.le_refl _) o) (Nat.le_refl _))
theorem Fx.below {X : Nat} {a b : World} (h : Fx X a b) {B : Nat} (hB : B ≤ X) (hs : B ≤ a.heap.size) : Below B a b := ⟨h.os, h.tape, h.output, h.size, fun k hk => h.block k (by omega) (fun e => by have : k = X := Option.some.inj e; omega)⟩
/-- A new block's cells, written. -/
theorem Fx.setN {X N i : Nat} {a b : World} (h : Fx X a b) (hN : a.heap.size ≤ N) (u : Value) : Fx X a (b.setCell ⟨N, i, none⟩ u) :=
  ⟨h.os, h.tape, h.output, by simpa using h.size, fun k hk hne => (Below.heap_setCell _ _ _ _ (fun e => by have : k = N := e; omega)).trans (h.block k hk hne)⟩
/-- The words, in memory apart from X. -/
def RdL (w : World) (X : Nat) (a : Option Addr) (ws : List Wd) : Prop := ∀ (i : Nat) (hi : i < ws.length), ∃ g, a = some ⟨g, 0, none⟩ ∧ g < X ∧ w.cell? ⟨g, i * 4, none⟩ = some (.int .i64 ((ws[i]).1 : Int)) ∧ w.cell? ⟨g, i * 4 + 1, none⟩ = some (.string (txt (ws[i]).2.1)) ∧ w.cell? ⟨g, i * 4 + 2, none⟩ = some (.int .i64 (ws[i]).2.2.1) ∧ w.cell? ⟨g, i * 4 + 3, none⟩ = some (.int .i64 (ws[i]).2.2.2)
theorem RdL.fx {w w' : World} {X : Nat} {a : Option Addr} {ws : List Wd} (h : RdL w X a ws) (hX : X < w.heap.size) (hf : Fx X w w') : RdL w' X a ws := fun i hi => by
  obtain ⟨g, h1, h3, c0, c1, c2, c3⟩ := h i hi
  have hb : w'.heap[g]? = w.heap[g]? := hf.block g (by omega) (fun e => by have : g = X := Option.some.inj e; omega)
  have hc : ∀ j, w'.cell? ⟨g, j, none⟩ = w.cell? ⟨g, j, none⟩ := fun j => World.cell?_of_block (w := w) (a := ⟨g, j, none⟩) hb
  exact ⟨g, h1, h3, (hc _).trans c0, (hc _).trans c1, (hc _).trans c2, (hc _).trans c3⟩
/-- The reader in block X. -/
structure Rr (w : World) (X : Nat) (a : Option Addr) (cap : Nat) (ws : List Wd) (n : Nat) (b : Int) : Prop where
  c0 : w.cell? ⟨X, 0, none⟩ = some (.slice a ws.length cap)
  c1 : w.cell? ⟨X, 1, none⟩ = some (.int .i64 (n : Int))
  c2 : w.cell? ⟨X, 2, none⟩ = some (.int .i64 b)
  f1 : w.frozen? ⟨X, 1, none⟩ = false
  f2 : w.frozen? ⟨X, 2, none⟩ = false
  l : RdL w X a ws
theorem Rr.lt {w : World} {X : Nat} {a : Option Addr} {cap : Nat} {ws : List Wd} {n : Nat} {b : Int} (h : Rr w X a cap ws n b) : X < w.heap.size := World.block_lt_of_cell? w _ h.c0
theorem Rr.on {w w' : World} {X : Nat} {a : Option Addr} {cap : Nat} {ws : List Wd} {n : Nat} {b : Int} (h : Rr w X a cap ws n b) (hb : Below w.heap.size w w') : Rr w' X a cap ws n b := by
  have hX := h.lt
  have hc : ∀ i, w'.cell? ⟨X, i, none⟩ = w.cell? ⟨X, i, none⟩ := fun i => hb.cell (p := ⟨X, i, none⟩) hX
  have hf : ∀ i, w'.frozen? ⟨X, i, none⟩ = w.frozen? ⟨X, i, none⟩ := fun i => hb.frozen (p := ⟨X, i, none⟩) hX
  exact ⟨(hc 0).trans h.c0, (hc 1).trans h.c1, (hc 2).trans h.c2, (hf 1).trans h.f1, (hf 2).trans h.f2, h.l.fx hX (Fx.of hb (Nat.le_refl _))⟩
theorem Rr.set1 {w : World} {X : Nat} {a : Option Addr} {cap : Nat} {ws : List Wd} {n : Nat} {b : Int} (h : Rr w X a cap ws n b) (n' : Nat) : Rr (w.setCell ⟨X, 1, none⟩ (.int .i64 (n' : Int))) X a cap ws n' b :=
  ⟨cell_far4 (by omega) h.c0, cell_same4 h.c1, cell_far4 (by omega) h.c2, (World.frozen?_setCell _ _ _ _).trans h.f1, (World.frozen?_setCell _ _ _ _).trans h.f2, h.l.fx h.lt ((Fx.refl X w).setX _)⟩
theorem Rr.set2 {w : World} {X : Nat} {a : Option Addr} {cap : Nat} {ws : List Wd} {n : Nat} {b : Int} (h : Rr w X a cap ws n b) (b' : Int) : Rr (w.setCell ⟨X, 2, none⟩ (.int .i64 b')) X a cap ws n b' :=
  ⟨cell_far4 (by omega) h.c0, cell_far4 (by omega) h.c1, cell_same4 h.c2, (World.frozen?_setCell _ _ _ _).trans h.f1, (World.frozen?_setCell _ _ _ _).trans h.f2, h.l.fx h.lt ((Fx.refl X w).setX _)⟩
theorem draws (w : World) (m : Nat) : Below w.heap.size w (w.drewN m) := ⟨rfl, rfl, rfl, Nat.le_refl _, fun _ _ => rfl⟩
set_option maxRecDepth 100000 in
set_option maxHeartbeats 4000000 in
theorem is_any {w : World} {X : Nat} {a : Option Addr} {cap : Nat} {ws : List Wd} {n : Nat} {b : Int} (h : Rr w X a cap ws n b) (t : List UInt8) (hl : ws.length ≤ 3000) (hcap : ws.length ≤ cap) :
    Calls Tryd.prog 65 #[.pointer (some ⟨X, 0, none⟩), .string ⟨t.toArray⟩] w fun e w' => e = .returned (.bool (isT (ws.map tkW) t n b)) ∧ ∃ m, w' = w.drewN m := by
  obtain ⟨c0, c1, c2, f1, f2, hL⟩ := h
  have i2 : (0 : Int) ≤ (n : Int) := by omega
  by_cases hb : b < 0
  · by_cases hn : n < ws.length
    · have i1 : (n : Int) < (ws.length : Int) := by omega
      obtain ⟨g, rfl, hgX, d0, d1, d2, d3⟩ := hL n hn
      have hget : (ws.map tkW)[n]? = some (tkW ws[n]) := by rw [List.getElem?_map, List.getElem?_eq_getElem hn]; rfl
      have e : isT (ws.map tkW) t n b = decide (byt (ws[n]).2.1 = t) := by unfold isT; rw [hget, decide_eq_true hb]; rfl
      rw [e]
      have hd1 : w.cell? ⟨g, n * 4 + 1, none⟩ = some (.string ⟨(byt (ws[n]).2.1).toArray⟩) := d1
      obtain ⟨bs, hbs⟩ : ∃ bs, byt (ws[n]).2.1 = bs := ⟨_, rfl⟩
      rw [hbs] at hd1 ⊢
      clear d1 hL hget hbs e
      by_cases hq : bs = t
      · have i3 : (bs == t) = true := by rw [hq]; simp
        rw [decide_eq_true hq]
        clear hq
        go_enter Tryd.func65, Tryd.ntmps65
        go_wp2
        go_quiet (fail)
        go_wp2
        go_ret
        exact ⟨rfl, _, rfl⟩
      · have i3 : (bs == t) = false := beq_eq_false_iff_ne.2 hq
        rw [decide_eq_false hq]
        clear hq
        go_enter Tryd.func65, Tryd.ntmps65
        go_wp2
        go_quiet (fail)
        go_wp2
        go_ret
        exact ⟨rfl, _, rfl⟩
    · have i1 : decide ((n : Int) < (ws.length : Int)) = false := decide_eq_false (by omega)
      have e : isT (ws.map tkW) t n b = false := by
        unfold isT
        rw [List.getElem?_eq_none (by rw [List.length_map]; omega)]; simp
      rw [e]
      clear hL e
      go_enter Tryd.func65, Tryd.ntmps65
      go_wp2
      go_quiet (fail)
      go_wp2
      go_ret
      exact ⟨rfl, _, rfl⟩
  · have i1 : decide (b < 0) = false := decide_eq_false hb
    have e : isT (ws.map tkW) t n b = false := by unfold isT; rw [i1]; rfl
    rw [e]
    clear hL e hb
    go_enter Tryd.func65, Tryd.ntmps65
    go_wp2
    go_quiet (fail)
    go_wp2
    go_ret
    exact ⟨rfl, _, rfl⟩
end Go.Proofs.YtiddccohldjjcaaDoor
