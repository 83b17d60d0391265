
/- What the document's primary does. -/
import Derived.Test.YtiddccohldjjcaaDoorRgB
import Derived.Test.YtiddccohldjjcaaDoorGlyN
import Derived.Deep.RegionHeldLaw
namespace Go.Proofs.YtiddccohldjjcaaDoor
open Go.RowKit Go.Lib
set_option linter.unusedSimpArgs false
set_option linter.unusedVariables false
attribute [local go_sem ↓] Go.wp_at_zero Go.wp_at_succ

abbrev psW (ws : List Wd) (f k n : Nat) : Rd3 := psr (valB 0) rsvB (ws.map tkW) f k n (-1)
/-- What is told of words that are read. -/
structure Wk (ws : List Wd) (cap : Nat) : Prop where
  l : ws.length ≤ 3000
  c : ws.length ≤ cap
  m : cap ≤ maxLen
  o : ∀ x ∈ ws, OneW x.1 x.2.1
def BinC (ws : List Wd) (f : Nat) : Prop := ∀ (X : Nat) (a : Option Addr) (cap n k : Nat) (w : World), Wk ws cap → 1 ≤ k → k ≤ 6 → 7 * (ws.length - n) + (6 - k) < f → Rr w X a cap ws n (-1) →
  Calls Tryd.prog 22 #[.pointer (some ⟨X, 0, none⟩), .int .i64 (k : Int)] w fun e w' => ∃ v, e = .returned v ∧ RdX (fun b => w.heap.size ≤ b) w' (psW ws f k n).1 v ∧ Rr w' X a cap ws (psW ws f k n).2.1 (psW ws f k n).2.2 ∧ Fx X w w'
def PrimC (ws : List Wd) (f : Nat) : Prop := ∀ (X : Nat) (a : Option Addr) (cap n : Nat) (w : World), Wk ws cap → 7 * (ws.length - n) < f → Rr w X a cap ws n (-1) →
  Calls Tryd.prog 42 #[.pointer (some ⟨X, 0, none⟩)] w fun e w' => ∃ v, e = .returned v ∧ RdX (fun b => w.heap.size ≤ b) w' (psW ws f 6 n).1 v ∧ Rr w' X a cap ws (psW ws f 6 n).2.1 (psW ws f 6 n).2.2 ∧ Fx X w w'
abbrev zN : Obj := .cells #[.int .i64 0, .int .i64 0, .string ⟨#[]⟩, .slice none 0 0] 30
theorem alN (wx : World) : Below wx.heap.size wx (wx.alloc zN) := (Below.refl _ _).alloc (Nat.le_refl _) _
theorem B4.fx {X N : Nat} {w w' : World} {a b c e : Value} (h : B4 w N a b c e) (hf : Fx X w w') (hN : N ≠ X) : B4 w' N a b c e := by
  have hb : w'.heap[N]? = w.heap[N]? := hf.block N h.lt (fun q => hN (Option.some.inj q))
  have hc : ∀ i, w'.cell? ⟨N, i, none⟩ = w.cell? ⟨N, i, none⟩ := fun i => World.cell?_of_block (w := w) (a := ⟨N, i, none⟩) hb
  have hz : ∀ i, w'.frozen? ⟨N, i, none⟩ = w.frozen? ⟨N, i, none⟩ := fun i => World.frozen?_of_block (w := w) (a := ⟨N, i, none⟩) hb
  exact ⟨(hc 0).trans h.c0, (hc 1).trans h.c1, (hc 2).trans h.c2, (hc 3).trans h.c3, (hz 0).trans h.f0, (hz 1).trans h.f1, (hz 2).trans h.f2, (hz 3).trans h.f3⟩
theorem Fx.put4 {X N : Nat} {a b : World} (h : Fx X a b) (hN : a.heap.size ≤ N) (c0 c1 c2 c3 : Value) : Fx X a (put4 b N c0 c1 c2 c3) := (((h.setN hN c0).setN hN c1).setN hN c2).setN hN c3
theorem Rr.far {w : World} {X N i : Nat} {a : Option Addr} {cap : Nat} {ws : List Wd} {n : Nat} {b : Int} (h : Rr w X a cap ws n b) (hN : X < N) (u : Value) : Rr (w.setCell ⟨N, i, none⟩ u) X a cap ws n b := by
  refine ⟨cell_far4 (by omega) h.c0, cell_far4 (by omega) h.c1, cell_far4 (by omega) h.c2, (World.frozen?_setCell _ _ _ _).trans h.f1, (World.frozen?_setCell _ _ _ _).trans h.f2, fun j hj => ?_⟩
  obtain ⟨g, h1, h3, d0, d1, d2, d3⟩ := h.l j hj
  exact ⟨g, h1, h3, cell_far4 (by omega) d0, cell_far4 (by omega) d1, cell_far4 (by omega) d2, cell_far4 (by omega) d3⟩
theorem Rr.far4 {w : World} {X N : Nat} {a : Option Addr} {cap : Nat} {ws : List Wd} {n : Nat} {b : Int} (h : Rr w X a cap ws n b) (hN : X < N) (c0 c1 c2 c3 : Value) : Rr (put4 w N c0 c1 c2 c3) X a cap ws n b := (((h.far hN c0).far hN c1).far hN c2).far hN c3
set_option maxRecDepth 100000 in
set_option maxHeartbeats 4000000 in
theorem prim_end {ws : List Wd} {f X : Nat} {a : Option Addr} {cap n : Nat} {w : World} (hk : Wk ws cap) (h : Rr w X a cap ws n (-1)) (hn : ¬ n < ws.length) :
    Calls Tryd.prog 42 #[.pointer (some ⟨X, 0, none⟩)] w fun e w' => ∃ v, e = .returned v ∧ RdX (fun b => w.heap.size ≤ b) w' (psW ws (f + 1) 6 n).1 v ∧ Rr w' X a cap ws (psW ws (f + 1) 6 n).2.1 (psW ws (f + 1) 6 n).2.2 ∧ Fx X w w' := by
  have e : psW ws (f + 1) 6 n = (noX, n, (n : Int)) := psr6_end (by rw [List.getElem?_eq_none_iff, List.length_map]; omega)
  rw [e]
  have hr0 := h.on (alN w)
  have hF := fun w1 (hr : Rr w1 X a cap ws n (-1)) => fail_any hr
  obtain ⟨c0, c1, c2, f1, f2, hL⟩ := id hr0
  have i1 : (n : Int) ≥ (ws.length : Int) := by omega
  have hX := h.lt
  clear hL e
  go_enter Tryd.func42, Tryd.ntmps42
  go_wp2
  go_quiet (fail)
  have hr1 := hr0.on (draws _ nq)
  have hf1 : Fx X w ((w.alloc zN).drewN nq) := ((Fx.refl X w).alloc _).drewN nq
  have hlt : w.heap.size < ((w.alloc zN).drewN nq).heap.size := by show _ < (w.alloc zN).heap.size; simp
  have hB0 : B4 ((w.alloc zN).drewN nq) w.heap.size (.int .i64 0) (.int .i64 0) (.string ⟨#[]⟩) (.slice none 0 0) := (B4.new w _ _ _ _ _ _ rfl).keep (draws _ nq)
  generalize (w.alloc zN).drewN nq = w1 at *
  go_wp2_with (first
    | (go_at_call 64; refine (hF _ hr1).mono ?_; rintro e w2 ⟨rfl, hr2, hf2⟩; obtain ⟨x0, x1, x2, x3, g0, g1, g2, g3⟩ := id (hB0.fx hf2 (by omega))))
  obtain ⟨q0, q1, q2, q3, _, _, _, _⟩ := (hB0.fx hf2 (by omega)).put (.int .i64 0) (.int .i64 0) (.string ⟨#[]⟩) (.slice none 0 0)
  exact bodyPost_ret (v := .agg #[.int .i64 0, .int .i64 0, .string ⟨#[]⟩, .slice none 0 0]) (by simp [results, Tryd.results42, go_sem, q0, q1, q2, q3]) rfl ⟨_, rfl, rdX_no _ _, hr2.far4 (by omega) _ _ _ _, (hf1.trans hf2).put4 (Nat.le_refl _) _ _ _ _⟩
end Go.Proofs.YtiddccohldjjcaaDoor
