
/- What the document's fail does; trees with their depth, in memory. -/
import Derived.Test.YtiddccohldjjcaaDoorRgA
namespace Go.Proofs.YtiddccohldjjcaaDoor
open Go.RowKit Go.Lib
set_option linter.unusedSimpArgs false
set_option linter.unusedVariables false
attribute [local go_sem ↓] Go.wp_at_zero Go.wp_at_succ

def RdX (ok : Nat → Prop) (w : World) (x : Sx) (v : Value) : Prop := RdT ok w x.1 x.2 v
theorem rdX_no (ok : Nat → Prop) (w : World) : RdX ok w noX (.agg #[.int .i64 0, .int .i64 0, .string ⟨#[]⟩, .slice none 0 0]) := rdT_none ok w
/-- It stays, where the blocks that it may lie in stay. -/
theorem RdX.keep {ok ok' : Nat → Prop} {w w' : World} {x : Sx} {v : Value} (h : RdX ok w x v) (hk : ∀ b, ok b → b < w.heap.size → ok' b ∧ w'.heap[b]? = w.heap[b]?) : RdX ok' w' x v := RdT.keep hk h
theorem rdT_lift {ok : Nat → Prop} {w : World} : ∀ (d : Nat) (t : T d) (v : Value), RdT ok w d t v → RdT ok w (d + 1) (lift d t) v
  | 0, t, _, _ => Empty.elim t
  | d + 1, t, v, h => by
    obtain ⟨k, n, s, ps, rfl⟩ := T.open t
    obtain ⟨sl, rfl, hp⟩ := rdT_mk.1 h
    rw [lift_mk]
    refine rdT_mk.2 ⟨sl, rfl, ?_⟩
    obtain ⟨a, cap, rfl, h1, h2, h3, h4⟩ := hp
    refine ⟨a, cap, by rw [List.length_map], by rw [List.length_map]; exact h1, h2, fun e => by rw [h3 e]; rfl, fun x hx i hi => ?_⟩
    rw [List.length_map] at hi
    obtain ⟨o, c0, c1, c2, c3, r, k0, k1, k2, k3⟩ := h4 x hx i hi
    exact ⟨o, c0, c1, c2, c3, by rw [List.getElem_map]; exact rdT_lift d _ _ r, k0, k1, k2, k3⟩
theorem rdT_addl {ok : Nat → Prop} {w : World} (d : Nat) (t : T d) (v : Value) (h : RdT ok w d t v) : ∀ k, RdT ok w (d + k) (addl d t k) v
  | 0 => h
  | k + 1 => rdT_lift _ _ _ (rdT_addl d t v h k)
theorem rdT_turn {ok : Nat → Prop} {w : World} {a b : Nat} (e : a = b) (t : T a) (v : Value) (h : RdT ok w a t v) : RdT ok w b (turn e t) v := by subst e; exact h
/-- Its four cells. -/
theorem RdX.form {ok : Nat → Prop} {w : World} {x : Sx} {v : Value} (h : RdX ok w x v) : ∃ k n s a m c, v = .agg #[.int .i64 k, .int .i64 n, .string s, .slice a m c] := by
  obtain ⟨d, t⟩ := x
  match d, t, h with
  | 0, t, _ => exact Empty.elim t
  | d + 1, t, h =>
    obtain ⟨k, n, s, ps, rfl⟩ := T.open t
    obtain ⟨sl, rfl, a, cap, rfl, _⟩ := rdT_mk.1 h
    exact ⟨k, n, s, a, _, cap, rfl⟩
theorem At4.blkR {w w' : World} {N : Nat} {a b c e : Value} (h : At4 w N a b c e) (hb : w'.heap[N]? = w.heap[N]?) : At4 w' N a b c e :=
  ⟨(World.cell?_of_block (w := w) (a := ⟨N, 0, none⟩) hb).trans h.1, (World.cell?_of_block (w := w) (a := ⟨N, 1, none⟩) hb).trans h.2.1, (World.cell?_of_block (w := w) (a := ⟨N, 2, none⟩) hb).trans h.2.2.1, (World.cell?_of_block (w := w) (a := ⟨N, 3, none⟩) hb).trans h.2.2.2⟩
/-- A node put together of one part. -/
theorem rdX_mk1 {ok : Nat → Prop} {N : Nat} {w : World} {x : Sx} {k : Int} {c0 c1 c2 c3 : Value} (h : RdX ok w x (.agg #[c0, c1, c2, c3])) (hN : ok N) (k0 : w.cell? ⟨N, 0, none⟩ = some c0) (k1 : w.cell? ⟨N, 1, none⟩ = some c1) (k2 : w.cell? ⟨N, 2, none⟩ = some c2) (k3 : w.cell? ⟨N, 3, none⟩ = some c3) :
    RdX ok w (mk1 k x) (.agg #[.int .i64 k, .int .i64 0, .string ⟨#[]⟩, .slice (some ⟨N, 0, none⟩) 1 1]) := by
  refine rdT_mk.2 ⟨_, rfl, some ⟨N, 0, none⟩, 1, rfl, by simp, by simp [maxLen], by simp, fun y hy i hi => ?_⟩
  obtain rfl := Option.some.inj hy
  have : i = 0 := by simp at hi; omega
  subst this
  exact ⟨hN, c0, c1, c2, c3, h, k0, k1, k2, k3⟩
theorem rdX_mk2 {ok : Nat → Prop} {N : Nat} {w : World} {x y : Sx} {s : ByteArray} {c0 c1 c2 c3 e0 e1 e2 e3 : Value} (h : RdX ok w x (.agg #[c0, c1, c2, c3])) (h' : RdX ok w y (.agg #[e0, e1, e2, e3])) (hN : ok N)
    (k0 : w.cell? ⟨N, 0, none⟩ = some c0) (k1 : w.cell? ⟨N, 1, none⟩ = some c1) (k2 : w.cell? ⟨N, 2, none⟩ = some c2) (k3 : w.cell? ⟨N, 3, none⟩ = some c3)
    (k4 : w.cell? ⟨N, 4, none⟩ = some e0) (k5 : w.cell? ⟨N, 5, none⟩ = some e1) (k6 : w.cell? ⟨N, 6, none⟩ = some e2) (k7 : w.cell? ⟨N, 7, none⟩ = some e3) :
    RdX ok w (mk2 s x y) (.agg #[.int .i64 5, .int .i64 0, .string s, .slice (some ⟨N, 0, none⟩) 2 2]) := by
  refine rdT_mk.2 ⟨_, rfl, some ⟨N, 0, none⟩, 2, rfl, by simp, by simp [maxLen], by simp, fun z hz i hi => ?_⟩
  obtain rfl := Option.some.inj hz
  have hi2 : i = 0 ∨ i = 1 := by simp at hi; omega
  rcases hi2 with rfl | rfl
  · exact ⟨hN, c0, c1, c2, c3, rdT_addl _ _ _ h _, k0, k1, k2, k3⟩
  · exact ⟨hN, e0, e1, e2, e3, rdT_turn _ _ _ (rdT_addl _ _ _ h' _), k4, k5, k6, k7⟩
theorem rdX_lit (ok : Nat → Prop) (w : World) (n : Int) : RdX ok w (mk0 1 n ⟨#[]⟩) (.agg #[.int .i64 1, .int .i64 n, .string ⟨#[]⟩, .slice none 0 0]) := ⟨_, rfl, rdP_none _ w⟩
theorem rdX_ref (ok : Nat → Prop) (w : World) (s : ByteArray) : RdX ok w (mk0 2 0 s) (.agg #[.int .i64 2, .int .i64 0, .string s, .slice none 0 0]) := ⟨_, rfl, rdP_none _ w⟩
set_option maxRecDepth 100000 in
set_option maxHeartbeats 4000000 in
theorem fail_any {w : World} {X : Nat} {a : Option Addr} {cap : Nat} {ws : List Wd} {n : Nat} {b : Int} (h : Rr w X a cap ws n b) :
    Calls Tryd.prog 64 #[.pointer (some ⟨X, 0, none⟩)] w fun e w' => e = .returned (.agg #[.int .i64 0, .int .i64 0, .string ⟨#[]⟩, .slice none 0 0]) ∧ Rr w' X a cap ws n (if b < 0 then (n : Int) else b) ∧ Fx X w w' := by
  have hX := h.lt
  have hal : ∀ wx : World, Below wx.heap.size wx (wx.alloc (.cells #[.int .i64 0, .int .i64 0, .string ⟨#[]⟩, .slice none 0 0] 30)) := fun wx => (Below.refl _ _).alloc (Nat.le_refl _) _
  have hr0 := h.on (hal w)
  obtain ⟨c0, c1, c2, f1, f2, hL⟩ := id hr0
  clear hL
  by_cases hb : b < 0
  · rw [if_pos hb]
    have hS := h.set2 (n : Int)
    go_enter Tryd.func64, Tryd.ntmps64
    go_wp2
    exact bodyPost_ret (v := .agg #[.int .i64 0, .int .i64 0, .string ⟨#[]⟩, .slice none 0 0]) (by simp [results, Tryd.results64, go_sem]) rfl ⟨rfl, hS.on (hal _), ((Fx.refl X w).setX _).alloc _⟩
  · rw [if_neg hb]
    go_enter Tryd.func64, Tryd.ntmps64
    go_wp2
    exact bodyPost_ret (v := .agg #[.int .i64 0, .int .i64 0, .string ⟨#[]⟩, .slice none 0 0]) (by simp [results, Tryd.results64, go_sem]) rfl ⟨rfl, hr0, (Fx.refl X w).alloc _⟩
end Go.Proofs.YtiddccohldjjcaaDoor
