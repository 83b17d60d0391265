import Derived.Test.YtiddccohldjjcaaDoorWg14
import Derived.Test.YtiddccohldjjcaaDoorWg05
import Derived.Deep.RegionHeldLaw
import Derived.Test.YtiddccohldjjcaaDoorRows
import Derived.Test.YtiddccohldjjcaaDoorWg02
import Derived.Deep.RegionHeld
import Derived.Deep.DrawnRows
import Derived.Test.YtiddccohldjjcaaDoorWg12
import Derived.Test.YtiddccohldjjcaaDoorWg15
import Derived.Test.YtiddccohldjjcaaDoorWg09
import Derived.ProofKit
import Derived.OpenShut
import Derived.ShutString
import Derived.ChangeOld
import Derived.SizedLaws
import Derived.Below

/- What Ours makes of an expression. -/
namespace Go.Proofs.YtiddccohldjjcaaDoor
open Go.RowKit Go.Lib
set_option linter.unusedSimpArgs false
set_option linter.unusedVariables false
attribute [local go_sem ↓] Go.wp_at_zero Go.wp_at_succ
attribute [local go_sem] as_lit_lit as_ref_lit as_ref_ref as_not_lit as_not_ref as_not_not as_neg_lit as_neg_ref as_neg_not as_neg_neg as_bin_lit as_bin_ref as_bin_not as_bin_neg as_bin_bin

theorem as_nil_lit (w : World) : (Instr.typeAssert .nilIface 24 51 true).run Tryd.prog w = .ok (.tuple #[.agg #[.int .i64 0], .bool false]) w := by kernel_rfl
theorem as_nil_ref (w : World) : (Instr.typeAssert .nilIface 24 57 true).run Tryd.prog w = .ok (.tuple #[.agg #[.string ⟨#[]⟩], .bool false]) w := by kernel_rfl
theorem as_nil_not (w : World) : (Instr.typeAssert .nilIface 24 59 true).run Tryd.prog w = .ok (.tuple #[.agg #[.nilIface], .bool false]) w := by kernel_rfl
theorem as_nil_neg (w : World) : (Instr.typeAssert .nilIface 24 60 true).run Tryd.prog w = .ok (.tuple #[.agg #[.nilIface], .bool false]) w := by kernel_rfl
theorem as_nil_bin (w : World) : (Instr.typeAssert .nilIface 24 53 true).run Tryd.prog w = .ok (.tuple #[.agg #[.string ⟨#[]⟩, .nilIface, .nilIface], .bool false]) w := by kernel_rfl
attribute [local go_sem] as_nil_lit as_nil_ref as_nil_not as_nil_neg as_nil_bin
theorem rdT_two {ok : Nat → Prop} {N : Nat} {w : World} {d : Nat} {x y : T d} {s : ByteArray} {c0 c1 c2 c3 e0 e1 e2 e3 : Value} (h : RdT ok w d x (.agg #[c0, c1, c2, c3])) (h' : RdT ok w d y (.agg #[e0, e1, e2, e3])) (hN : ok N)
    (k0 : w.cell? ⟨N, 0, none⟩ = some c0) (k1 : w.cell? ⟨N, 1, none⟩ = some c1) (k2 : w.cell? ⟨N, 2, none⟩ = some c2) (k3 : w.cell? ⟨N, 3, none⟩ = some c3)
    (k4 : w.cell? ⟨N, 4, none⟩ = some e0) (k5 : w.cell? ⟨N, 5, none⟩ = some e1) (k6 : w.cell? ⟨N, 6, none⟩ = some e2) (k7 : w.cell? ⟨N, 7, none⟩ = some e3) :
    RdT ok w (d + 1) (mkT 5 0 s [x, y]) (.agg #[.int .i64 5, .int .i64 0, .string s, .slice (some ⟨N, 0, none⟩) 2 2]) := by
  refine rdT_mk.2 ⟨_, rfl, some ⟨N, 0, none⟩, 2, rfl, by simp, by simp [maxLen], by simp, fun z hz i hi => ?_⟩
  obtain rfl := Option.some.inj hz
  have hi2 : i = 0 ∨ i = 1 := by simp at hi; omega
  rcases hi2 with rfl | rfl
  · exact ⟨hN, c0, c1, c2, c3, h, k0, k1, k2, k3⟩
  · exact ⟨hN, e0, e1, e2, e3, h', k4, k5, k6, k7⟩
theorem ours_res {w4 : World} {R : Nat} {a b c e : Value} {tmps : Array Value} (hB : B4 w4 R a b c e) (ht : tmps.getD 2 undef = .pointer (some ⟨R, 0, none⟩)) : (results Tryd.f9 tmps).run Tryd.prog w4 = .ok (.agg #[a, b, c, e]) w4 := by
  obtain ⟨c0, c1, c2, c3, _, _, _, _⟩ := hB
  have ht' : tmps[2]?.getD undef = .pointer (some ⟨R, 0, none⟩) := by simpa using ht
  simp [results, Tryd.results9, go_sem, ht', c0, c1, c2, c3]
def OursC (d : Nat) : Prop := ∀ (t : T d) (w : World), Cl d t → Calls Tryd.prog 9 #[exV d t] w fun e w' => ∃ u, e = .returned u ∧ RdT (fun b => w.heap.size ≤ b) w' d t u ∧ Below w.heap.size w w'
theorem rdT_form {ok : Nat → Prop} {w : World} {d : Nat} {t : T d} {v : Value} (h : RdT ok w d t v) : ∃ k n s a m c, v = .agg #[.int .i64 k, .int .i64 n, .string s, .slice a m c] := RdX.form (x := ⟨d, t⟩) h
theorem cell3_new (w : World) (a b c : Value) (t : TypeId) (n : Nat) (hn : n = w.heap.size) : (w.alloc (.cells #[a, b, c] t)).cell? ⟨n, 0, none⟩ = some a ∧ (w.alloc (.cells #[a, b, c] t)).cell? ⟨n, 1, none⟩ = some b ∧ (w.alloc (.cells #[a, b, c] t)).cell? ⟨n, 2, none⟩ = some c := by subst hn; simp
theorem ours_two {N : Nat} {w8 : World} {d : Nat} {x y : T d} {s : ByteArray} {c0 c1 c2 c3 e0 e1 e2 e3 : Value} (hx : RdT (fun b => N < b) w8 d x (.agg #[c0, c1, c2, c3])) (hy : RdT (fun b => N < b) w8 d y (.agg #[e0, e1, e2, e3])) (hl : N < w8.heap.size) :
    RdT (fun b => N ≤ b) (put4 (w8.alloc (.cells #[c0, c1, c2, c3, e0, e1, e2, e3] 30)) N (.int .i64 5) (.int .i64 0) (.string s) (.slice (some ⟨w8.heap.size, 0, none⟩) 2 2)) (d + 1) (mkT 5 0 s [x, y]) (.agg #[.int .i64 5, .int .i64 0, .string s, .slice (some ⟨w8.heap.size, 0, none⟩) 2 2]) := by
  have h9 := (Below.refl w8.heap.size w8).alloc (Nat.le_refl _) (.cells #[c0, c1, c2, c3, e0, e1, e2, e3] 30)
  have hblk : ∀ b, N < b → b < w8.heap.size → (put4 (w8.alloc (.cells #[c0, c1, c2, c3, e0, e1, e2, e3] 30)) N (.int .i64 5) (.int .i64 0) (.string s) (.slice (some ⟨w8.heap.size, 0, none⟩) 2 2)).heap[b]? = w8.heap[b]? := fun b hb hl => by
    rw [heap_put (by omega), h9.block b hl]
  have hc : ∀ i (u : Value), (#[c0, c1, c2, c3, e0, e1, e2, e3] : Array Value)[i]? = some u → (put4 (w8.alloc (.cells #[c0, c1, c2, c3, e0, e1, e2, e3] 30)) N (.int .i64 5) (.int .i64 0) (.string s) (.slice (some ⟨w8.heap.size, 0, none⟩) 2 2)).cell? ⟨w8.heap.size, i, none⟩ = some u := fun i u hu =>
    (World.cell?_of_block (a := ⟨w8.heap.size, i, none⟩) (heap_put (by show N ≠ w8.heap.size; omega) _ _ _ _)).trans ((cell_of_row _ _ i _ _ (0, 0) (heap_alloc_new w8 _)).trans hu)
  exact rdT_two (RdT.keep (fun b hb hlt => ⟨Nat.le_of_lt hb, hblk b hb hlt⟩) hx) (RdT.keep (fun b hb hlt => ⟨Nat.le_of_lt hb, hblk b hb hlt⟩) hy) (Nat.le_of_lt hl) (hc 0 _ rfl) (hc 1 _ rfl) (hc 2 _ rfl) (hc 3 _ rfl) (hc 4 _ rfl) (hc 5 _ rfl) (hc 6 _ rfl) (hc 7 _ rfl)
set_option maxRecDepth 100000 in
set_option maxHeartbeats 4000000 in
theorem ours_bin {d : Nat} (IH : OursC d) (s : ByteArray) (p q : T d) (hp : Cl d p) (hq : Cl d q) (w : World) :
    Calls Tryd.prog 9 #[.iface 53 (.agg #[.string s, exV d p, exV d q])] w fun e w' => ∃ u, e = .returned u ∧ RdT (fun b => w.heap.size ≤ b) w' (d + 1) (mkT 5 0 s [p, q]) u ∧ Below w.heap.size w w' := by
  have hb0 := alN w
  have hR0 : B4 (w.alloc zN) w.heap.size (.int .i64 0) (.int .i64 0) (.string ⟨#[]⟩) (.slice none 0 0) := B4.new w _ _ _ _ _ _ rfl
  have hs0 : (w.alloc zN).heap.size = w.heap.size + 1 := by simp
  have hI := fun w1 => IH p w1 hp
  have hJ := fun w1 => IH q w1 hq
  have hpf := exV_form d p
  have hqf := exV_form d q
  obtain ⟨pv, hpv⟩ : ∃ pv, exV d p = pv := ⟨_, rfl⟩
  obtain ⟨qv, hqv⟩ : ∃ qv, exV d q = qv := ⟨_, rfl⟩
  rw [hpv, hqv]
  simp only [hpv] at hI hpf
  simp only [hqv] at hJ hqf
  clear hpv hqv
  have hR1 := fun v => hR0.keep ((Below.refl _ (w.alloc zN)).alloc (Nat.le_refl _) (.cells #[.string s, pv, v] 53))
  have hb1 := hb0.alloc hb0.size (.cells #[.string s, pv, qv] 53)
  have hs1 : ((w.alloc zN).alloc (.cells #[.string s, pv, qv] 53)).heap.size = w.heap.size + 2 := by simp
  have hc1 := cell3_new (w.alloc zN) (.string s) pv qv 53 (w.heap.size + 1) hs0.symm
  have hR1 := hR1 qv
  rcases hpf with rfl | ⟨pu, py, rfl⟩ <;> rcases hqf with rfl | ⟨qu, qy, rfl⟩
  · go_enter Tryd.func9, Tryd.ntmps9
    go_upto_region 16 with fail
    obtain ⟨c1, c2, c3⟩ := hc1
    clear hs0 hb0 hR0
    generalize (w.alloc zN).alloc (.cells #[.string s, .nilIface, .nilIface] 53) = w1 at *
    go_region_held_law (fun w' => w'.cell? ⟨w.heap.size + 1, 0, none⟩ = some (.string s) ∧ w'.cell? ⟨w.heap.size + 1, 1, none⟩ = some (.nilIface) ∧ w'.cell? ⟨w.heap.size + 1, 2, none⟩ = some (.nilIface))
      (first | (with_reducible exact ⟨c1, c2, c3⟩) | (with_reducible exact ⟨d1, d2, d3⟩) | (with_reducible exact ⟨e1, e2, e3⟩) | (with_reducible exact ⟨f1, f2, f3⟩) | go_keep)
      ((first
        | (go_at_call 9; (with_reducible refine (hJ _).mono ?_); rintro e w4 ⟨v4, rfl, hy4, b4⟩; obtain ⟨yk, ym, ys, ya, yl, yc, rfl⟩ := rdT_form hy4; have e1 := (b4.cell (p := ⟨w.heap.size + 1, 0, none⟩) (World.block_lt_of_cell? _ _ d1)).trans d1; have e2 := (b4.cell (p := ⟨w.heap.size + 1, 1, none⟩) (World.block_lt_of_cell? _ _ d2)).trans d2; have e3 := (b4.cell (p := ⟨w.heap.size + 1, 2, none⟩) (World.block_lt_of_cell? _ _ d3)).trans d3; have ha5 := (Below.refl w4.heap.size w4).alloc (Nat.le_refl _) (.cells #[.int .i64 xk, .int .i64 xm, .string xs, .slice xa xl xc, .int .i64 yk, .int .i64 ym, .string ys, .slice ya yl yc] 30); have hR5 := ((hR1.keep b3').keep b4).keep ha5; obtain ⟨r0, r1, r2, r3, r4, r5, r6, r7⟩ := id hR5; have f1 := (ha5.cell (p := ⟨w.heap.size + 1, 0, none⟩) (World.block_lt_of_cell? _ _ e1)).trans e1; have f2 := (ha5.cell (p := ⟨w.heap.size + 1, 1, none⟩) (World.block_lt_of_cell? _ _ e2)).trans e2; have f3 := (ha5.cell (p := ⟨w.heap.size + 1, 2, none⟩) (World.block_lt_of_cell? _ _ e3)).trans e3)
        | (go_at_call 9; (with_reducible refine (hI _).mono ?_); rintro e w3 ⟨v3, rfl, hx3, b3⟩; obtain ⟨xk, xm, xs, xa, xl, xc, rfl⟩ := rdT_form hx3; have b3' : Below w1.heap.size w1 w3 := ((Below.refl _ w1).drew).trans b3; have d1 := (b3'.cell (p := ⟨w.heap.size + 1, 0, none⟩) (World.block_lt_of_cell? _ _ c1)).trans c1; have d2 := (b3'.cell (p := ⟨w.heap.size + 1, 1, none⟩) (World.block_lt_of_cell? _ _ c2)).trans c2; have d3 := (b3'.cell (p := ⟨w.heap.size + 1, 2, none⟩) (World.block_lt_of_cell? _ _ c3)).trans c3)))
    go_wp2
    have hs3 := b3'.size
    have hs4 := b4.size
    have hb4 := (hb1.trans (b3'.mono hb1.size)).trans (b4.mono (by omega))
    have hb5 := hb4.alloc (by omega) (.cells #[.int .i64 xk, .int .i64 xm, .string xs, .slice xa xl xc, .int .i64 yk, .int .i64 ym, .string ys, .slice ya yl yc] 30)
    exact bodyPost_ret (ours_res (hR5.put _ _ _ _) rfl) rfl ⟨_, rfl, ours_two (RdT.keep (ok' := fun b => w.heap.size < b) (fun b hb hl => ⟨by have : w1.heap.size ≤ b := hb; omega, b4.block b hl⟩) hx3) (RdT.keep (ok' := fun b => w.heap.size < b) (fun b hb hl => ⟨by omega, rfl⟩) hy4) (by omega), below_put hb5 (Nat.le_refl _) _ _ _ _⟩
  · go_enter Tryd.func9, Tryd.ntmps9
    go_upto_region 16 with fail
    obtain ⟨c1, c2, c3⟩ := hc1
    clear hs0 hb0 hR0
    generalize (w.alloc zN).alloc (.cells #[.string s, .nilIface, .iface qu qy] 53) = w1 at *
    go_region_held_law (fun w' => w'.cell? ⟨w.heap.size + 1, 0, none⟩ = some (.string s) ∧ w'.cell? ⟨w.heap.size + 1, 1, none⟩ = some (.nilIface) ∧ w'.cell? ⟨w.heap.size + 1, 2, none⟩ = some (.iface qu qy))
      (first | (with_reducible exact ⟨c1, c2, c3⟩) | (with_reducible exact ⟨d1, d2, d3⟩) | (with_reducible exact ⟨e1, e2, e3⟩) | (with_reducible exact ⟨f1, f2, f3⟩) | go_keep)
      ((first
        | (go_at_call 9; (with_reducible refine (hJ _).mono ?_); rintro e w4 ⟨v4, rfl, hy4, b4⟩; obtain ⟨yk, ym, ys, ya, yl, yc, rfl⟩ := rdT_form hy4; have e1 := (b4.cell (p := ⟨w.heap.size + 1, 0, none⟩) (World.block_lt_of_cell? _ _ d1)).trans d1; have e2 := (b4.cell (p := ⟨w.heap.size + 1, 1, none⟩) (World.block_lt_of_cell? _ _ d2)).trans d2; have e3 := (b4.cell (p := ⟨w.heap.size + 1, 2, none⟩) (World.block_lt_of_cell? _ _ d3)).trans d3; have ha5 := (Below.refl w4.heap.size w4).alloc (Nat.le_refl _) (.cells #[.int .i64 xk, .int .i64 xm, .string xs, .slice xa xl xc, .int .i64 yk, .int .i64 ym, .string ys, .slice ya yl yc] 30); have hR5 := ((hR1.keep b3').keep b4).keep ha5; obtain ⟨r0, r1, r2, r3, r4, r5, r6, r7⟩ := id hR5; have f1 := (ha5.cell (p := ⟨w.heap.size + 1, 0, none⟩) (World.block_lt_of_cell? _ _ e1)).trans e1; have f2 := (ha5.cell (p := ⟨w.heap.size + 1, 1, none⟩) (World.block_lt_of_cell? _ _ e2)).trans e2; have f3 := (ha5.cell (p := ⟨w.heap.size + 1, 2, none⟩) (World.block_lt_of_cell? _ _ e3)).trans e3)
        | (go_at_call 9; (with_reducible refine (hI _).mono ?_); rintro e w3 ⟨v3, rfl, hx3, b3⟩; obtain ⟨xk, xm, xs, xa, xl, xc, rfl⟩ := rdT_form hx3; have b3' : Below w1.heap.size w1 w3 := ((Below.refl _ w1).drew).trans b3; have d1 := (b3'.cell (p := ⟨w.heap.size + 1, 0, none⟩) (World.block_lt_of_cell? _ _ c1)).trans c1; have d2 := (b3'.cell (p := ⟨w.heap.size + 1, 1, none⟩) (World.block_lt_of_cell? _ _ c2)).trans c2; have d3 := (b3'.cell (p := ⟨w.heap.size + 1, 2, none⟩) (World.block_lt_of_cell? _ _ c3)).trans c3)))
    go_wp2
    have hs3 := b3'.size
    have hs4 := b4.size
    have hb4 := (hb1.trans (b3'.mono hb1.size)).trans (b4.mono (by omega))
    have hb5 := hb4.alloc (by omega) (.cells #[.int .i64 xk, .int .i64 xm, .string xs, .slice xa xl xc, .int .i64 yk, .int .i64 ym, .string ys, .slice ya yl yc] 30)
    exact bodyPost_ret (ours_res (hR5.put _ _ _ _) rfl) rfl ⟨_, rfl, ours_two (RdT.keep (ok' := fun b => w.heap.size < b) (fun b hb hl => ⟨by have : w1.heap.size ≤ b := hb; omega, b4.block b hl⟩) hx3) (RdT.keep (ok' := fun b => w.heap.size < b) (fun b hb hl => ⟨by omega, rfl⟩) hy4) (by omega), below_put hb5 (Nat.le_refl _) _ _ _ _⟩
  · go_enter Tryd.func9, Tryd.ntmps9
    go_upto_region 16 with fail
    obtain ⟨c1, c2, c3⟩ := hc1
    clear hs0 hb0 hR0
    generalize (w.alloc zN).alloc (.cells #[.string s, .iface pu py, .nilIface] 53) = w1 at *
    go_region_held_law (fun w' => w'.cell? ⟨w.heap.size + 1, 0, none⟩ = some (.string s) ∧ w'.cell? ⟨w.heap.size + 1, 1, none⟩ = some (.iface pu py) ∧ w'.cell? ⟨w.heap.size + 1, 2, none⟩ = some (.nilIface))
      (first | (with_reducible exact ⟨c1, c2, c3⟩) | (with_reducible exact ⟨d1, d2, d3⟩) | (with_reducible exact ⟨e1, e2, e3⟩) | (with_reducible exact ⟨f1, f2, f3⟩) | go_keep)
      ((first
        | (go_at_call 9; (with_reducible refine (hJ _).mono ?_); rintro e w4 ⟨v4, rfl, hy4, b4⟩; obtain ⟨yk, ym, ys, ya, yl, yc, rfl⟩ := rdT_form hy4; have e1 := (b4.cell (p := ⟨w.heap.size + 1, 0, none⟩) (World.block_lt_of_cell? _ _ d1)).trans d1; have e2 := (b4.cell (p := ⟨w.heap.size + 1, 1, none⟩) (World.block_lt_of_cell? _ _ d2)).trans d2; have e3 := (b4.cell (p := ⟨w.heap.size + 1, 2, none⟩) (World.block_lt_of_cell? _ _ d3)).trans d3; have ha5 := (Below.refl w4.heap.size w4).alloc (Nat.le_refl _) (.cells #[.int .i64 xk, .int .i64 xm, .string xs, .slice xa xl xc, .int .i64 yk, .int .i64 ym, .string ys, .slice ya yl yc] 30); have hR5 := ((hR1.keep b3').keep b4).keep ha5; obtain ⟨r0, r1, r2, r3, r4, r5, r6, r7⟩ := id hR5; have f1 := (ha5.cell (p := ⟨w.heap.size + 1, 0, none⟩) (World.block_lt_of_cell? _ _ e1)).trans e1; have f2 := (ha5.cell (p := ⟨w.heap.size + 1, 1, none⟩) (World.block_lt_of_cell? _ _ e2)).trans e2; have f3 := (ha5.cell (p := ⟨w.heap.size + 1, 2, none⟩) (World.block_lt_of_cell? _ _ e3)).trans e3)
        | (go_at_call 9; (with_reducible refine (hI _).mono ?_); rintro e w3 ⟨v3, rfl, hx3, b3⟩; obtain ⟨xk, xm, xs, xa, xl, xc, rfl⟩ := rdT_form hx3; have b3' : Below w1.heap.size w1 w3 := ((Below.refl _ w1).drew).trans b3; have d1 := (b3'.cell (p := ⟨w.heap.size + 1, 0, none⟩) (World.block_lt_of_cell? _ _ c1)).trans c1; have d2 := (b3'.cell (p := ⟨w.heap.size + 1, 1, none⟩) (World.block_lt_of_cell? _ _ c2)).trans c2; have d3 := (b3'.cell (p := ⟨w.heap.size + 1, 2, none⟩) (World.block_lt_of_cell? _ _ c3)).trans c3)))
    go_wp2
    have hs3 := b3'.size
    have hs4 := b4.size
    have hb4 := (hb1.trans (b3'.mono hb1.size)).trans (b4.mono (by omega))
    have hb5 := hb4.alloc (by omega) (.cells #[.int .i64 xk, .int .i64 xm, .string xs, .slice xa xl xc, .int .i64 yk, .int .i64 ym, .string ys, .slice ya yl yc] 30)
    exact bodyPost_ret (ours_res (hR5.put _ _ _ _) rfl) rfl ⟨_, rfl, ours_two (RdT.keep (ok' := fun b => w.heap.size < b) (fun b hb hl => ⟨by have : w1.heap.size ≤ b := hb; omega, b4.block b hl⟩) hx3) (RdT.keep (ok' := fun b => w.heap.size < b) (fun b hb hl => ⟨by omega, rfl⟩) hy4) (by omega), below_put hb5 (Nat.le_refl _) _ _ _ _⟩
  · go_enter Tryd.func9, Tryd.ntmps9
    go_upto_region 16 with fail
    obtain ⟨c1, c2, c3⟩ := hc1
    clear hs0 hb0 hR0
    generalize (w.alloc zN).alloc (.cells #[.string s, .iface pu py, .iface qu qy] 53) = w1 at *
    go_region_held_law (fun w' => w'.cell? ⟨w.heap.size + 1, 0, none⟩ = some (.string s) ∧ w'.cell? ⟨w.heap.size + 1, 1, none⟩ = some (.iface pu py) ∧ w'.cell? ⟨w.heap.size + 1, 2, none⟩ = some (.iface qu qy))
      (first | (with_reducible exact ⟨c1, c2, c3⟩) | (with_reducible exact ⟨d1, d2, d3⟩) | (with_reducible exact ⟨e1, e2, e3⟩) | (with_reducible exact ⟨f1, f2, f3⟩) | go_keep)
      ((first
        | (go_at_call 9; (with_reducible refine (hJ _).mono ?_); rintro e w4 ⟨v4, rfl, hy4, b4⟩; obtain ⟨yk, ym, ys, ya, yl, yc, rfl⟩ := rdT_form hy4; have e1 := (b4.cell (p := ⟨w.heap.size + 1, 0, none⟩) (World.block_lt_of_cell? _ _ d1)).trans d1; have e2 := (b4.cell (p := ⟨w.heap.size + 1, 1, none⟩) (World.block_lt_of_cell? _ _ d2)).trans d2; have e3 := (b4.cell (p := ⟨w.heap.size + 1, 2, none⟩) (World.block_lt_of_cell? _ _ d3)).trans d3; have ha5 := (Below.refl w4.heap.size w4).alloc (Nat.le_refl _) (.cells #[.int .i64 xk, .int .i64 xm, .string xs, .slice xa xl xc, .int .i64 yk, .int .i64 ym, .string ys, .slice ya yl yc] 30); have hR5 := ((hR1.keep b3').keep b4).keep ha5; obtain ⟨r0, r1, r2, r3, r4, r5, r6, r7⟩ := id hR5; have f1 := (ha5.cell (p := ⟨w.heap.size + 1, 0, none⟩) (World.block_lt_of_cell? _ _ e1)).trans e1; have f2 := (ha5.cell (p := ⟨w.heap.size + 1, 1, none⟩) (World.block_lt_of_cell? _ _ e2)).trans e2; have f3 := (ha5.cell (p := ⟨w.heap.size + 1, 2, none⟩) (World.block_lt_of_cell? _ _ e3)).trans e3)
        | (go_at_call 9; (with_reducible refine (hI _).mono ?_); rintro e w3 ⟨v3, rfl, hx3, b3⟩; obtain ⟨xk, xm, xs, xa, xl, xc, rfl⟩ := rdT_form hx3; have b3' : Below w1.heap.size w1 w3 := ((Below.refl _ w1).drew).trans b3; have d1 := (b3'.cell (p := ⟨w.heap.size + 1, 0, none⟩) (World.block_lt_of_cell? _ _ c1)).trans c1; have d2 := (b3'.cell (p := ⟨w.heap.size + 1, 1, none⟩) (World.block_lt_of_cell? _ _ c2)).trans c2; have d3 := (b3'.cell (p := ⟨w.heap.size + 1, 2, none⟩) (World.block_lt_of_cell? _ _ c3)).trans c3)))
    go_wp2
    have hs3 := b3'.size
    have hs4 := b4.size
    have hb4 := (hb1.trans (b3'.mono hb1.size)).trans (b4.mono (by omega))
    have hb5 := hb4.alloc (by omega) (.cells #[.int .i64 xk, .int .i64 xm, .string xs, .slice xa xl xc, .int .i64 yk, .int .i64 ym, .string ys, .slice ya yl yc] 30)
    exact bodyPost_ret (ours_res (hR5.put _ _ _ _) rfl) rfl ⟨_, rfl, ours_two (RdT.keep (ok' := fun b => w.heap.size < b) (fun b hb hl => ⟨by have : w1.heap.size ≤ b := hb; omega, b4.block b hl⟩) hx3) (RdT.keep (ok' := fun b => w.heap.size < b) (fun b hb hl => ⟨by omega, rfl⟩) hy4) (by omega), below_put hb5 (Nat.le_refl _) _ _ _ _⟩
set_option maxRecDepth 100000 in
set_option maxHeartbeats 4000000 in
theorem ours_step (d : Nat) (IH : OursC d) : OursC (d + 1) := by
  intro t w hc
  have hb0 := alN w
  have hR0 : B4 (w.alloc zN) w.heap.size (.int .i64 0) (.int .i64 0) (.string ⟨#[]⟩) (.slice none 0 0) := B4.new w _ _ _ _ _ _ rfl
  have hs0 : (w.alloc zN).heap.size = w.heap.size + 1 := by simp
  rcases hc.cases with ⟨n, rfl⟩ | ⟨s, rfl⟩ | ⟨k, p, hk, rfl, hp⟩ | ⟨s, p, q, rfl, hp, hq⟩ | rfl
  · have e : exV (d + 1) (mkT 1 n ⟨#[]⟩ [] : T (d + 1)) = .iface 51 (.agg #[.int .i64 n]) := rfl
    rw [e]
    go_enter Tryd.func9, Tryd.ntmps9
    go_upto_region 4 with fail
    have hR1 := hR0.keep ((Below.refl _ (w.alloc zN)).alloc (Nat.le_refl _) (.cells #[.int .i64 n] 51))
    have hb1 := hb0.alloc hb0.size (.cells #[.int .i64 n] 51)
    have c1 : ((w.alloc zN).alloc (.cells #[.int .i64 n] 51)).cell? ⟨w.heap.size + 1, 0, none⟩ = some (.int .i64 n) := cell1_new _ _ _ _ hs0.symm
    generalize (w.alloc zN).alloc (.cells #[.int .i64 n] 51) = w1 at *
    obtain ⟨r0, r1, r2, r3, r4, r5, r6, r7⟩ := id hR1
    go_wp2
    exact bodyPost_ret (ours_res (hR1.put _ _ _ _) rfl) rfl ⟨_, rfl, ⟨_, rfl, rdP_none _ _⟩, below_put hb1 (Nat.le_refl _) _ _ _ _⟩
  · have e : exV (d + 1) (mkT 2 0 s [] : T (d + 1)) = .iface 57 (.agg #[.string s]) := rfl
    rw [e]
    go_enter Tryd.func9, Tryd.ntmps9
    go_upto_region 7 with fail
    have hR1 := hR0.keep ((Below.refl _ (w.alloc zN)).alloc (Nat.le_refl _) (.cells #[.string s] 57))
    have hb1 := hb0.alloc hb0.size (.cells #[.string s] 57)
    have c1 : ((w.alloc zN).alloc (.cells #[.string s] 57)).cell? ⟨w.heap.size + 1, 0, none⟩ = some (.string s) := cell1_new _ _ _ _ hs0.symm
    generalize (w.alloc zN).alloc (.cells #[.string s] 57) = w1 at *
    obtain ⟨r0, r1, r2, r3, r4, r5, r6, r7⟩ := id hR1
    go_wp2
    exact bodyPost_ret (ours_res (hR1.put _ _ _ _) rfl) rfl ⟨_, rfl, ⟨_, rfl, rdP_none _ _⟩, below_put hb1 (Nat.le_refl _) _ _ _ _⟩
  · have hI := fun w1 => IH p w1 hp
    have hpf := exV_form d p
    obtain ⟨pv, hpv⟩ : ∃ pv, exV d p = pv := ⟨_, rfl⟩
    have e : exV (d + 1) (mkT k 0 ⟨#[]⟩ [p] : T (d + 1)) = if k = 3 then .iface 59 (.agg #[pv]) else .iface 60 (.agg #[pv]) := by
      rw [exV_mk, if_neg (by omega), if_neg (by omega), ← hpv]
      rcases hk with rfl | rfl
      · rfl
      · rfl
    rw [e]
    simp only [hpv] at hI hpf
    clear e hpv
    rcases hk with rfl | rfl
    · rw [if_pos rfl]
      rcases hpf with rfl | ⟨pu, py, rfl⟩
      · go_enter Tryd.func9, Tryd.ntmps9
        go_upto_region 10 with fail
        have ha1 := fun v => (Below.refl _ (w.alloc zN)).alloc (Nat.le_refl _) (.cells #[v] 59)
        have hR1 := hR0.keep (ha1 (.nilIface))
        have hb1 := hb0.alloc hb0.size (.cells #[.nilIface] 59)
        have hs1 : ((w.alloc zN).alloc (.cells #[.nilIface] 59)).heap.size = w.heap.size + 2 := by simp
        have c1 : ((w.alloc zN).alloc (.cells #[.nilIface] 59)).cell? ⟨w.heap.size + 1, 0, none⟩ = some (.nilIface) := cell1_new _ _ _ _ hs0.symm
        clear ha1 hs0 hb0 hR0
        generalize (w.alloc zN).alloc (.cells #[.nilIface] 59) = w1 at *
        go_wp2_with (first
          | (go_at_call 9; refine (hI _).mono ?_; rintro e w3 ⟨v, rfl, hx3, b3⟩; obtain ⟨xk, xm, xs, xa, xl, xc, rfl⟩ := rdT_form hx3; have ha4 := (Below.refl w3.heap.size w3).alloc (Nat.le_refl _) (.cells #[.int .i64 xk, .int .i64 xm, .string xs, .slice xa xl xc] 30); have hR4 := (hR1.keep b3).keep ha4; obtain ⟨r0, r1, r2, r3, r4, r5, r6, r7⟩ := id hR4))
        have hs3 := b3.size
        have hb4 := (hb1.trans (b3.mono hb1.size)).alloc (hb1.trans (b3.mono hb1.size)).size (.cells #[.int .i64 xk, .int .i64 xm, .string xs, .slice xa xl xc] 30)
        obtain ⟨k0, k1, k2, k3⟩ := (At4.new w3 (.int .i64 xk) (.int .i64 xm) (.string xs) (.slice xa xl xc) 30).blkR (w' := put4 (w3.alloc (.cells #[.int .i64 xk, .int .i64 xm, .string xs, .slice xa xl xc] 30)) w.heap.size (.int .i64 3) (.int .i64 0) (.string ⟨#[]⟩) (.slice (some ⟨w3.heap.size, 0, none⟩) 1 1)) (heap_put (by omega) _ _ _ _)
        exact bodyPost_ret (ours_res (hR4.put _ _ _ _) rfl) rfl ⟨_, rfl, rdX_mk1 (x := ⟨d, p⟩) (RdX.keep (x := ⟨d, p⟩) hx3 (fun b hb hl => ⟨by omega, (heap_put (by omega) _ _ _ _).trans (ha4.block b hl)⟩)) (by omega) k0 k1 k2 k3, below_put hb4 (Nat.le_refl _) _ _ _ _⟩
      · go_enter Tryd.func9, Tryd.ntmps9
        go_upto_region 10 with fail
        have ha1 := fun v => (Below.refl _ (w.alloc zN)).alloc (Nat.le_refl _) (.cells #[v] 59)
        have hR1 := hR0.keep (ha1 (.iface pu py))
        have hb1 := hb0.alloc hb0.size (.cells #[.iface pu py] 59)
        have hs1 : ((w.alloc zN).alloc (.cells #[.iface pu py] 59)).heap.size = w.heap.size + 2 := by simp
        have c1 : ((w.alloc zN).alloc (.cells #[.iface pu py] 59)).cell? ⟨w.heap.size + 1, 0, none⟩ = some (.iface pu py) := cell1_new _ _ _ _ hs0.symm
        clear ha1 hs0 hb0 hR0
        generalize (w.alloc zN).alloc (.cells #[.iface pu py] 59) = w1 at *
        go_wp2_with (first
          | (go_at_call 9; refine (hI _).mono ?_; rintro e w3 ⟨v, rfl, hx3, b3⟩; obtain ⟨xk, xm, xs, xa, xl, xc, rfl⟩ := rdT_form hx3; have ha4 := (Below.refl w3.heap.size w3).alloc (Nat.le_refl _) (.cells #[.int .i64 xk, .int .i64 xm, .string xs, .slice xa xl xc] 30); have hR4 := (hR1.keep b3).keep ha4; obtain ⟨r0, r1, r2, r3, r4, r5, r6, r7⟩ := id hR4))
        have hs3 := b3.size
        have hb4 := (hb1.trans (b3.mono hb1.size)).alloc (hb1.trans (b3.mono hb1.size)).size (.cells #[.int .i64 xk, .int .i64 xm, .string xs, .slice xa xl xc] 30)
        obtain ⟨k0, k1, k2, k3⟩ := (At4.new w3 (.int .i64 xk) (.int .i64 xm) (.string xs) (.slice xa xl xc) 30).blkR (w' := put4 (w3.alloc (.cells #[.int .i64 xk, .int .i64 xm, .string xs, .slice xa xl xc] 30)) w.heap.size (.int .i64 3) (.int .i64 0) (.string ⟨#[]⟩) (.slice (some ⟨w3.heap.size, 0, none⟩) 1 1)) (heap_put (by omega) _ _ _ _)
        exact bodyPost_ret (ours_res (hR4.put _ _ _ _) rfl) rfl ⟨_, rfl, rdX_mk1 (x := ⟨d, p⟩) (RdX.keep (x := ⟨d, p⟩) hx3 (fun b hb hl => ⟨by omega, (heap_put (by omega) _ _ _ _).trans (ha4.block b hl)⟩)) (by omega) k0 k1 k2 k3, below_put hb4 (Nat.le_refl _) _ _ _ _⟩
    · rw [if_neg (by decide)]
      rcases hpf with rfl | ⟨pu, py, rfl⟩
      · go_enter Tryd.func9, Tryd.ntmps9
        go_upto_region 13 with fail
        have ha1 := fun v => (Below.refl _ (w.alloc zN)).alloc (Nat.le_refl _) (.cells #[v] 60)
        have hR1 := hR0.keep (ha1 (.nilIface))
        have hb1 := hb0.alloc hb0.size (.cells #[.nilIface] 60)
        have hs1 : ((w.alloc zN).alloc (.cells #[.nilIface] 60)).heap.size = w.heap.size + 2 := by simp
        have c1 : ((w.alloc zN).alloc (.cells #[.nilIface] 60)).cell? ⟨w.heap.size + 1, 0, none⟩ = some (.nilIface) := cell1_new _ _ _ _ hs0.symm
        clear ha1 hs0 hb0 hR0
        generalize (w.alloc zN).alloc (.cells #[.nilIface] 60) = w1 at *
        go_wp2_with (first
          | (go_at_call 9; refine (hI _).mono ?_; rintro e w3 ⟨v, rfl, hx3, b3⟩; obtain ⟨xk, xm, xs, xa, xl, xc, rfl⟩ := rdT_form hx3; have ha4 := (Below.refl w3.heap.size w3).alloc (Nat.le_refl _) (.cells #[.int .i64 xk, .int .i64 xm, .string xs, .slice xa xl xc] 30); have hR4 := (hR1.keep b3).keep ha4; obtain ⟨r0, r1, r2, r3, r4, r5, r6, r7⟩ := id hR4))
        have hs3 := b3.size
        have hb4 := (hb1.trans (b3.mono hb1.size)).alloc (hb1.trans (b3.mono hb1.size)).size (.cells #[.int .i64 xk, .int .i64 xm, .string xs, .slice xa xl xc] 30)
        obtain ⟨k0, k1, k2, k3⟩ := (At4.new w3 (.int .i64 xk) (.int .i64 xm) (.string xs) (.slice xa xl xc) 30).blkR (w' := put4 (w3.alloc (.cells #[.int .i64 xk, .int .i64 xm, .string xs, .slice xa xl xc] 30)) w.heap.size (.int .i64 4) (.int .i64 0) (.string ⟨#[]⟩) (.slice (some ⟨w3.heap.size, 0, none⟩) 1 1)) (heap_put (by omega) _ _ _ _)
        exact bodyPost_ret (ours_res (hR4.put _ _ _ _) rfl) rfl ⟨_, rfl, rdX_mk1 (x := ⟨d, p⟩) (RdX.keep (x := ⟨d, p⟩) hx3 (fun b hb hl => ⟨by omega, (heap_put (by omega) _ _ _ _).trans (ha4.block b hl)⟩)) (by omega) k0 k1 k2 k3, below_put hb4 (Nat.le_refl _) _ _ _ _⟩
      · go_enter Tryd.func9, Tryd.ntmps9
        go_upto_region 13 with fail
        have ha1 := fun v => (Below.refl _ (w.alloc zN)).alloc (Nat.le_refl _) (.cells #[v] 60)
        have hR1 := hR0.keep (ha1 (.iface pu py))
        have hb1 := hb0.alloc hb0.size (.cells #[.iface pu py] 60)
        have hs1 : ((w.alloc zN).alloc (.cells #[.iface pu py] 60)).heap.size = w.heap.size + 2 := by simp
        have c1 : ((w.alloc zN).alloc (.cells #[.iface pu py] 60)).cell? ⟨w.heap.size + 1, 0, none⟩ = some (.iface pu py) := cell1_new _ _ _ _ hs0.symm
        clear ha1 hs0 hb0 hR0
        generalize (w.alloc zN).alloc (.cells #[.iface pu py] 60) = w1 at *
        go_wp2_with (first
          | (go_at_call 9; refine (hI _).mono ?_; rintro e w3 ⟨v, rfl, hx3, b3⟩; obtain ⟨xk, xm, xs, xa, xl, xc, rfl⟩ := rdT_form hx3; have ha4 := (Below.refl w3.heap.size w3).alloc (Nat.le_refl _) (.cells #[.int .i64 xk, .int .i64 xm, .string xs, .slice xa xl xc] 30); have hR4 := (hR1.keep b3).keep ha4; obtain ⟨r0, r1, r2, r3, r4, r5, r6, r7⟩ := id hR4))
        have hs3 := b3.size
        have hb4 := (hb1.trans (b3.mono hb1.size)).alloc (hb1.trans (b3.mono hb1.size)).size (.cells #[.int .i64 xk, .int .i64 xm, .string xs, .slice xa xl xc] 30)
        obtain ⟨k0, k1, k2, k3⟩ := (At4.new w3 (.int .i64 xk) (.int .i64 xm) (.string xs) (.slice xa xl xc) 30).blkR (w' := put4 (w3.alloc (.cells #[.int .i64 xk, .int .i64 xm, .string xs, .slice xa xl xc] 30)) w.heap.size (.int .i64 4) (.int .i64 0) (.string ⟨#[]⟩) (.slice (some ⟨w3.heap.size, 0, none⟩) 1 1)) (heap_put (by omega) _ _ _ _)
        exact bodyPost_ret (ours_res (hR4.put _ _ _ _) rfl) rfl ⟨_, rfl, rdX_mk1 (x := ⟨d, p⟩) (RdX.keep (x := ⟨d, p⟩) hx3 (fun b hb hl => ⟨by omega, (heap_put (by omega) _ _ _ _).trans (ha4.block b hl)⟩)) (by omega) k0 k1 k2 k3, below_put hb4 (Nat.le_refl _) _ _ _ _⟩
  · have e : exV (d + 1) (mkT 5 0 s [p, q] : T (d + 1)) = .iface 53 (.agg #[.string s, exV d p, exV d q]) := rfl
    rw [e]
    exact ours_bin IH s p q hp hq w
  · have e : exV (d + 1) (none0 : T (d + 1)) = .nilIface := rfl
    rw [e]
    go_enter Tryd.func9, Tryd.ntmps9
    go_upto_region 17 with fail
    generalize w.alloc zN = w1 at *
    obtain ⟨r0, r1, r2, r3, r4, r5, r6, r7⟩ := id hR0
    go_wp2
    exact bodyPost_ret (ours_res (hR0.put _ _ _ _) rfl) rfl ⟨_, rfl, rdT_none _ _, below_put hb0 (Nat.le_refl _) _ _ _ _⟩
theorem ours_any : ∀ d, OursC d
  | 0 => fun t => Empty.elim t
  | d + 1 => ours_step d (ours_any d)
end Go.Proofs.YtiddccohldjjcaaDoor

/- What the document's Same does. -/
namespace Go.Proofs.YtiddccohldjjcaaDoor
open Go.RowKit Go.Lib
set_option linter.unusedSimpArgs false
set_option linter.unusedVariables false
attribute [local go_sem ↓] Go.wp_at_zero Go.wp_at_succ

def SameC (d : Nat) : Prop := ∀ (ok ok' : Nat → Prop) (e : Nat) (t : T d) (u : T e) (v v' : Value) (w : World), RdT ok w d t v → RdT ok' w e u v' →
  Calls Tryd.prog 8 #[v, v'] w fun r w' => r = .returned (.bool (samC d e t u)) ∧ Below w.heap.size w w'

set_option maxRecDepth 100000 in
set_option maxHeartbeats 4000000 in
theorem same_step (d : Nat) (IH : SameC d) : SameC (d + 1) := by
  intro ok ok' e t u v v' w h h'
  match e, u, h' with
  | 0, u, _ => exact Empty.elim u
  | e + 1, u, h' =>
  obtain ⟨k, n, s, ps, rfl⟩ := T.open t
  obtain ⟨sl, rfl, hp⟩ := rdT_mk.1 h
  obtain ⟨a, cap, rfl, hlc, hcm, hcell⟩ := hp.form
  obtain ⟨k', n', s', qs, rfl⟩ := T.open u
  obtain ⟨sl', rfl, hp'⟩ := rdT_mk.1 h'
  obtain ⟨a', cap', rfl, hlc', hcm', hcell'⟩ := hp'.form
  rw [samC_mk]
  have HC : Hid (∀ (i : Nat) (hi : i < ps.length), ∃ b off c0 c1 c2 c3, a = some ⟨b, off, none⟩ ∧ b < w.heap.size ∧ RdT ok w d ps[i] (.agg #[c0, c1, c2, c3]) ∧ w.cell? ⟨b, off + i * 4, none⟩ = some c0 ∧ w.cell? ⟨b, off + i * 4 + 1, none⟩ = some c1 ∧ w.cell? ⟨b, off + i * 4 + 2, none⟩ = some c2 ∧ w.cell? ⟨b, off + i * 4 + 3, none⟩ = some c3) := hcell
  have HC' : Hid (∀ (i : Nat) (hi : i < qs.length), ∃ b off c0 c1 c2 c3, a' = some ⟨b, off, none⟩ ∧ b < w.heap.size ∧ RdT ok' w e qs[i] (.agg #[c0, c1, c2, c3]) ∧ w.cell? ⟨b, off + i * 4, none⟩ = some c0 ∧ w.cell? ⟨b, off + i * 4 + 1, none⟩ = some c1 ∧ w.cell? ⟨b, off + i * 4 + 2, none⟩ = some c2 ∧ w.cell? ⟨b, off + i * 4 + 3, none⟩ = some c3) := hcell'
  clear hcell h hp hcell' h' hp'
  have hb0 := ((Below.refl w.heap.size w).alloc (Nat.le_refl _) (.cells #[.int .i64 k, .int .i64 n, .string s, .slice a ps.length cap] 30)).alloc (by simp) (.cells #[.int .i64 k', .int .i64 n', .string s', .slice a' qs.length cap'] 30)
  by_cases c1 : k = k'
  case neg =>
    have f1 : (k != k') = true := by simpa using c1
    rw [decide_eq_false c1]
    clear HC HC'
    go_enter Tryd.func8, Tryd.ntmps8
    go_wp2
    go_ret
    exact ⟨ret_bool (by simp), hb0⟩
  by_cases c2 : n = n'
  case neg =>
    have f2 : (n != n') = true := by simpa using c2
    subst c1
    rw [decide_eq_false c2]
    clear HC HC'
    go_enter Tryd.func8, Tryd.ntmps8
    go_wp2
    go_ret
    exact ⟨ret_bool (by simp), hb0⟩
  by_cases c3 : s = s'
  case neg =>
    have f3 := bytes_ne c3
    subst c1 c2
    rw [decide_eq_false c3]
    clear HC HC'
    go_enter Tryd.func8, Tryd.ntmps8
    go_wp2
    go_ret
    exact ⟨ret_bool (by simp), hb0⟩
  subst c1 c2 c3
  by_cases c4 : ps.length = qs.length
  case neg =>
    have f4 : ((ps.length : Int) != (qs.length : Int)) = true := by simp; omega
    rw [decide_eq_false c4]
    clear HC HC'
    go_enter Tryd.func8, Tryd.ntmps8
    go_wp2
    go_ret
    exact ⟨ret_bool (by simp), hb0⟩
  rw [decide_eq_true c4, decide_eq_true rfl, decide_eq_true rfl, decide_eq_true rfl]
  simp only [Bool.true_and]
  obtain ⟨V, hV⟩ : ∃ V, allz (samC d e) ps qs = V := ⟨_, rfl⟩
  rw [hV]
  have HV : Hid (allz (samC d e) (ps.drop 0) (qs.drop 0) = V) := hV
  have HQ : Hid (ps.length = qs.length) := c4
  have f4 : ((ps.length : Int) != (qs.length : Int)) = false := by rw [c4]; simp
  clear hV c4
  go_enter Tryd.func8, Tryd.ntmps8
  go_wp2
  go_loopw [37] (fun i wr => ∃ (j : Nat), j ≤ ps.length ∧ i = .int .i64 (j : Int) ∧ Hid (allz (samC d e) (ps.drop j) (qs.drop j) = V) ∧ At4 wr w.heap.size (.int .i64 k) (.int .i64 n) (.string s) (.slice a ps.length cap) ∧ At4 wr (w.heap.size + 1) (.int .i64 k) (.int .i64 n) (.string s) (.slice a' qs.length cap') ∧ Below w.heap.size w wr) (fun i _ => ps.length - (RowKit.intOf i).toNat)
  case atStart => exact ⟨0, Nat.zero_le _, rfl, HV, (At4.new w (.int .i64 k) (.int .i64 n) (.string s) (.slice a ps.length cap) 30).keepB (B := w.heap.size + 1) ((Below.refl _ _).alloc (by simp) _) (by omega), At4.newAt _ _ _ _ _ _ _ (by simp), hb0⟩
  case round =>
    obtain ⟨j, hj, rfl, hal, hA, hA', hb⟩ := hrel
    obtain ⟨y0, y1, y2, y3⟩ := id hA
    obtain ⟨z0, z1, z2, z3⟩ := id hA'
    have hlq := HQ.out
    by_cases hlt : j < ps.length
    · obtain ⟨b, off, c0, c1, c2, c3, rfl, hbl, hr, k0, k1, k2, k3⟩ := HC.out j hlt
      obtain ⟨b', off', d0, d1, d2, d3, rfl, hbl', hr', l0, l1, l2, l3⟩ := HC'.out j (by omega)
      have C0 := (hb.cell (p := ⟨b, off + j * 4, none⟩) hbl).trans k0
      have C1 := (hb.cell (p := ⟨b, off + j * 4 + 1, none⟩) hbl).trans k1
      have C2 := (hb.cell (p := ⟨b, off + j * 4 + 2, none⟩) hbl).trans k2
      have C3 := (hb.cell (p := ⟨b, off + j * 4 + 3, none⟩) hbl).trans k3
      have D0 := (hb.cell (p := ⟨b', off' + j * 4, none⟩) hbl').trans l0
      have D1 := (hb.cell (p := ⟨b', off' + j * 4 + 1, none⟩) hbl').trans l1
      have D2 := (hb.cell (p := ⟨b', off' + j * 4 + 2, none⟩) hbl').trans l2
      have D3 := (hb.cell (p := ⟨b', off' + j * 4 + 3, none⟩) hbl').trans l3
      have hcall := IH ok ok' e ps[j] (qs[j]'(by omega)) _ _ wr.drew (RdT.below hb.drew (Nat.le_refl _) hr) (RdT.below hb.drew (Nat.le_refl _) hr')
      have hst := allz_step (samC d e) ps qs j hlt (by omega)
      rw [hal.out] at hst
      obtain ⟨z, hz⟩ : ∃ z, samC d e ps[j] (qs[j]'(by omega)) = z := ⟨_, rfl⟩
      rw [hz] at hcall hst
      have i1 : (j : Int) < (ps.length : Int) := by omega
      have i3 : (j : Int) < (qs.length : Int) := by omega
      have i2 : (0 : Int) ≤ (j : Int) := by omega
      clear k0 k1 k2 k3 hr hbl hz l0 l1 l2 l3 hr' hbl' hlq
      cases z with
      | true =>
        have hN : Hid (allz (samC d e) (ps.drop (j + 1)) (qs.drop (j + 1)) = V) := by show allz (samC d e) (ps.drop (j + 1)) (qs.drop (j + 1)) = V; rw [hst]; simp
        clear hst
        go_wp2
        go_region_held (fun w' => w'.cell? ⟨w.heap.size, 3, none⟩ = some (.slice (some ⟨b, off, none⟩) ps.length cap) ∧ w'.cell? ⟨w.heap.size + 1, 3, none⟩ = some (.slice (some ⟨b', off', none⟩) qs.length cap') ∧ w'.cell? ⟨b, off + j * 4, none⟩ = some c0 ∧ w'.cell? ⟨b, off + j * 4 + 1, none⟩ = some c1 ∧ w'.cell? ⟨b, off + j * 4 + 2, none⟩ = some c2 ∧ w'.cell? ⟨b, off + j * 4 + 3, none⟩ = some c3 ∧ w'.cell? ⟨b', off' + j * 4, none⟩ = some d0 ∧ w'.cell? ⟨b', off' + j * 4 + 1, none⟩ = some d1 ∧ w'.cell? ⟨b', off' + j * 4 + 2, none⟩ = some d2 ∧ w'.cell? ⟨b', off' + j * 4 + 3, none⟩ = some d3)
          (first | exact ⟨y3, z3, C0, C1, C2, C3, D0, D1, D2, D3⟩ | exact ⟨kc _ _ y3, kc _ _ z3, kc _ _ C0, kc _ _ C1, kc _ _ C2, kc _ _ C3, kc _ _ D0, kc _ _ D1, kc _ _ D2, kc _ _ D3⟩ | go_keep)
          (first | (go_at_call 8; refine hcall.mono ?_; rintro r w1 ⟨rfl, b1⟩; have bw : Below wr.heap.size wr w1 := ((Below.refl _ wr).drew).trans b1; have kc : ∀ p u, wr.cell? p = some u → w1.cell? p = some u := fun p u hp => (by rw [bw.cell (World.block_lt_of_cell? wr _ hp)]; exact hp)))
        go_wp2
        go_roundw
        case rel => exact ⟨j + 1, hlt, by go_num, hN, hA.keepB bw (World.block_lt_of_cell? wr _ y0), hA'.keepB bw (World.block_lt_of_cell? wr _ z0), hb.trans (bw.mono hb.size)⟩
        case measure => simp [RowKit.intOf]; omega
      | false =>
        have hF : V = false := by rw [hst]; simp
        subst hF
        clear hst
        go_wp2
        go_region_held (fun w' => w'.cell? ⟨w.heap.size, 3, none⟩ = some (.slice (some ⟨b, off, none⟩) ps.length cap) ∧ w'.cell? ⟨w.heap.size + 1, 3, none⟩ = some (.slice (some ⟨b', off', none⟩) qs.length cap') ∧ w'.cell? ⟨b, off + j * 4, none⟩ = some c0 ∧ w'.cell? ⟨b, off + j * 4 + 1, none⟩ = some c1 ∧ w'.cell? ⟨b, off + j * 4 + 2, none⟩ = some c2 ∧ w'.cell? ⟨b, off + j * 4 + 3, none⟩ = some c3 ∧ w'.cell? ⟨b', off' + j * 4, none⟩ = some d0 ∧ w'.cell? ⟨b', off' + j * 4 + 1, none⟩ = some d1 ∧ w'.cell? ⟨b', off' + j * 4 + 2, none⟩ = some d2 ∧ w'.cell? ⟨b', off' + j * 4 + 3, none⟩ = some d3)
          (first | exact ⟨y3, z3, C0, C1, C2, C3, D0, D1, D2, D3⟩ | exact ⟨kc _ _ y3, kc _ _ z3, kc _ _ C0, kc _ _ C1, kc _ _ C2, kc _ _ C3, kc _ _ D0, kc _ _ D1, kc _ _ D2, kc _ _ D3⟩ | go_keep)
          (first | (go_at_call 8; refine hcall.mono ?_; rintro r w1 ⟨rfl, b1⟩; have bw : Below wr.heap.size wr w1 := ((Below.refl _ wr).drew).trans b1; have kc : ∀ p u, wr.cell? p = some u → w1.cell? p = some u := fun p u hp => (by rw [bw.cell (World.block_lt_of_cell? wr _ hp)]; exact hp)))
        go_wp2
        go_ret
        exact ⟨rfl, hb.trans (bw.mono hb.size)⟩
    · have i1 : ¬ (j : Int) < (ps.length : Int) := by omega
      have hll := hal.out
      rw [List.drop_eq_nil_of_le (by omega)] at hll
      have hTV : V = true := by rw [← hll]; rfl
      subst hTV
      clear hlq hll
      go_wp2
      go_ret
      exact ⟨rfl, hb⟩
theorem same_any : ∀ (d : Nat), SameC d
  | 0 => fun _ _ _ t => Empty.elim t
  | d + 1 => same_step d (same_any d)
end Go.Proofs.YtiddccohldjjcaaDoor

/- GuardParses: the walk. -/
namespace Go.Proofs.YtiddccohldjjcaaDoor
open Go.RowKit Go.Lib
set_option linter.unusedSimpArgs false
set_option linter.unusedVariables false
attribute [local go_sem ↓] Go.wp_at_zero Go.wp_at_succ
set_option maxRecDepth 100000 in
set_option maxHeartbeats 4000000 in
theorem guardParses_walk {w : World} (hT : Tabs w) (s : ByteArray) (hs : s.size ≤ 140737488351232) :
    Calls Tryd.prog 3 #[.string s] w fun e w' => e = .returned (.bool true) ∧ Below w.heap.size w w' := by
  have h1 := awakeG w
  have h2 := fun w1 => pParse_any s w1 hs
  have h3 := fun w1 hT => rParse_any s w1 hT hs
  obtain ⟨hc, _⟩ := parse_cl (bl s)
  obtain ⟨X, hX⟩ : ∃ X, parseC (bl s) = X := ⟨_, rfl⟩
  rw [hX] at hc
  simp only [hX] at h2 h3
  clear hX
  obtain ⟨⟨d, t⟩, no⟩ := X
  have h4 := fun w1 => ours_any d t w1 hc
  have h5 := fun w1 (ok ok' : Nat → Prop) v v' (ha : RdT ok w1 d t v) (hb : RdT ok' w1 d t v') => same_any d ok ok' d t t v v' w1 ha hb
  simp only [samC_refl] at h5
  simp only [show exX ⟨d, t⟩ = exV d t from rfl] at h2
  have hf := exV_form d t
  obtain ⟨ev, hev⟩ : ∃ ev, exV d t = ev := ⟨_, rfl⟩
  simp only [hev] at h2 h4 hf
  clear hev
  rcases hf with rfl | ⟨eu, ey, rfl⟩
  all_goals
    go_enter Tryd.func3, Tryd.ntmps3
    go_wp2_with (first
      | (go_at_call 5; refine h1.mono ?_; rintro e w1 ⟨rfl, b1⟩)
      | (go_at_call 6; refine (h2 _).mono ?_; rintro e w2 ⟨rfl, b2⟩; have b2 := b1.trans (b2.mono b1.size))
      | (go_at_call 7; refine (h3 _ (hT.below b2 (Nat.le_refl _))).mono ?_; rintro e w3 ⟨u, rfl, hu, b3⟩; obtain ⟨xk, xm, xs, xa, xl, xc, rfl⟩ := rdT_form (show RdT _ w3 d t u from hu); have b3' := b2.trans (b3.mono b2.size)))
    have hA := At4.newAt w3 (.int .i64 xk) (.int .i64 xm) (.string xs) (.slice xa xl xc) 30 _ rfl
    have b4 := b3'.alloc b3'.size (.cells #[.int .i64 xk, .int .i64 xm, .string xs, .slice xa xl xc] 30)
    have hu : RdT (fun _ => True) (w3.alloc (.cells #[.int .i64 xk, .int .i64 xm, .string xs, .slice xa xl xc] 30)) d t (.agg #[.int .i64 xk, .int .i64 xm, .string xs, .slice xa xl xc]) := RdT.keep (ok' := fun _ => True) (fun b _ hl => ⟨trivial, ((Below.refl w3.heap.size w3).alloc (Nat.le_refl _) _).block b hl⟩) (show RdT _ w3 d t _ from hu)
    obtain ⟨N, hN⟩ : ∃ N, w3.heap.size = N := ⟨_, rfl⟩
    rw [hN] at hA ⊢
    clear h1 h2 h3 b3 hN
    generalize w3.alloc (.cells #[.int .i64 xk, .int .i64 xm, .string xs, .slice xa xl xc] 30) = wn at *
    have bd : Below wn.heap.size wn wn.drew := (Below.refl _ _).drew
    have bb := bthen b4 bd
    have hA := hA.on bd
    have hu := RdT.below bd (Nat.le_refl _) hu
    have s1 := h4 wn.drew
    go_region_held (fun w' => w'.cell? ⟨N, 0, none⟩ = some (.int .i64 xk) ∧ w'.cell? ⟨N, 1, none⟩ = some (.int .i64 xm) ∧ w'.cell? ⟨N, 2, none⟩ = some (.string xs) ∧ w'.cell? ⟨N, 3, none⟩ = some (.slice xa xl xc))
      (first | exact ⟨hA.1, hA.2.1, hA.2.2.1, hA.2.2.2⟩ | go_keep)
      (first
        | (go_at_call 9; refine s1.mono ?_; rintro e wn ⟨u, rfl, hu4, bn⟩; obtain ⟨yk, ym, ys, ya, yl, yc, rfl⟩ := rdT_form hu4; have bb := bthen bb bn; have hA := hA.on bn; have s2 := h5 wn _ _ _ _ hu4 (RdT.below bn (Nat.le_refl _) hu); clear s1)
        | (go_at_call 8; refine s2.mono ?_; rintro e wn ⟨rfl, bn⟩; have bb := bthen bb bn; have hA := hA.on bn; clear s2))
    go_wp2
    go_ret
    exact ⟨rfl, bb⟩
end Go.Proofs.YtiddccohldjjcaaDoor

/- An argument that is a slice of bytes, opened: the bytes that it reads as, each from 0 to 255, and their number within the form's reach. -/
namespace Go.Proofs.YtiddccohldjjcaaDoor
open Go.ChangeShapes Go.WideShapes Go.ChangeAt Go.RowKit

/-- What the datum of a slice of len elements is. -/
def IsSlice {H : Type} (d : DataW H) (len : Nat) : Prop := (d = .nil ∧ len = 0) ∨ ∃ elems spare, d = .slice elems spare ∧ elems.length = len

theorem open_bytes {H : Type} {enc : TypeId × Value → H} {P : Program} {W : World} {t e : TypeId} {a : Option Addr} {len cap : Nat} {d : DataW H} {p : List MemPlace}
    (ht : P.underlying t = some (.slice e)) (he : P.underlying e = some (.int .u8)) (hc : P.cellsOf e = 1) (h : DataW.Trod enc P W 0 (fun _ => true) true t (.slice a len cap) d p) :
    ∃ bs, Rd W (.slice a len cap) bs ∧ (∀ x ∈ bs, 0 ≤ x ∧ x ≤ 255) ∧ bs.length = len ∧ IsSlice d len := by
  obtain ⟨fuel, hf⟩ := h
  rcases open_ints ht he hc hf with ⟨hcs, hx⟩ | ⟨x, l, c, zs, hcs, _, hl, hm, hz, hx, hcell, hwz⟩
  · simp [Value.cells] at hcs
    obtain ⟨rfl, rfl, rfl⟩ := hcs
    simp only [Prod.mk.injEq] at hx
    exact ⟨[], ⟨none, 0, rfl, by simp, by simp [maxLen], by simp, fun x hx => by cases hx⟩, by simp, rfl, .inl ⟨hx.1, rfl⟩⟩
  · simp [Value.cells] at hcs
    obtain ⟨rfl, rfl, rfl⟩ := hcs
    simp only [Prod.mk.injEq] at hx
    have hzc : zs.length = cap := by simpa using hz
    have hlen : (zs.take len).length = len := by rw [List.length_take]; omega
    refine ⟨zs.take len, ⟨some x, cap, by rw [hlen], by omega, hm, by simp, ?_⟩, ?_, hlen, .inr ⟨_, _, hx.1, by simp [lits]; omega⟩⟩
    · intro y hy i hi
      obtain rfl := Option.some.inj hy
      rw [hlen] at hi
      rw [hcell i (by omega)]
      simp [List.getD, hi]
    · intro n hn
      have := hwz n (List.mem_of_mem_take hn)
      simpa [Lit.wf, IntKind.min, IntKind.max, IntKind.signed, IntKind.bits] using this

theorem sized_bytes {H : Type} {P : Program} {ts : List TypeId} {ds : List (DataW H)} (h : (DataW.weightsEach P ts ds).all (· ≤ reachBytes) = true) {j : Nat} {t e : TypeId} {d : DataW H} {len : Nat}
    (ht : ts[j]? = some t) (hd : ds[j]? = some d) (hu : P.underlying t = some (.slice e)) (hb : P.bytesOf e = 1) (hs : IsSlice d len) : len ≤ 140737488351232 := by
  rcases hs with ⟨_, rfl⟩ | ⟨elems, spare, rfl, hl⟩
  · omega
  · have := sized_slice h ht hd hu
    rw [hb] at this
    simp only [reachBytes] at this
    omega

theorem sized_text {H : Type} {P : Program} {ts : List TypeId} {ds : List (DataW H)} (h : (DataW.weightsEach P ts ds).all (· ≤ reachBytes) = true) {j : Nat} {t : TypeId} {s : ByteArray}
    (ht : ts[j]? = some t) (hd : ds[j]? = some (.lit (.string s.data.toList))) : s.size ≤ 140737488351232 := by
  have := sized_string h ht hd
  simp only [reachBytes, Array.length_toList] at this
  exact this

end Go.Proofs.YtiddccohldjjcaaDoor

/- GuardTakes: the walk. -/
namespace Go.Proofs.YtiddccohldjjcaaDoor
open Go.RowKit Go.Lib
set_option linter.unusedSimpArgs false
set_option linter.unusedVariables false
attribute [local go_sem ↓] Go.wp_at_zero Go.wp_at_succ
set_option maxRecDepth 100000 in
set_option maxHeartbeats 4000000 in
theorem few_any (s : ByteArray) (w : World) : Calls Tryd.prog 10 #[.string s] w fun e w' => e = .returned (.bool (decide (s.size ≤ 12000))) ∧ w' = w := by
  by_cases h : s.size ≤ 12000
  · have h' : ((s.size : Nat) : Int) ≤ 12000 := by omega
    rw [decide_eq_true h]
    go_enter Tryd.func10, Tryd.ntmps10
    go_wp2
    go_ret
    simp [h']
  · have h' : ¬ ((s.size : Nat) : Int) ≤ 12000 := by omega
    rw [decide_eq_false h]
    go_enter Tryd.func10, Tryd.ntmps10
    go_wp2
    go_ret
    simp [h']
set_option maxRecDepth 100000 in
set_option maxHeartbeats 4000000 in
theorem guardTakes_walk {w : World} (hT : Tabs w) (s : ByteArray) (hs : s.size ≤ 140737488351232) :
    Calls Tryd.prog 4 #[.string s] w fun e w' => e = .returned (.bool true) ∧ Below w.heap.size w w' := by
  have h1 := fun w1 => awakeG w1
  have h0 := fun w1 => few_any s w1
  have h2 := fun w1 hT => refWords_any s w1 hT hs
  by_cases hfew : s.size ≤ 12000
  case neg =>
    simp only [decide_eq_false hfew] at h0
    have s1 := h1 w
    clear hfew
    go_enter Tryd.func4, Tryd.ntmps4
    go_wp2_with (first
      | (go_at_call 5; refine s1.mono ?_; rintro e w1 ⟨rfl, b1⟩; have s2 := h1 w1; clear s1)
      | (go_at_call 10; refine (h0 _).mono ?_; rintro e w2 ⟨rfl, rfl⟩)
      | (go_at_call 5; refine s2.mono ?_; rintro e w3 ⟨rfl, b3⟩; clear s2))
    go_ret
    exact ⟨rfl, bthen b1 b3⟩
  simp only [decide_eq_true hfew] at h0
  have ho := fun h => (words_one (l := bl s) h)
  obtain ⟨⟨ws, ⟨pl, pc⟩, er⟩, hR⟩ : ∃ r, wordsS (bl s) = r := ⟨_, rfl⟩
  simp only [hR] at h2 ho
  clear hR
  by_cases her : er = 0
  case neg =>
    go_enter Tryd.func4, Tryd.ntmps4
    go_wp2_with (first
      | (go_at_call 5; refine (h1 w).mono ?_; rintro e w1 ⟨rfl, b1⟩)
      | (go_at_call 10; refine (h0 _).mono ?_; rintro e w2 ⟨rfl, rfl⟩)
      | (go_at_call 11; refine (h2 _ (hT.below b1 (Nat.le_refl _))).mono ?_; rintro e w3 ⟨u, rfl, hu, b3⟩; obtain ⟨ua, uc, rfl, uq, um, ur⟩ := ownW_rd hu; have b3' := bthen b1 b3))
    go_ret
    exact ⟨rfl, b3'.alloc b3'.size _⟩
  subst her
  obtain ⟨ho1, ho2⟩ := ho rfl
  obtain ⟨i0, hi, hz0, hz1, hz2⟩ := info_parts Tryd.infoG
  have hTk : ∀ w1 v, OwnW w1 0 43 v ws → _ := fun w1 v hv => pTake_any hv ho1 ho2
  have hTr : ∀ w1 v, Tabs w1 → OwnW w1 0 44 v ws → _ := fun w1 v hT hv => rTake_any hT hv ho1 ho2
  obtain ⟨hc, _⟩ := take_cl ho1
  obtain ⟨X, hX⟩ : ∃ X, takeC (ws.map tkW) = X := ⟨_, rfl⟩
  rw [hX] at hc
  simp only [hX] at hTk hTr
  clear hX ho ho1
  obtain ⟨⟨d, t⟩, kk, no⟩ := X
  have h4 := fun w1 => ours_any d t w1 hc
  have h5 := fun w1 (ok ok' : Nat → Prop) v v' (ha : RdT ok w1 d t v) (hb : RdT ok' w1 d t v') => same_any d ok ok' d t t v v' w1 ha hb
  simp only [samC_refl] at h5
  simp only [show exX ⟨d, t⟩ = exV d t from rfl] at hTk
  have hf := exV_form d t
  obtain ⟨ev, hev⟩ : ∃ ev, exV d t = ev := ⟨_, rfl⟩
  simp only [hev] at hTk h4 hf
  clear hev
  go_enter Tryd.func4, Tryd.ntmps4
  go_wp2_with (first
    | (go_at_call 5; refine (h1 w).mono ?_; rintro e w1 ⟨rfl, b1⟩)
    | (go_at_call 10; refine (h0 _).mono ?_; rintro e w2 ⟨rfl, rfl⟩)
    | (go_at_call 11; refine (h2 _ (hT.below b1 (Nat.le_refl _))).mono ?_; rintro e w3 ⟨u, rfl, hu, b3⟩; obtain ⟨ua, uc, rfl, uq, um, ur⟩ := ownW_rd hu; have b3' := bthen b1 b3))
  have HR : Hid (∀ (i : Nat) (hi : i < ws.length), ∃ g, ua = some ⟨g, 0, none⟩ ∧ g < w3.heap.size ∧ w3.cell? ⟨g, i * 4, none⟩ = some (.int .i64 ((ws[i]).1 : Int)) ∧ w3.cell? ⟨g, i * 4 + 1, none⟩ = some (.string (txt (ws[i]).2.1)) ∧ w3.cell? ⟨g, i * 4 + 2, none⟩ = some (.int .i64 (ws[i]).2.2.1) ∧ w3.cell? ⟨g, i * 4 + 3, none⟩ = some (.int .i64 (ws[i]).2.2.2)) := ur
  have b4 : Below w3.heap.size w3 (w3.alloc (.cells #[.int .i64 pl, .int .i64 pc] 38)) := (Below.refl _ _).alloc (Nat.le_refl _) _
  clear ur h0 h1 h2
  generalize w3.alloc (.cells #[.int .i64 pl, .int .i64 pc] 38) = w4 at *
  go_loopw [6, 32] (fun v i wr => ∃ (j : Nat), j ≤ ws.length ∧ i = .int .i64 (j : Int) ∧ OwnW wr w4.heap.size 43 v (ws.take j) ∧ Below w4.heap.size w4 wr) (fun _ i _ => ws.length - (RowKit.intOf i).toNat)
  case atStart => exact ⟨0, Nat.zero_le _, rfl, ownW_nil _ _ _, Below.refl _ _⟩
  case round =>
    rename_i v6 v32
    obtain ⟨j, hj, rfl, hown, hbr⟩ := hrel
    obtain ⟨a6, cap6, rfl, q6, m6, _⟩ := ownW_rd hown
    by_cases hlt : j < ws.length
    · have i1 : (j : Int) < (ws.length : Int) := by omega
      have i2 : (0 : Int) ≤ (j : Int) := by omega
      obtain ⟨g, rfl, hgl, k0, k1, k2, k3⟩ := HR.out j hlt
      have b5 := b4.trans (hbr.mono b4.size)
      have C0 := (b5.cell (p := ⟨g, j * 4, none⟩) hgl).trans k0
      have C1 := (b5.cell (p := ⟨g, j * 4 + 1, none⟩) hgl).trans k1
      have C2 := (b5.cell (p := ⟨g, j * 4 + 2, none⟩) hgl).trans k2
      have C3 := (b5.cell (p := ⟨g, j * 4 + 3, none⟩) hgl).trans k3
      have hlen : (ws.take j).length = j := by rw [List.length_take]; omega
      have hszr := hbr.size
      have ho6 : World.ownsRow wr w4.heap.size 43 4 (.slice a6 (ws.take j).length cap6) j (celsW (ws.take j)) := by have := hown; unfold OwnW at this; rw [hlen] at this ⊢; exact this
      rw [hlen] at *
      clear k0 k1 k2 k3 hTk hTr h4 h5 hf hown
      go_wp2_with (first
        | (at_builtin; refine wpList_append_at _ rfl (.tmp 35) (.tmp 40) 41 41 rfl w4.heap.size 43 i0 (.agg #[.int .i64 0, .string ⟨#[]⟩, .int .i64 0, .int .i64 0]) 4 40 Tryd.underlying41 hi hz0 hz1 hz2 rfl _ j _ rfl (World.ownsRow.alloc ho6 _) _ 1 (celW ws[j]) rfl (src_word Tryd.underlying41 wr ws[j]) 1 (.inr (by omega)) (Nat.le_refl _) (by unfold maxLen; omega) (by simp; omega) ?_; intro v5 w5 ho5 hg5 hl5))
      have hN5 : OwnW w5 w4.heap.size 43 v5 (ws.take (j + 1)) := by
        rw [List.take_succ_eq_append_getElem hlt]
        have e1 : (ws.take j).length + 1 = j + 1 := by rw [List.length_take]; omega
        exact ownW_snoc (by rw [e1]; exact ho5)
      have hB5 : Below w4.heap.size w4 w5 := (hbr.alloc hszr _).grown hg5 (by simp; omega) (fun k hk => (World.ownsRow.lt ho6 k hk).1)
      go_roundw
      case rel => exact ⟨j + 1, hlt, by go_num, hN5, hB5⟩
      case measure => simp [RowKit.intOf]; omega
    · have i1 : ¬ (j : Int) < (ws.length : Int) := by omega
      have hjl : ws.take j = ws := List.take_of_length_le (by omega)
      rw [hjl] at hown q6 ⊢
      have b5 := b4.trans (hbr.mono b4.size)
      have hu5 := (hu.base (Nat.zero_le _)).below b5 (Nat.le_refl _)
      have s1 := hTk wr _ (hown.base (Nat.zero_le _))
      have bb : Below w.heap.size w wr := b3'.trans (b5.mono b3'.size)
      clear hTk hown i0 hi hz0 hz1 hz2 hjl
      rcases hf with rfl | ⟨eu, ey, rfl⟩
      all_goals
        go_wp2_with (first
          | (go_at_call 12; refine s1.mono ?_; rintro e w6 ⟨rfl, b6⟩; have bb6 := bthen bb b6; have s2 := hTr w6 _ (hT.below bb6 (Nat.le_refl _)) (hu5.below b6 (Nat.le_refl _)); clear s1)
          | (go_at_call 13; refine s2.mono ?_; rintro e w7 ⟨u, rfl, hu7, b7⟩; obtain ⟨xk, xm, xs, xa, xl, xc, rfl⟩ := rdT_form (show RdT _ w7 d t u from hu7); have bb7 := bthen bb6 b7; clear s2))
        have hA := At4.newAt w7 (.int .i64 xk) (.int .i64 xm) (.string xs) (.slice xa xl xc) 30 _ rfl
        have b8 := bb7.alloc bb7.size (.cells #[.int .i64 xk, .int .i64 xm, .string xs, .slice xa xl xc] 30)
        have hu8 : RdT (fun _ => True) (w7.alloc (.cells #[.int .i64 xk, .int .i64 xm, .string xs, .slice xa xl xc] 30)) d t (.agg #[.int .i64 xk, .int .i64 xm, .string xs, .slice xa xl xc]) := RdT.keep (ok' := fun _ => True) (fun b _ hl => ⟨trivial, ((Below.refl w7.heap.size w7).alloc (Nat.le_refl _) _).block b hl⟩) (show RdT _ w7 d t _ from hu7)
        obtain ⟨N, hN⟩ : ∃ N, w7.heap.size = N := ⟨_, rfl⟩
        rw [hN] at hA ⊢
        clear hTr hN
        generalize w7.alloc (.cells #[.int .i64 xk, .int .i64 xm, .string xs, .slice xa xl xc] 30) = wn at *
        have bd : Below wn.heap.size wn wn.drew := (Below.refl _ _).drew
        have bb := bthen b8 bd
        have hA := hA.on bd
        have hu := RdT.below bd (Nat.le_refl _) hu8
        have s1 := h4 wn.drew
        go_region_held (fun w' => w'.cell? ⟨N, 0, none⟩ = some (.int .i64 xk) ∧ w'.cell? ⟨N, 1, none⟩ = some (.int .i64 xm) ∧ w'.cell? ⟨N, 2, none⟩ = some (.string xs) ∧ w'.cell? ⟨N, 3, none⟩ = some (.slice xa xl xc))
          (first | exact ⟨hA.1, hA.2.1, hA.2.2.1, hA.2.2.2⟩ | go_keep)
          (first
            | (go_at_call 9; refine s1.mono ?_; rintro e wn ⟨u, rfl, hu4, bn⟩; obtain ⟨yk, ym, ys, ya, yl, yc, rfl⟩ := rdT_form hu4; have bb := bthen bb bn; have hA := hA.on bn; have s2 := h5 wn _ _ _ _ hu4 (RdT.below bn (Nat.le_refl _) hu); clear s1)
            | (go_at_call 8; refine s2.mono ?_; rintro e wn ⟨rfl, bn⟩; have bb := bthen bb bn; have hA := hA.on bn; clear s2))
        go_wp2
        go_ret
        exact ⟨rfl, bb⟩
end Go.Proofs.YtiddccohldjjcaaDoor
