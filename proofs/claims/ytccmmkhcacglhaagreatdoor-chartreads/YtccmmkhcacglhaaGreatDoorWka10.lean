import Derived.Test.YtccmmkhcacglhaaGreatDoorWka03
import Derived.Test.YtccmmkhcacglhaaGreatDoorWkc05
import Derived.Deep.RegionHeldLaw

/- What Ours makes of an expression. -/
namespace Go.Proofs.YtccmmkhcacglhaaGreatDoor
open Go.RowKit Go.Lib
set_option linter.unusedSimpArgs false
set_option linter.unusedVariables false
attribute [local go_sem ↓] Go.wp_at_zero Go.wp_at_succ
attribute [local go_sem] as_lit_lit as_ref_lit as_ref_ref as_not_lit as_not_ref as_not_not as_neg_lit as_neg_ref as_neg_not as_neg_neg as_bin_lit as_bin_ref as_bin_not as_bin_neg as_bin_bin

theorem as_nil_lit (w : World) : (Instr.typeAssert .nilIface 139 178 true).run Tryz.prog w = .ok (.tuple #[.agg #[.int .i64 0], .bool false]) w := by kernel_rfl
theorem as_nil_ref (w : World) : (Instr.typeAssert .nilIface 139 180 true).run Tryz.prog w = .ok (.tuple #[.agg #[.string ⟨#[]⟩], .bool false]) w := by kernel_rfl
theorem as_nil_not (w : World) : (Instr.typeAssert .nilIface 139 182 true).run Tryz.prog w = .ok (.tuple #[.agg #[.nilIface], .bool false]) w := by kernel_rfl
theorem as_nil_neg (w : World) : (Instr.typeAssert .nilIface 139 183 true).run Tryz.prog w = .ok (.tuple #[.agg #[.nilIface], .bool false]) w := by kernel_rfl
theorem as_nil_bin (w : World) : (Instr.typeAssert .nilIface 139 185 true).run Tryz.prog w = .ok (.tuple #[.agg #[.string ⟨#[]⟩, .nilIface, .nilIface], .bool false]) w := by kernel_rfl
attribute [local go_sem] as_nil_lit as_nil_ref as_nil_not as_nil_neg as_nil_bin
theorem rdT_two {ok : Nat → Prop} {N : Nat} {w : World} {d : Nat} {x y : T d} {s : ByteArray} {c0 c1 c2 c3 e0 e1 e2 e3 : Value} (h : RdT ok w d x (.agg #[c0, c1, c2, c3])) (h' : RdT ok w d y (.agg #[e0, e1, e2, e3])) (hN : ok N)
    (k0 : w.cell? ⟨N, 0, none⟩ = some c0) (k1 : w.cell? ⟨N, 1, none⟩ = some c1) (k2 : w.cell? ⟨N, 2, none⟩ = some c2) (k3 : w.cell? ⟨N, 3, none⟩ = some c3)
    (k4 : w.cell? ⟨N, 4, none⟩ = some e0) (k5 : w.cell? ⟨N, 5, none⟩ = some e1) (k6 : w.cell? ⟨N, 6, none⟩ = some e2) (k7 : w.cell? ⟨N, 7, none⟩ = some e3) :
    RdT ok w (d + 1) (mkT 5 0 s [x, y]) (.agg #[.int .i64 5, .int .i64 0, .string s, .slice (some ⟨N, 0, none⟩) 2 2]) := by
  refine rdT_mk.2 ⟨_, rfl, some ⟨N, 0, none⟩, 2, rfl, by simp, by simp [maxLen], by simp, fun z hz i hi => ?_⟩
  obtain rfl := Option.some.inj hz
  have hi2 : i = 0 ∨ i = 1 := by simp at hi; omega
  rcases hi2 with rfl | rfl
  · exact ⟨hN, c0, c1, c2, c3, h, k0, k1, k2, k3⟩
  · exact ⟨hN, e0, e1, e2, e3, h', k4, k5, k6, k7⟩
theorem ours_res {w4 : World} {R : Nat} {a b c e : Value} {tmps : Array Value} (hB : B4 w4 R a b c e) (ht : tmps.getD 2 undef = .pointer (some ⟨R, 0, none⟩)) : (results Tryz.f81 tmps).run Tryz.prog w4 = .ok (.agg #[a, b, c, e]) w4 := by
  obtain ⟨c0, c1, c2, c3, _, _, _, _⟩ := hB
  have ht' : tmps[2]?.getD undef = .pointer (some ⟨R, 0, none⟩) := by simpa using ht
  simp [results, Tryz.results81, go_sem, ht', c0, c1, c2, c3]
def OursC (d : Nat) : Prop := ∀ (t : T d) (w : World), Cl d t → Calls Tryz.prog 81 #[exV d t] w fun e w' => ∃ u, e = .returned u ∧ RdT (fun b => w.heap.size ≤ b) w' d t u ∧ Below w.heap.size w w'
theorem rdT_form {ok : Nat → Prop} {w : World} {d : Nat} {t : T d} {v : Value} (h : RdT ok w d t v) : ∃ k n s a m c, v = .agg #[.int .i64 k, .int .i64 n, .string s, .slice a m c] := RdX.form (x := ⟨d, t⟩) h
theorem cell3_new (w : World) (a b c : Value) (t : TypeId) (n : Nat) (hn : n = w.heap.size) : (w.alloc (.cells #[a, b, c] t)).cell? ⟨n, 0, none⟩ = some a ∧ (w.alloc (.cells #[a, b, c] t)).cell? ⟨n, 1, none⟩ = some b ∧ (w.alloc (.cells #[a, b, c] t)).cell? ⟨n, 2, none⟩ = some c := by subst hn; simp
theorem ours_two {N : Nat} {w8 : World} {d : Nat} {x y : T d} {s : ByteArray} {c0 c1 c2 c3 e0 e1 e2 e3 : Value} (hx : RdT (fun b => N < b) w8 d x (.agg #[c0, c1, c2, c3])) (hy : RdT (fun b => N < b) w8 d y (.agg #[e0, e1, e2, e3])) (hl : N < w8.heap.size) :
    RdT (fun b => N ≤ b) (put4 (w8.alloc (.cells #[c0, c1, c2, c3, e0, e1, e2, e3] 132)) N (.int .i64 5) (.int .i64 0) (.string s) (.slice (some ⟨w8.heap.size, 0, none⟩) 2 2)) (d + 1) (mkT 5 0 s [x, y]) (.agg #[.int .i64 5, .int .i64 0, .string s, .slice (some ⟨w8.heap.size, 0, none⟩) 2 2]) := by
  have h9 := (Below.refl w8.heap.size w8).alloc (Nat.le_refl _) (.cells #[c0, c1, c2, c3, e0, e1, e2, e3] 132)
  have hblk : ∀ b, N < b → b < w8.heap.size → (put4 (w8.alloc (.cells #[c0, c1, c2, c3, e0, e1, e2, e3] 132)) N (.int .i64 5) (.int .i64 0) (.string s) (.slice (some ⟨w8.heap.size, 0, none⟩) 2 2)).heap[b]? = w8.heap[b]? := fun b hb hl => by
    rw [heap_put (by omega), h9.block b hl]
  have hc : ∀ i (u : Value), (#[c0, c1, c2, c3, e0, e1, e2, e3] : Array Value)[i]? = some u → (put4 (w8.alloc (.cells #[c0, c1, c2, c3, e0, e1, e2, e3] 132)) N (.int .i64 5) (.int .i64 0) (.string s) (.slice (some ⟨w8.heap.size, 0, none⟩) 2 2)).cell? ⟨w8.heap.size, i, none⟩ = some u := fun i u hu =>
    (World.cell?_of_block (a := ⟨w8.heap.size, i, none⟩) (heap_put (by show N ≠ w8.heap.size; omega) _ _ _ _)).trans ((cell_of_row _ _ i _ _ (0, 0) (heap_alloc_new w8 _)).trans hu)
  exact rdT_two (RdT.keep (fun b hb hlt => ⟨Nat.le_of_lt hb, hblk b hb hlt⟩) hx) (RdT.keep (fun b hb hlt => ⟨Nat.le_of_lt hb, hblk b hb hlt⟩) hy) (Nat.le_of_lt hl) (hc 0 _ rfl) (hc 1 _ rfl) (hc 2 _ rfl) (hc 3 _ rfl) (hc 4 _ rfl) (hc 5 _ rfl) (hc 6 _ rfl) (hc 7 _ rfl)
set_option maxRecDepth 100000 in
set_option maxHeartbeats 4000000 in
theorem ours_bin {d : Nat} (IH : OursC d) (s : ByteArray) (p q : T d) (hp : Cl d p) (hq : Cl d q) (w : World) :
    Calls Tryz.prog 81 #[.iface 185 (.agg #[.string s, exV d p, exV d q])] w fun e w' => ∃ u, e = .returned u ∧ RdT (fun b => w.heap.size ≤ b) w' (d + 1) (mkT 5 0 s [p, q]) u ∧ Below w.heap.size w w' := by
  have hb0 := alN w
  have hR0 : B4 (w.alloc zN) w.heap.size (.int .i64 0) (.int .i64 0) (.string ⟨#[]⟩) (.slice none 0 0) := B4.new w _ _ _ _ _ _ rfl
  have hs0 : (w.alloc zN).heap.size = w.heap.size + 1 := by simp
  have hI := fun w1 => IH p w1 hp
  have hJ := fun w1 => IH q w1 hq
  have hpf := exV_form d p
  have hqf := exV_form d q
  obtain ⟨pv, hpv⟩ : ∃ pv, exV d p = pv := ⟨_, rfl⟩
  obtain ⟨qv, hqv⟩ : ∃ qv, exV d q = qv := ⟨_, rfl⟩
  rw [hpv, hqv]
  simp only [hpv] at hI hpf
  simp only [hqv] at hJ hqf
  clear hpv hqv
  have hR1 := fun v => hR0.keep ((Below.refl _ (w.alloc zN)).alloc (Nat.le_refl _) (.cells #[.string s, pv, v] 185))
  have hb1 := hb0.alloc hb0.size (.cells #[.string s, pv, qv] 185)
  have hs1 : ((w.alloc zN).alloc (.cells #[.string s, pv, qv] 185)).heap.size = w.heap.size + 2 := by simp
  have hc1 := cell3_new (w.alloc zN) (.string s) pv qv 185 (w.heap.size + 1) hs0.symm
  have hR1 := hR1 qv
  rcases hpf with rfl | ⟨pu, py, rfl⟩ <;> rcases hqf with rfl | ⟨qu, qy, rfl⟩
  · go_enter Tryz.func81, Tryz.ntmps81
    go_upto_region 16 with fail
    obtain ⟨c1, c2, c3⟩ := hc1
    clear hs0 hb0 hR0
    generalize (w.alloc zN).alloc (.cells #[.string s, .nilIface, .nilIface] 185) = w1 at *
    go_region_held_law (fun w' => w'.cell? ⟨w.heap.size + 1, 0, none⟩ = some (.string s) ∧ w'.cell? ⟨w.heap.size + 1, 1, none⟩ = some (.nilIface) ∧ w'.cell? ⟨w.heap.size + 1, 2, none⟩ = some (.nilIface))
      (first | (with_reducible exact ⟨c1, c2, c3⟩) | (with_reducible exact ⟨d1, d2, d3⟩) | (with_reducible exact ⟨e1, e2, e3⟩) | (with_reducible exact ⟨f1, f2, f3⟩) | go_keep)
      ((first
        | (go_at_call 81; (with_reducible refine (hJ _).mono ?_); rintro e w4 ⟨v4, rfl, hy4, b4⟩; obtain ⟨yk, ym, ys, ya, yl, yc, rfl⟩ := rdT_form hy4; have e1 := (b4.cell (p := ⟨w.heap.size + 1, 0, none⟩) (World.block_lt_of_cell? _ _ d1)).trans d1; have e2 := (b4.cell (p := ⟨w.heap.size + 1, 1, none⟩) (World.block_lt_of_cell? _ _ d2)).trans d2; have e3 := (b4.cell (p := ⟨w.heap.size + 1, 2, none⟩) (World.block_lt_of_cell? _ _ d3)).trans d3; have ha5 := (Below.refl w4.heap.size w4).alloc (Nat.le_refl _) (.cells #[.int .i64 xk, .int .i64 xm, .string xs, .slice xa xl xc, .int .i64 yk, .int .i64 ym, .string ys, .slice ya yl yc] 132); have hR5 := ((hR1.keep b3').keep b4).keep ha5; obtain ⟨r0, r1, r2, r3, r4, r5, r6, r7⟩ := id hR5; have f1 := (ha5.cell (p := ⟨w.heap.size + 1, 0, none⟩) (World.block_lt_of_cell? _ _ e1)).trans e1; have f2 := (ha5.cell (p := ⟨w.heap.size + 1, 1, none⟩) (World.block_lt_of_cell? _ _ e2)).trans e2; have f3 := (ha5.cell (p := ⟨w.heap.size + 1, 2, none⟩) (World.block_lt_of_cell? _ _ e3)).trans e3)
        | (go_at_call 81; (with_reducible refine (hI _).mono ?_); rintro e w3 ⟨v3, rfl, hx3, b3⟩; obtain ⟨xk, xm, xs, xa, xl, xc, rfl⟩ := rdT_form hx3; have b3' : Below w1.heap.size w1 w3 := ((Below.refl _ w1).drew).trans b3; have d1 := (b3'.cell (p := ⟨w.heap.size + 1, 0, none⟩) (World.block_lt_of_cell? _ _ c1)).trans c1; have d2 := (b3'.cell (p := ⟨w.heap.size + 1, 1, none⟩) (World.block_lt_of_cell? _ _ c2)).trans c2; have d3 := (b3'.cell (p := ⟨w.heap.size + 1, 2, none⟩) (World.block_lt_of_cell? _ _ c3)).trans c3)))
    go_wp2
    have hs3 := b3'.size
    have hs4 := b4.size
    have hb4 := (hb1.trans (b3'.mono hb1.size)).trans (b4.mono (by omega))
    have hb5 := hb4.alloc (by omega) (.cells #[.int .i64 xk, .int .i64 xm, .string xs, .slice xa xl xc, .int .i64 yk, .int .i64 ym, .string ys, .slice ya yl yc] 132)
    exact bodyPost_ret (ours_res (hR5.put _ _ _ _) rfl) rfl ⟨_, rfl, ours_two (RdT.keep (ok' := fun b => w.heap.size < b) (fun b hb hl => ⟨by have : w1.heap.size ≤ b := hb; omega, b4.block b hl⟩) hx3) (RdT.keep (ok' := fun b => w.heap.size < b) (fun b hb hl => ⟨by omega, rfl⟩) hy4) (by omega), below_put hb5 (Nat.le_refl _) _ _ _ _⟩
  · go_enter Tryz.func81, Tryz.ntmps81
    go_upto_region 16 with fail
    obtain ⟨c1, c2, c3⟩ := hc1
    clear hs0 hb0 hR0
    generalize (w.alloc zN).alloc (.cells #[.string s, .nilIface, .iface qu qy] 185) = w1 at *
    go_region_held_law (fun w' => w'.cell? ⟨w.heap.size + 1, 0, none⟩ = some (.string s) ∧ w'.cell? ⟨w.heap.size + 1, 1, none⟩ = some (.nilIface) ∧ w'.cell? ⟨w.heap.size + 1, 2, none⟩ = some (.iface qu qy))
      (first | (with_reducible exact ⟨c1, c2, c3⟩) | (with_reducible exact ⟨d1, d2, d3⟩) | (with_reducible exact ⟨e1, e2, e3⟩) | (with_reducible exact ⟨f1, f2, f3⟩) | go_keep)
      ((first
        | (go_at_call 81; (with_reducible refine (hJ _).mono ?_); rintro e w4 ⟨v4, rfl, hy4, b4⟩; obtain ⟨yk, ym, ys, ya, yl, yc, rfl⟩ := rdT_form hy4; have e1 := (b4.cell (p := ⟨w.heap.size + 1, 0, none⟩) (World.block_lt_of_cell? _ _ d1)).trans d1; have e2 := (b4.cell (p := ⟨w.heap.size + 1, 1, none⟩) (World.block_lt_of_cell? _ _ d2)).trans d2; have e3 := (b4.cell (p := ⟨w.heap.size + 1, 2, none⟩) (World.block_lt_of_cell? _ _ d3)).trans d3; have ha5 := (Below.refl w4.heap.size w4).alloc (Nat.le_refl _) (.cells #[.int .i64 xk, .int .i64 xm, .string xs, .slice xa xl xc, .int .i64 yk, .int .i64 ym, .string ys, .slice ya yl yc] 132); have hR5 := ((hR1.keep b3').keep b4).keep ha5; obtain ⟨r0, r1, r2, r3, r4, r5, r6, r7⟩ := id hR5; have f1 := (ha5.cell (p := ⟨w.heap.size + 1, 0, none⟩) (World.block_lt_of_cell? _ _ e1)).trans e1; have f2 := (ha5.cell (p := ⟨w.heap.size + 1, 1, none⟩) (World.block_lt_of_cell? _ _ e2)).trans e2; have f3 := (ha5.cell (p := ⟨w.heap.size + 1, 2, none⟩) (World.block_lt_of_cell? _ _ e3)).trans e3)
        | (go_at_call 81; (with_reducible refine (hI _).mono ?_); rintro e w3 ⟨v3, rfl, hx3, b3⟩; obtain ⟨xk, xm, xs, xa, xl, xc, rfl⟩ := rdT_form hx3; have b3' : Below w1.heap.size w1 w3 := ((Below.refl _ w1).drew).trans b3; have d1 := (b3'.cell (p := ⟨w.heap.size + 1, 0, none⟩) (World.block_lt_of_cell? _ _ c1)).trans c1; have d2 := (b3'.cell (p := ⟨w.heap.size + 1, 1, none⟩) (World.block_lt_of_cell? _ _ c2)).trans c2; have d3 := (b3'.cell (p := ⟨w.heap.size + 1, 2, none⟩) (World.block_lt_of_cell? _ _ c3)).trans c3)))
    go_wp2
    have hs3 := b3'.size
    have hs4 := b4.size
    have hb4 := (hb1.trans (b3'.mono hb1.size)).trans (b4.mono (by omega))
    have hb5 := hb4.alloc (by omega) (.cells #[.int .i64 xk, .int .i64 xm, .string xs, .slice xa xl xc, .int .i64 yk, .int .i64 ym, .string ys, .slice ya yl yc] 132)
    exact bodyPost_ret (ours_res (hR5.put _ _ _ _) rfl) rfl ⟨_, rfl, ours_two (RdT.keep (ok' := fun b => w.heap.size < b) (fun b hb hl => ⟨by have : w1.heap.size ≤ b := hb; omega, b4.block b hl⟩) hx3) (RdT.keep (ok' := fun b => w.heap.size < b) (fun b hb hl => ⟨by omega, rfl⟩) hy4) (by omega), below_put hb5 (Nat.le_refl _) _ _ _ _⟩
  · go_enter Tryz.func81, Tryz.ntmps81
    go_upto_region 16 with fail
    obtain ⟨c1, c2, c3⟩ := hc1
    clear hs0 hb0 hR0
    generalize (w.alloc zN).alloc (.cells #[.string s, .iface pu py, .nilIface] 185) = w1 at *
    go_region_held_law (fun w' => w'.cell? ⟨w.heap.size + 1, 0, none⟩ = some (.string s) ∧ w'.cell? ⟨w.heap.size + 1, 1, none⟩ = some (.iface pu py) ∧ w'.cell? ⟨w.heap.size + 1, 2, none⟩ = some (.nilIface))
      (first | (with_reducible exact ⟨c1, c2, c3⟩) | (with_reducible exact ⟨d1, d2, d3⟩) | (with_reducible exact ⟨e1, e2, e3⟩) | (with_reducible exact ⟨f1, f2, f3⟩) | go_keep)
      ((first
        | (go_at_call 81; (with_reducible refine (hJ _).mono ?_); rintro e w4 ⟨v4, rfl, hy4, b4⟩; obtain ⟨yk, ym, ys, ya, yl, yc, rfl⟩ := rdT_form hy4; have e1 := (b4.cell (p := ⟨w.heap.size + 1, 0, none⟩) (World.block_lt_of_cell? _ _ d1)).trans d1; have e2 := (b4.cell (p := ⟨w.heap.size + 1, 1, none⟩) (World.block_lt_of_cell? _ _ d2)).trans d2; have e3 := (b4.cell (p := ⟨w.heap.size + 1, 2, none⟩) (World.block_lt_of_cell? _ _ d3)).trans d3; have ha5 := (Below.refl w4.heap.size w4).alloc (Nat.le_refl _) (.cells #[.int .i64 xk, .int .i64 xm, .string xs, .slice xa xl xc, .int .i64 yk, .int .i64 ym, .string ys, .slice ya yl yc] 132); have hR5 := ((hR1.keep b3').keep b4).keep ha5; obtain ⟨r0, r1, r2, r3, r4, r5, r6, r7⟩ := id hR5; have f1 := (ha5.cell (p := ⟨w.heap.size + 1, 0, none⟩) (World.block_lt_of_cell? _ _ e1)).trans e1; have f2 := (ha5.cell (p := ⟨w.heap.size + 1, 1, none⟩) (World.block_lt_of_cell? _ _ e2)).trans e2; have f3 := (ha5.cell (p := ⟨w.heap.size + 1, 2, none⟩) (World.block_lt_of_cell? _ _ e3)).trans e3)
        | (go_at_call 81; (with_reducible refine (hI _).mono ?_); rintro e w3 ⟨v3, rfl, hx3, b3⟩; obtain ⟨xk, xm, xs, xa, xl, xc, rfl⟩ := rdT_form hx3; have b3' : Below w1.heap.size w1 w3 := ((Below.refl _ w1).drew).trans b3; have d1 := (b3'.cell (p := ⟨w.heap.size + 1, 0, none⟩) (World.block_lt_of_cell? _ _ c1)).trans c1; have d2 := (b3'.cell (p := ⟨w.heap.size + 1, 1, none⟩) (World.block_lt_of_cell? _ _ c2)).trans c2; have d3 := (b3'.cell (p := ⟨w.heap.size + 1, 2, none⟩) (World.block_lt_of_cell? _ _ c3)).trans c3)))
    go_wp2
    have hs3 := b3'.size
    have hs4 := b4.size
    have hb4 := (hb1.trans (b3'.mono hb1.size)).trans (b4.mono (by omega))
    have hb5 := hb4.alloc (by omega) (.cells #[.int .i64 xk, .int .i64 xm, .string xs, .slice xa xl xc, .int .i64 yk, .int .i64 ym, .string ys, .slice ya yl yc] 132)
    exact bodyPost_ret (ours_res (hR5.put _ _ _ _) rfl) rfl ⟨_, rfl, ours_two (RdT.keep (ok' := fun b => w.heap.size < b) (fun b hb hl => ⟨by have : w1.heap.size ≤ b := hb; omega, b4.block b hl⟩) hx3) (RdT.keep (ok' := fun b => w.heap.size < b) (fun b hb hl => ⟨by omega, rfl⟩) hy4) (by omega), below_put hb5 (Nat.le_refl _) _ _ _ _⟩
  · go_enter Tryz.func81, Tryz.ntmps81
    go_upto_region 16 with fail
    obtain ⟨c1, c2, c3⟩ := hc1
    clear hs0 hb0 hR0
    generalize (w.alloc zN).alloc (.cells #[.string s, .iface pu py, .iface qu qy] 185) = w1 at *
    go_region_held_law (fun w' => w'.cell? ⟨w.heap.size + 1, 0, none⟩ = some (.string s) ∧ w'.cell? ⟨w.heap.size + 1, 1, none⟩ = some (.iface pu py) ∧ w'.cell? ⟨w.heap.size + 1, 2, none⟩ = some (.iface qu qy))
      (first | (with_reducible exact ⟨c1, c2, c3⟩) | (with_reducible exact ⟨d1, d2, d3⟩) | (with_reducible exact ⟨e1, e2, e3⟩) | (with_reducible exact ⟨f1, f2, f3⟩) | go_keep)
      ((first
        | (go_at_call 81; (with_reducible refine (hJ _).mono ?_); rintro e w4 ⟨v4, rfl, hy4, b4⟩; obtain ⟨yk, ym, ys, ya, yl, yc, rfl⟩ := rdT_form hy4; have e1 := (b4.cell (p := ⟨w.heap.size + 1, 0, none⟩) (World.block_lt_of_cell? _ _ d1)).trans d1; have e2 := (b4.cell (p := ⟨w.heap.size + 1, 1, none⟩) (World.block_lt_of_cell? _ _ d2)).trans d2; have e3 := (b4.cell (p := ⟨w.heap.size + 1, 2, none⟩) (World.block_lt_of_cell? _ _ d3)).trans d3; have ha5 := (Below.refl w4.heap.size w4).alloc (Nat.le_refl _) (.cells #[.int .i64 xk, .int .i64 xm, .string xs, .slice xa xl xc, .int .i64 yk, .int .i64 ym, .string ys, .slice ya yl yc] 132); have hR5 := ((hR1.keep b3').keep b4).keep ha5; obtain ⟨r0, r1, r2, r3, r4, r5, r6, r7⟩ := id hR5; have f1 := (ha5.cell (p := ⟨w.heap.size + 1, 0, none⟩) (World.block_lt_of_cell? _ _ e1)).trans e1; have f2 := (ha5.cell (p := ⟨w.heap.size + 1, 1, none⟩) (World.block_lt_of_cell? _ _ e2)).trans e2; have f3 := (ha5.cell (p := ⟨w.heap.size + 1, 2, none⟩) (World.block_lt_of_cell? _ _ e3)).trans e3)
        | (go_at_call 81; (with_reducible refine (hI _).mono ?_); rintro e w3 ⟨v3, rfl, hx3, b3⟩; obtain ⟨xk, xm, xs, xa, xl, xc, rfl⟩ := rdT_form hx3; have b3' : Below w1.heap.size w1 w3 := ((Below.refl _ w1).drew).trans b3; have d1 := (b3'.cell (p := ⟨w.heap.size + 1, 0, none⟩) (World.block_lt_of_cell? _ _ c1)).trans c1; have d2 := (b3'.cell (p := ⟨w.heap.size + 1, 1, none⟩) (World.block_lt_of_cell? _ _ c2)).trans c2; have d3 := (b3'.cell (p := ⟨w.heap.size + 1, 2, none⟩) (World.block_lt_of_cell? _ _ c3)).trans c3)))
    go_wp2
    have hs3 := b3'.size
    have hs4 := b4.size
    have hb4 := (hb1.trans (b3'.mono hb1.size)).trans (b4.mono (by omega))
    have hb5 := hb4.alloc (by omega) (.cells #[.int .i64 xk, .int .i64 xm, .string xs, .slice xa xl xc, .int .i64 yk, .int .i64 ym, .string ys, .slice ya yl yc] 132)
    exact bodyPost_ret (ours_res (hR5.put _ _ _ _) rfl) rfl ⟨_, rfl, ours_two (RdT.keep (ok' := fun b => w.heap.size < b) (fun b hb hl => ⟨by have : w1.heap.size ≤ b := hb; omega, b4.block b hl⟩) hx3) (RdT.keep (ok' := fun b => w.heap.size < b) (fun b hb hl => ⟨by omega, rfl⟩) hy4) (by omega), below_put hb5 (Nat.le_refl _) _ _ _ _⟩
set_option maxRecDepth 100000 in
set_option maxHeartbeats 4000000 in
theorem ours_step (d : Nat) (IH : OursC d) : OursC (d + 1) := by
  intro t w hc
  have hb0 := alN w
  have hR0 : B4 (w.alloc zN) w.heap.size (.int .i64 0) (.int .i64 0) (.string ⟨#[]⟩) (.slice none 0 0) := B4.new w _ _ _ _ _ _ rfl
  have hs0 : (w.alloc zN).heap.size = w.heap.size + 1 := by simp
  rcases hc.cases with ⟨n, rfl⟩ | ⟨s, rfl⟩ | ⟨k, p, hk, rfl, hp⟩ | ⟨s, p, q, rfl, hp, hq⟩ | rfl
  · have e : exV (d + 1) (mkT 1 n ⟨#[]⟩ [] : T (d + 1)) = .iface 178 (.agg #[.int .i64 n]) := rfl
    rw [e]
    go_enter Tryz.func81, Tryz.ntmps81
    go_upto_region 4 with fail
    have hR1 := hR0.keep ((Below.refl _ (w.alloc zN)).alloc (Nat.le_refl _) (.cells #[.int .i64 n] 178))
    have hb1 := hb0.alloc hb0.size (.cells #[.int .i64 n] 178)
    have c1 : ((w.alloc zN).alloc (.cells #[.int .i64 n] 178)).cell? ⟨w.heap.size + 1, 0, none⟩ = some (.int .i64 n) := cell1_new _ _ _ _ hs0.symm
    generalize (w.alloc zN).alloc (.cells #[.int .i64 n] 178) = w1 at *
    obtain ⟨r0, r1, r2, r3, r4, r5, r6, r7⟩ := id hR1
    go_wp2
    exact bodyPost_ret (ours_res (hR1.put _ _ _ _) rfl) rfl ⟨_, rfl, ⟨_, rfl, rdP_none _ _⟩, below_put hb1 (Nat.le_refl _) _ _ _ _⟩
  · have e : exV (d + 1) (mkT 2 0 s [] : T (d + 1)) = .iface 180 (.agg #[.string s]) := rfl
    rw [e]
    go_enter Tryz.func81, Tryz.ntmps81
    go_upto_region 7 with fail
    have hR1 := hR0.keep ((Below.refl _ (w.alloc zN)).alloc (Nat.le_refl _) (.cells #[.string s] 180))
    have hb1 := hb0.alloc hb0.size (.cells #[.string s] 180)
    have c1 : ((w.alloc zN).alloc (.cells #[.string s] 180)).cell? ⟨w.heap.size + 1, 0, none⟩ = some (.string s) := cell1_new _ _ _ _ hs0.symm
    generalize (w.alloc zN).alloc (.cells #[.string s] 180) = w1 at *
    obtain ⟨r0, r1, r2, r3, r4, r5, r6, r7⟩ := id hR1
    go_wp2
    exact bodyPost_ret (ours_res (hR1.put _ _ _ _) rfl) rfl ⟨_, rfl, ⟨_, rfl, rdP_none _ _⟩, below_put hb1 (Nat.le_refl _) _ _ _ _⟩
  · have hI := fun w1 => IH p w1 hp
    have hpf := exV_form d p
    obtain ⟨pv, hpv⟩ : ∃ pv, exV d p = pv := ⟨_, rfl⟩
    have e : exV (d + 1) (mkT k 0 ⟨#[]⟩ [p] : T (d + 1)) = if k = 3 then .iface 182 (.agg #[pv]) else .iface 183 (.agg #[pv]) := by
      rw [exV_mk, if_neg (by omega), if_neg (by omega), ← hpv]
      rcases hk with rfl | rfl
      · rfl
      · rfl
    rw [e]
    simp only [hpv] at hI hpf
    clear e hpv
    rcases hk with rfl | rfl
    · rw [if_pos rfl]
      rcases hpf with rfl | ⟨pu, py, rfl⟩
      · go_enter Tryz.func81, Tryz.ntmps81
        go_upto_region 10 with fail
        have ha1 := fun v => (Below.refl _ (w.alloc zN)).alloc (Nat.le_refl _) (.cells #[v] 182)
        have hR1 := hR0.keep (ha1 (.nilIface))
        have hb1 := hb0.alloc hb0.size (.cells #[.nilIface] 182)
        have hs1 : ((w.alloc zN).alloc (.cells #[.nilIface] 182)).heap.size = w.heap.size + 2 := by simp
        have c1 : ((w.alloc zN).alloc (.cells #[.nilIface] 182)).cell? ⟨w.heap.size + 1, 0, none⟩ = some (.nilIface) := cell1_new _ _ _ _ hs0.symm
        clear ha1 hs0 hb0 hR0
        generalize (w.alloc zN).alloc (.cells #[.nilIface] 182) = w1 at *
        go_wp2_with (first
          | (go_at_call 81; refine (hI _).mono ?_; rintro e w3 ⟨v, rfl, hx3, b3⟩; obtain ⟨xk, xm, xs, xa, xl, xc, rfl⟩ := rdT_form hx3; have ha4 := (Below.refl w3.heap.size w3).alloc (Nat.le_refl _) (.cells #[.int .i64 xk, .int .i64 xm, .string xs, .slice xa xl xc] 132); have hR4 := (hR1.keep b3).keep ha4; obtain ⟨r0, r1, r2, r3, r4, r5, r6, r7⟩ := id hR4))
        have hs3 := b3.size
        have hb4 := (hb1.trans (b3.mono hb1.size)).alloc (hb1.trans (b3.mono hb1.size)).size (.cells #[.int .i64 xk, .int .i64 xm, .string xs, .slice xa xl xc] 132)
        obtain ⟨k0, k1, k2, k3⟩ := (At4.new w3 (.int .i64 xk) (.int .i64 xm) (.string xs) (.slice xa xl xc) 132).blkR (w' := put4 (w3.alloc (.cells #[.int .i64 xk, .int .i64 xm, .string xs, .slice xa xl xc] 132)) w.heap.size (.int .i64 3) (.int .i64 0) (.string ⟨#[]⟩) (.slice (some ⟨w3.heap.size, 0, none⟩) 1 1)) (heap_put (by omega) _ _ _ _)
        exact bodyPost_ret (ours_res (hR4.put _ _ _ _) rfl) rfl ⟨_, rfl, rdX_mk1 (x := ⟨d, p⟩) (RdX.keep (x := ⟨d, p⟩) hx3 (fun b hb hl => ⟨by omega, (heap_put (by omega) _ _ _ _).trans (ha4.block b hl)⟩)) (by omega) k0 k1 k2 k3, below_put hb4 (Nat.le_refl _) _ _ _ _⟩
      · go_enter Tryz.func81, Tryz.ntmps81
        go_upto_region 10 with fail
        have ha1 := fun v => (Below.refl _ (w.alloc zN)).alloc (Nat.le_refl _) (.cells #[v] 182)
        have hR1 := hR0.keep (ha1 (.iface pu py))
        have hb1 := hb0.alloc hb0.size (.cells #[.iface pu py] 182)
        have hs1 : ((w.alloc zN).alloc (.cells #[.iface pu py] 182)).heap.size = w.heap.size + 2 := by simp
        have c1 : ((w.alloc zN).alloc (.cells #[.iface pu py] 182)).cell? ⟨w.heap.size + 1, 0, none⟩ = some (.iface pu py) := cell1_new _ _ _ _ hs0.symm
        clear ha1 hs0 hb0 hR0
        generalize (w.alloc zN).alloc (.cells #[.iface pu py] 182) = w1 at *
        go_wp2_with (first
          | (go_at_call 81; refine (hI _).mono ?_; rintro e w3 ⟨v, rfl, hx3, b3⟩; obtain ⟨xk, xm, xs, xa, xl, xc, rfl⟩ := rdT_form hx3; have ha4 := (Below.refl w3.heap.size w3).alloc (Nat.le_refl _) (.cells #[.int .i64 xk, .int .i64 xm, .string xs, .slice xa xl xc] 132); have hR4 := (hR1.keep b3).keep ha4; obtain ⟨r0, r1, r2, r3, r4, r5, r6, r7⟩ := id hR4))
        have hs3 := b3.size
        have hb4 := (hb1.trans (b3.mono hb1.size)).alloc (hb1.trans (b3.mono hb1.size)).size (.cells #[.int .i64 xk, .int .i64 xm, .string xs, .slice xa xl xc] 132)
        obtain ⟨k0, k1, k2, k3⟩ := (At4.new w3 (.int .i64 xk) (.int .i64 xm) (.string xs) (.slice xa xl xc) 132).blkR (w' := put4 (w3.alloc (.cells #[.int .i64 xk, .int .i64 xm, .string xs, .slice xa xl xc] 132)) w.heap.size (.int .i64 3) (.int .i64 0) (.string ⟨#[]⟩) (.slice (some ⟨w3.heap.size, 0, none⟩) 1 1)) (heap_put (by omega) _ _ _ _)
        exact bodyPost_ret (ours_res (hR4.put _ _ _ _) rfl) rfl ⟨_, rfl, rdX_mk1 (x := ⟨d, p⟩) (RdX.keep (x := ⟨d, p⟩) hx3 (fun b hb hl => ⟨by omega, (heap_put (by omega) _ _ _ _).trans (ha4.block b hl)⟩)) (by omega) k0 k1 k2 k3, below_put hb4 (Nat.le_refl _) _ _ _ _⟩
    · rw [if_neg (by decide)]
      rcases hpf with rfl | ⟨pu, py, rfl⟩
      · go_enter Tryz.func81, Tryz.ntmps81
        go_upto_region 13 with fail
        have ha1 := fun v => (Below.refl _ (w.alloc zN)).alloc (Nat.le_refl _) (.cells #[v] 183)
        have hR1 := hR0.keep (ha1 (.nilIface))
        have hb1 := hb0.alloc hb0.size (.cells #[.nilIface] 183)
        have hs1 : ((w.alloc zN).alloc (.cells #[.nilIface] 183)).heap.size = w.heap.size + 2 := by simp
        have c1 : ((w.alloc zN).alloc (.cells #[.nilIface] 183)).cell? ⟨w.heap.size + 1, 0, none⟩ = some (.nilIface) := cell1_new _ _ _ _ hs0.symm
        clear ha1 hs0 hb0 hR0
        generalize (w.alloc zN).alloc (.cells #[.nilIface] 183) = w1 at *
        go_wp2_with (first
          | (go_at_call 81; refine (hI _).mono ?_; rintro e w3 ⟨v, rfl, hx3, b3⟩; obtain ⟨xk, xm, xs, xa, xl, xc, rfl⟩ := rdT_form hx3; have ha4 := (Below.refl w3.heap.size w3).alloc (Nat.le_refl _) (.cells #[.int .i64 xk, .int .i64 xm, .string xs, .slice xa xl xc] 132); have hR4 := (hR1.keep b3).keep ha4; obtain ⟨r0, r1, r2, r3, r4, r5, r6, r7⟩ := id hR4))
        have hs3 := b3.size
        have hb4 := (hb1.trans (b3.mono hb1.size)).alloc (hb1.trans (b3.mono hb1.size)).size (.cells #[.int .i64 xk, .int .i64 xm, .string xs, .slice xa xl xc] 132)
        obtain ⟨k0, k1, k2, k3⟩ := (At4.new w3 (.int .i64 xk) (.int .i64 xm) (.string xs) (.slice xa xl xc) 132).blkR (w' := put4 (w3.alloc (.cells #[.int .i64 xk, .int .i64 xm, .string xs, .slice xa xl xc] 132)) w.heap.size (.int .i64 4) (.int .i64 0) (.string ⟨#[]⟩) (.slice (some ⟨w3.heap.size, 0, none⟩) 1 1)) (heap_put (by omega) _ _ _ _)
        exact bodyPost_ret (ours_res (hR4.put _ _ _ _) rfl) rfl ⟨_, rfl, rdX_mk1 (x := ⟨d, p⟩) (RdX.keep (x := ⟨d, p⟩) hx3 (fun b hb hl => ⟨by omega, (heap_put (by omega) _ _ _ _).trans (ha4.block b hl)⟩)) (by omega) k0 k1 k2 k3, below_put hb4 (Nat.le_refl _) _ _ _ _⟩
      · go_enter Tryz.func81, Tryz.ntmps81
        go_upto_region 13 with fail
        have ha1 := fun v => (Below.refl _ (w.alloc zN)).alloc (Nat.le_refl _) (.cells #[v] 183)
        have hR1 := hR0.keep (ha1 (.iface pu py))
        have hb1 := hb0.alloc hb0.size (.cells #[.iface pu py] 183)
        have hs1 : ((w.alloc zN).alloc (.cells #[.iface pu py] 183)).heap.size = w.heap.size + 2 := by simp
        have c1 : ((w.alloc zN).alloc (.cells #[.iface pu py] 183)).cell? ⟨w.heap.size + 1, 0, none⟩ = some (.iface pu py) := cell1_new _ _ _ _ hs0.symm
        clear ha1 hs0 hb0 hR0
        generalize (w.alloc zN).alloc (.cells #[.iface pu py] 183) = w1 at *
        go_wp2_with (first
          | (go_at_call 81; refine (hI _).mono ?_; rintro e w3 ⟨v, rfl, hx3, b3⟩; obtain ⟨xk, xm, xs, xa, xl, xc, rfl⟩ := rdT_form hx3; have ha4 := (Below.refl w3.heap.size w3).alloc (Nat.le_refl _) (.cells #[.int .i64 xk, .int .i64 xm, .string xs, .slice xa xl xc] 132); have hR4 := (hR1.keep b3).keep ha4; obtain ⟨r0, r1, r2, r3, r4, r5, r6, r7⟩ := id hR4))
        have hs3 := b3.size
        have hb4 := (hb1.trans (b3.mono hb1.size)).alloc (hb1.trans (b3.mono hb1.size)).size (.cells #[.int .i64 xk, .int .i64 xm, .string xs, .slice xa xl xc] 132)
        obtain ⟨k0, k1, k2, k3⟩ := (At4.new w3 (.int .i64 xk) (.int .i64 xm) (.string xs) (.slice xa xl xc) 132).blkR (w' := put4 (w3.alloc (.cells #[.int .i64 xk, .int .i64 xm, .string xs, .slice xa xl xc] 132)) w.heap.size (.int .i64 4) (.int .i64 0) (.string ⟨#[]⟩) (.slice (some ⟨w3.heap.size, 0, none⟩) 1 1)) (heap_put (by omega) _ _ _ _)
        exact bodyPost_ret (ours_res (hR4.put _ _ _ _) rfl) rfl ⟨_, rfl, rdX_mk1 (x := ⟨d, p⟩) (RdX.keep (x := ⟨d, p⟩) hx3 (fun b hb hl => ⟨by omega, (heap_put (by omega) _ _ _ _).trans (ha4.block b hl)⟩)) (by omega) k0 k1 k2 k3, below_put hb4 (Nat.le_refl _) _ _ _ _⟩
  · have e : exV (d + 1) (mkT 5 0 s [p, q] : T (d + 1)) = .iface 185 (.agg #[.string s, exV d p, exV d q]) := rfl
    rw [e]
    exact ours_bin IH s p q hp hq w
  · have e : exV (d + 1) (none0 : T (d + 1)) = .nilIface := rfl
    rw [e]
    go_enter Tryz.func81, Tryz.ntmps81
    go_upto_region 17 with fail
    generalize w.alloc zN = w1 at *
    obtain ⟨r0, r1, r2, r3, r4, r5, r6, r7⟩ := id hR0
    go_wp2
    exact bodyPost_ret (ours_res (hR0.put _ _ _ _) rfl) rfl ⟨_, rfl, rdT_none _ _, below_put hb0 (Nat.le_refl _) _ _ _ _⟩
theorem ours_any : ∀ d, OursC d
  | 0 => fun t => Empty.elim t
  | d + 1 => ours_step d (ours_any d)
end Go.Proofs.YtccmmkhcacglhaaGreatDoor
