import Derived.Test.YtccmmkhcacglhaaGreatDoorWka02
import Derived.Deep.DeepCutAuto
import Derived.Test.YtccmmkhcacglhaaGreatDoorRows
import Derived.Test.YtccmmkhcacglhaaGreatDoorWkc01
import Derived.Test.YtccmmkhcacglhaaGreatDoorWkc02
import Derived.Test.YtccmmkhcacglhaaGreatDoorWka01

/- What the document's binary does. -/
namespace Go.Proofs.YtccmmkhcacglhaaGreatDoor
open Go.RowKit Go.Lib
set_option linter.unusedSimpArgs false
set_option linter.unusedVariables false
attribute [local go_sem ↓] Go.wp_at_zero Go.wp_at_succ

theorem bin_res {w4 : World} {R : Nat} {a b c e : Value} {tmps : Array Value} (hB : B4 w4 R a b c e) (ht : tmps.getD 4 undef = .pointer (some ⟨R, 0, none⟩)) : (results Tryz.f176 tmps).run Tryz.prog w4 = .ok (.agg #[a, b, c, e]) w4 := by
  obtain ⟨c0, c1, c2, c3, _, _, _, _⟩ := hB
  have ht' : tmps[4]?.getD undef = .pointer (some ⟨R, 0, none⟩) := by simpa using ht
  simp [results, Tryz.results176, go_sem, ht', c0, c1, c2, c3]
theorem prim_any {ws : List Wd} {f : Nat} (hPC : PrimC ws f) (hBC : BinC ws f) : PrimC ws (f + 1) := by
  intro X a cap n w hk hfu h
  by_cases hn : n < ws.length
  · exact prim_word hPC hBC hk hfu h hn
  · exact prim_end hk h hn
set_option maxRecDepth 100000 in
set_option maxHeartbeats 4000000 in
theorem bin_six {ws : List Wd} {f X : Nat} {a : Option Addr} {cap n : Nat} {w : World} (hPC : PrimC ws f) (hk : Wk ws cap) (hfu : 7 * (ws.length - n) < f) (h : Rr w X a cap ws n (-1)) :
    Calls Tryz.prog 176 #[.pointer (some ⟨X, 0, none⟩), .int .i64 6] w fun e w' => ∃ v, e = .returned v ∧ RdX (fun b => w.heap.size ≤ b) w' (psW ws f 6 n).1 v ∧ Rr w' X a cap ws (psW ws f 6 n).2.1 (psW ws f 6 n).2.2 ∧ Fx X w w' := by
  have hX := h.lt
  have hr0 := h.on (alN w)
  have hP := hPC X a cap n _ hk hfu hr0
  have hB0 : B4 (w.alloc zN) w.heap.size (.int .i64 0) (.int .i64 0) (.string ⟨#[]⟩) (.slice none 0 0) := B4.new w _ _ _ _ _ _ rfl
  have hs0 : (w.alloc zN).heap.size = w.heap.size + 1 := by simp
  obtain ⟨R, hR⟩ : ∃ R, psW ws f 6 n = R := ⟨_, rfl⟩
  rw [hR] at hP ⊢
  clear hR
  go_enter Tryz.func176, Tryz.ntmps176
  go_wp2_with (first
    | (go_at_call 195; refine hP.mono ?_; rintro e w3 ⟨v, rfl, hx3, hr3, hf3⟩; obtain ⟨xk, xm, xs, xa, xl, xc, rfl⟩ := hx3.form; have hB3 := hB0.fx hf3 (by omega); obtain ⟨q0, q1, q2, q3, t0, t1, t2, t3⟩ := id hB3))
  refine bodyPost_ret (bin_res (hB3.put _ _ _ _) rfl) rfl ⟨_, rfl, hx3.keep (fun b hb hl => ⟨by omega, ?_⟩), hr3.far4 hX _ _ _ _, (((Fx.refl X w).alloc _).trans hf3).put4 (Nat.le_refl _) _ _ _ _⟩
  exact heap_put (by omega) _ _ _ _
/-- How many words are left to be read, as memory tells. -/
def rat (X L : Nat) (w : World) : Nat := match w.cell? ⟨X, 1, none⟩, w.cell? ⟨X, 2, none⟩ with | some (.int _ z), some (.int _ b) => if b < 0 then L - z.toNat + 1 else 0 | _, _ => 0
theorem Rr.rat {w : World} {X : Nat} {a : Option Addr} {cap : Nat} {ws : List Wd} {n : Nat} {b : Int} (h : Rr w X a cap ws n b) (L : Nat) : rat X L w = if b < 0 then L - n + 1 else 0 := by
  unfold Go.Proofs.YtccmmkhcacglhaaGreatDoor.rat
  rw [h.c1, h.c2]
  simp only [Int.toNat_natCast]
theorem node_bin {R N lo : Nat} {w8 : World} {x y : Sx} {s : ByteArray} {c0 c1 c2 c3 e0 e1 e2 e3 : Value} (hx : RdX (fun b => R < b ∧ b ≠ N) w8 x (.agg #[c0, c1, c2, c3])) (hy : RdX (fun b => lo ≤ b) w8 y (.agg #[e0, e1, e2, e3])) (hlo : N < lo) (hRN : R < N) (hl : N < w8.heap.size) :
    RdX (fun b => R < b ∧ b ≠ N) (put4 (w8.alloc (.cells #[c0, c1, c2, c3, e0, e1, e2, e3] 132)) N (.int .i64 5) (.int .i64 0) (.string s) (.slice (some ⟨w8.heap.size, 0, none⟩) 2 2)) (mk2 s x y) (.agg #[.int .i64 5, .int .i64 0, .string s, .slice (some ⟨w8.heap.size, 0, none⟩) 2 2]) := by
  have h9 := (Below.refl w8.heap.size w8).alloc (Nat.le_refl _) (.cells #[c0, c1, c2, c3, e0, e1, e2, e3] 132)
  have hblk : ∀ b, b ≠ N → b < w8.heap.size → (put4 (w8.alloc (.cells #[c0, c1, c2, c3, e0, e1, e2, e3] 132)) N (.int .i64 5) (.int .i64 0) (.string s) (.slice (some ⟨w8.heap.size, 0, none⟩) 2 2)).heap[b]? = w8.heap[b]? := fun b hb hl => by
    rw [heap_put (fun e => hb e.symm), h9.block b hl]
  have hc : ∀ i (u : Value), (#[c0, c1, c2, c3, e0, e1, e2, e3] : Array Value)[i]? = some u → (put4 (w8.alloc (.cells #[c0, c1, c2, c3, e0, e1, e2, e3] 132)) N (.int .i64 5) (.int .i64 0) (.string s) (.slice (some ⟨w8.heap.size, 0, none⟩) 2 2)).cell? ⟨w8.heap.size, i, none⟩ = some u := fun i u hu =>
    (World.cell?_of_block (a := ⟨w8.heap.size, i, none⟩) (heap_put (by show N ≠ w8.heap.size; omega) _ _ _ _)).trans ((cell_of_row _ _ i _ _ (0, 0) (heap_alloc_new w8 _)).trans hu)
  exact rdX_mk2 (hx.keep fun b hb hlt => ⟨hb, hblk b hb.2 hlt⟩) (hy.keep fun b hb hlt => ⟨⟨by omega, by omega⟩, hblk b (by omega) hlt⟩) ⟨by omega, by omega⟩ (hc 0 _ rfl) (hc 1 _ rfl) (hc 2 _ rfl) (hc 3 _ rfl) (hc 4 _ rfl) (hc 5 _ rfl) (hc 6 _ rfl) (hc 7 _ rfl)
set_option maxRecDepth 100000 in
set_option maxHeartbeats 8000000 in
theorem bin_lev {ws : List Wd} {f X : Nat} {a : Option Addr} {cap n k : Nat} {w : World} (hBC : BinC ws f) (hk : Wk ws cap) (hk1 : 1 ≤ k) (hk5 : k ≤ 5) (hfu : 7 * (ws.length - n) + (6 - k) < f + 1) (h : Rr w X a cap ws n (-1)) :
    Calls Tryz.prog 176 #[.pointer (some ⟨X, 0, none⟩), .int .i64 (k : Int)] w fun e w' => ∃ v, e = .returned v ∧ RdX (fun b => w.heap.size ≤ b) w' (psW ws (f + 1) k n).1 v ∧ Rr w' X a cap ws (psW ws (f + 1) k n).2.1 (psW ws (f + 1) k n).2.2 ∧ Fx X w w' := by
  have hX := h.lt
  have hr0 := h.on (alN w)
  have hB := hBC X a cap n (k + 1) _ hk (by omega) (by omega) (by omega) hr0
  have hB0 : B4 (w.alloc zN) w.heap.size (.int .i64 0) (.int .i64 0) (.string ⟨#[]⟩) (.slice none 0 0) := B4.new w _ _ _ _ _ _ rfl
  have hs0 : (w.alloc zN).heap.size = w.heap.size + 1 := by simp
  have e : psW ws (f + 1) k n = lop (ws.map tkW) (psr (valB 0) rsvB (ws.map tkW) f (k + 1)) k (ws.map tkW).length (psW ws f (k + 1) n) := psr_lev (by omega)
  obtain ⟨R, hR⟩ : ∃ R, psW ws (f + 1) k n = R := ⟨_, rfl⟩
  rw [hR] at e ⊢
  have hup : BadOr _ n (psW ws f (k + 1) n) := psr_up f (k + 1) n (by omega) (by omega)
  obtain ⟨⟨x, n1, b1⟩, hQ⟩ : ∃ r, psW ws f (k + 1) n = r := ⟨_, rfl⟩
  rw [hQ] at hB e hup
  simp only at hB
  have hN : ∀ m : Nat, (((m + 1 : Nat)) : Int) = (m : Int) + 1 := fun m => by omega
  rw [hN] at hB
  have HL : Hid (lop (ws.map tkW) (psr (valB 0) rsvB (ws.map tkW) f (k + 1)) k (ws.map tkW).length (x, n1, b1) = R) := e.symm
  have k6 : ((k : Int) == 6) = false := beq_eq_false_iff_ne.2 (by omega)
  have i1 : IntKind.i64.wrap ((k : Int) + 1) = (k : Int) + 1 := by rw [IntKind.wrap_i64]; omega
  clear e hQ hR
  go_enter Tryz.func176, Tryz.ntmps176
  go_wp2_with (first
    | (go_at_call 176; refine hB.mono ?_; rintro e w3 ⟨v, rfl, hx3, hr3, hf3⟩; obtain ⟨xk, xm, xs, xa, xl, xc, rfl⟩ := hx3.form; have hB3 := hB0.fx hf3 (by omega)))
  have hal := (Below.refl w3.heap.size w3).alloc (Nat.le_refl _) (.cells #[.int .i64 xk, .int .i64 xm, .string xs, .slice xa xl xc] 132)
  have hr4 := hr3.on hal
  have hB4 := hB3.keep hal
  have hs3 := hf3.size
  rw [hs0] at hs3
  have hx4 : RdX (fun b => w.heap.size < b ∧ b ≠ w3.heap.size) (w3.alloc (.cells #[.int .i64 xk, .int .i64 xm, .string xs, .slice xa xl xc] 132)) x (.agg #[.int .i64 xk, .int .i64 xm, .string xs, .slice xa xl xc]) := hx3.keep (fun b hb hl => ⟨⟨by omega, by omega⟩, hal.block b hl⟩)
  have hxB := B4.new w3 (.int .i64 xk) (.int .i64 xm) (.string xs) (.slice xa xl xc) 132 w3.heap.size rfl
  have hf4 := (((Fx.refl X w).alloc zN).trans hf3).alloc (.cells #[.int .i64 xk, .int .i64 xm, .string xs, .slice xa xl xc] 132)
  obtain ⟨N, hNN⟩ : ∃ N, w3.heap.size = N := ⟨_, rfl⟩
  have hst : Hid ((b1 = -1 ∧ ws.length - n1 ≤ (ws.map tkW).length ∧ n ≤ n1) ∨ 0 ≤ b1) := by
    rcases hup with ⟨q1, q2⟩ | q1
    · exact .inl ⟨q1, by rw [List.length_map]; omega, Nat.le_of_lt q2⟩
    · exact .inr q1
  have hRN : w.heap.size < N := by omega
  rw [hNN] at hx4 hxB ⊢
  generalize w3.alloc (.cells #[.int .i64 xk, .int .i64 xm, .string xs, .slice xa xl xc] 132) = w4 at *
  clear hB hx3 hr3 hf3 hB3 hal hB0 hr0 hs0 hs3 hNN hup
  go_loopw [] (fun wr => ∃ (x : Sx) (n1 G : Nat) (b1 : Int) (c0 c1 c2 c3 : Value), B4 wr N c0 c1 c2 c3 ∧ RdX (fun b => w.heap.size < b ∧ b ≠ N) wr x (.agg #[c0, c1, c2, c3]) ∧ B4 wr w.heap.size (.int .i64 0) (.int .i64 0) (.string ⟨#[]⟩) (.slice none 0 0) ∧ Rr wr X a cap ws n1 b1 ∧ Fx X w wr ∧
    Hid (lop (ws.map tkW) (psr (valB 0) rsvB (ws.map tkW) f (k + 1)) k G (x, n1, b1) = R) ∧ Hid ((b1 = -1 ∧ ws.length - n1 ≤ G ∧ n ≤ n1) ∨ 0 ≤ b1)) (fun wr => rat X ws.length wr)
  case atStart => exact ⟨x, n1, _, b1, _, _, _, _, hxB, hx4, hB4, hr4, hf4, HL, hst⟩
  case round =>
    obtain ⟨x, n1, G, b1, c0, c1, c2, c3, hxB, hx4, hB4, hr4, hf4, HL, hst⟩ := hrel
    have hrat := hr4.rat ws.length
    obtain ⟨k0, k1, k2, k3, k4, k5, k6', k7⟩ := id hxB
    obtain ⟨m0, m1, m2, m3, m4, m5, m6, m7⟩ := id hB4
    obtain ⟨d0, d1, d2, d3, d4, hL⟩ := id hr4
    obtain ⟨xk, xm, xs, xa, xl, xc, hform⟩ := hx4.form
    simp only [Value.agg.injEq, Array.mk.injEq, List.cons.injEq, and_true] at hform
    obtain ⟨rfl, rfl, rfl, rfl⟩ := hform
    have ENDS : Hid ((∀ u, (ws.map tkW)[n1]? = some u → b1 < 0 → lv u.2 ≠ k) → (x, n1, b1) = R) := fun hne => by
      have := HL.out
      rcases hst.out with ⟨q1, _, _⟩ | q1
      · rw [lop_neq (fun u hu => hne u hu (by omega))] at this
        exact this
      · rw [lop_pos q1] at this
        exact this
    by_cases hb : b1 < 0
    · by_cases hn : n1 < ws.length
      · obtain ⟨g, off, rfl, hgX, e0, e1, e2, e3⟩ := hL n1 hn
        have i2 : (n1 : Int) < (ws.length : Int) := by omega
        have i3 : (0 : Int) ≤ (n1 : Int) := by omega
        have hget : (ws.map tkW)[n1]? = some ((ws[n1]).1, byt (ws[n1]).2.1) := by rw [List.getElem?_map, List.getElem?_eq_getElem hn]; rfl
        have he1 : wr.cell? ⟨g, off + n1 * 4 + 1, none⟩ = some (.string ⟨(byt (ws[n1]).2.1).toArray⟩) := e1
        obtain ⟨bs, hbs⟩ : ∃ bs, byt (ws[n1]).2.1 = bs := ⟨_, rfl⟩
        rw [hbs] at he1 hget
        have hLv := fun w1 => rLevel_any ⟨bs.toArray⟩ w1
        have ebl : bl ⟨bs.toArray⟩ = bs := rfl
        rw [ebl] at hLv
        by_cases hlv : lv bs = k
        · rw [hlv] at hLv
          have hLq : ∀ q, Calls Tryz.prog 184 #[.string ⟨bs.toArray⟩] (wr.drewN q) fun e w'' => e = .returned (.int .i64 (k : Int)) ∧ ∃ m, w'' = wr.drewN m := fun q => (hLv _).mono (fun _ _ ⟨he, hm⟩ => ⟨he, q, hm.symm⟩)
          rcases hst.out with ⟨hb1, hG, hnn⟩ | q1
          case inr => omega
          subst hb1
          obtain ⟨G', rfl⟩ : ∃ G', G = G' + 1 := ⟨G - 1, by omega⟩
          have hB := fun w5 (hr : Rr w5 X (some ⟨g, off, none⟩) cap ws (n1 + 1) (-1)) => hBC X (some ⟨g, off, none⟩) cap (n1 + 1) (k + 1) w5 hk (by omega) (by omega) (by omega) hr
          have hup : BadOr _ (n1 + 1) (psW ws f (k + 1) (n1 + 1)) := psr_up f (k + 1) (n1 + 1) (by omega) (by omega)
          have hlop := HL.out
          rw [lop] at hlop
          simp only [hget] at hlop
          rw [if_pos ⟨by decide, hlv⟩] at hlop
          obtain ⟨⟨y, n2, b2⟩, hQ⟩ : ∃ r, psW ws f (k + 1) (n1 + 1) = r := ⟨_, rfl⟩
          rw [show psr (valB 0) rsvB (ws.map tkW) f (k + 1) (n1 + 1) (-1) = (y, n2, b2) from hQ] at hlop
          rw [hQ] at hup
          simp only [hQ] at hB hlop hup
          simp only [hN] at hB
          have hst2 : Hid ((b2 = -1 ∧ ws.length - n2 ≤ G' ∧ n ≤ n2 ∧ n1 < n2) ∨ 0 ≤ b2) := by
            rcases hup with ⟨q1, q2⟩ | q1
            · have q3 : n1 + 1 < n2 := q2
              exact .inl ⟨q1, by omega, by omega, by omega⟩
            · exact .inr q1
          have hlenl := hk.l
          have i5 : IntKind.i64.wrap ((n1 : Int) + 1) = (n1 : Int) + 1 := by rw [IntKind.wrap_i64]; omega
          clear ENDS HL hst hL hget hbs e0 e1 e2 e3 hlv ebl hLv hup hQ
          go_wp2
          go_quiet (first | (exact hLq _))
          have hxB' := hxB.keep (draws _ nq)
          have hB4' := hB4.keep (draws _ nq)
          have hr4' := hr4.on (draws _ nq)
          have hf4' := hf4.drewN nq
          have hx4' : RdX (fun b => w.heap.size < b ∧ b ≠ N) (wr.drewN nq) x (.agg #[.int .i64 xk, .int .i64 xm, .string xs, .slice xa xl xc]) := hx4.keep (fun b hb hl => ⟨hb, rfl⟩)
          have hdr : ∀ p, (wr.drewN nq).cell? p = wr.cell? p := fun _ => rfl
          rw [← hdr] at he1
          clear hdr hxB hB4 hr4 hf4 hx4 k0 k1 k2 k3 k4 k5 k6' k7 m0 m1 m2 m3 m4 m5 m6 m7 d0 d1 d2 d3 d4 hLq
          obtain ⟨d0, d1, d2, d3, d4, hL⟩ := id hr4'
          clear hL
          generalize wr.drewN nq = w5 at *
          go_wp2
          go_quiet (fail)
          have hxB := hxB'.keep (draws _ nq)
          have hB4 := hB4'.keep (draws _ nq)
          have hr4 := hr4'.on (draws _ nq)
          have hf4 := hf4'.drewN nq
          have hx4 : RdX (fun b => w.heap.size < b ∧ b ≠ N) (w5.drewN nq) x (.agg #[.int .i64 xk, .int .i64 xm, .string xs, .slice xa xl xc]) := hx4'.keep (fun b hb hl => ⟨hb, rfl⟩)
          clear hxB' hB4' hr4' hf4' hx4' d0 d1 d2 d3 d4 he1
          generalize w5.drewN nq = w6 at *
          obtain ⟨d0, d1, d2, d3, d4, hL⟩ := id hr4
          clear hL
          have hS : Rr (w6.setCell ⟨X, 1, none⟩ (.int .i64 ((n1 : Int) + 1))) X (some ⟨g, off, none⟩) cap ws (n1 + 1) (-1) := hr4.set1 (n1 + 1)
          have hBB := hB _ hS
          have hxS := hxB.far (X := X) (i := 1) (by omega) (.int .i64 ((n1 : Int) + 1))
          have hRS := hB4.far (X := X) (i := 1) (by omega) (.int .i64 ((n1 : Int) + 1))
          have hFS : Fx X w (w6.setCell ⟨X, 1, none⟩ (.int .i64 ((n1 : Int) + 1))) := hf4.setX _
          have hsS : (w6.setCell ⟨X, 1, none⟩ (.int .i64 ((n1 : Int) + 1))).heap.size = w6.heap.size := by simp
          have hNl : N < w6.heap.size := hxB.lt
          have hyS : RdX (fun b => w.heap.size < b ∧ b ≠ N) (w6.setCell ⟨X, 1, none⟩ (.int .i64 ((n1 : Int) + 1))) x (.agg #[.int .i64 xk, .int .i64 xm, .string xs, .slice xa xl xc]) := hx4.keep (fun b hb hl => ⟨hb, Below.heap_setCell _ _ _ _ (fun e => by have : b = X := e; omega)⟩)
          clear hB hx4 hxB hB4 hr4 hf4
          go_upto_region 8 with (first
            | (go_at_call 176; refine hBB.mono ?_; rintro e w7 ⟨v, rfl, hy7, hr7, hf7⟩; obtain ⟨yk, ym, ys, ya, yl, yc, rfl⟩ := hy7.form))
          have hx7 := hxS.fx hf7 (by omega)
          have hR7 := hRS.fx hf7 (by omega)
          have hs7 := hf7.size
          rw [hsS] at hs7
          have hf8 := (hFS.trans hf7).alloc (.cells #[.int .i64 yk, .int .i64 ym, .string ys, .slice ya yl yc] 132)
          have ha8 := (Below.refl w7.heap.size w7).alloc (Nat.le_refl _) (.cells #[.int .i64 yk, .int .i64 ym, .string ys, .slice ya yl yc] 132)
          have hx8 := hx7.keep ha8
          have hR8 := hR7.keep ha8
          have hr8 := hr7.on ha8
          have hA8 := At4.new w7 (.int .i64 yk) (.int .i64 ym) (.string ys) (.slice ya yl yc) 132
          have hX8 : RdX (fun b => w.heap.size < b ∧ b ≠ N) (w7.alloc (.cells #[.int .i64 yk, .int .i64 ym, .string ys, .slice ya yl yc] 132)) x (.agg #[.int .i64 xk, .int .i64 xm, .string xs, .slice xa xl xc]) :=
            hyS.keep (fun b hb hl => ⟨hb, (ha8.block b (by rw [hsS] at hl; omega)).trans (hf7.block b hl (fun e => by have : b = X := Option.some.inj e; omega))⟩)
          have hY8 : RdX (fun b => w6.heap.size ≤ b) (w7.alloc (.cells #[.int .i64 yk, .int .i64 ym, .string ys, .slice ya yl yc] 132)) y (.agg #[.int .i64 yk, .int .i64 ym, .string ys, .slice ya yl yc]) :=
            hy7.keep (fun b hb hl => ⟨by rw [hsS] at hb; exact hb, ha8.block b hl⟩)
          obtain ⟨YB, hYB⟩ : ∃ YB, w7.heap.size = YB := ⟨_, rfl⟩
          rw [hYB] at hA8 ⊢
          clear hx7 hR7 hr7 hf7 hy7 ha8 hFS hxS hRS hS hBB hyS hYB d0 d1 d2 d3 d4
          generalize w7.alloc (.cells #[.int .i64 yk, .int .i64 ym, .string ys, .slice ya yl yc] 132) = w8 at *
          have ha9 := (Below.refl w8.heap.size w8).alloc (Nat.le_refl _) (.cells #[.int .i64 xk, .int .i64 xm, .string xs, .slice xa xl xc, .int .i64 yk, .int .i64 ym, .string ys, .slice ya yl yc] 132)
          have hx9 := hx8.keep ha9
          have hR9 := hR8.keep ha9
          obtain ⟨k0, k1, k2, k3, _, _, _, _⟩ := id hx8
          obtain ⟨l0, l1, l2, l3, l4, l5, l6, l7⟩ := id hx9
          obtain ⟨a0, a1, a2, a3⟩ := id hA8
          have hf9 := hf8.alloc (.cells #[.int .i64 xk, .int .i64 xm, .string xs, .slice xa xl xc, .int .i64 yk, .int .i64 ym, .string ys, .slice ya yl yc] 132)
          go_upto_region 9 with fail
          have hx10 := hx9.put (.int .i64 5) (.int .i64 0) (.string ⟨bs.toArray⟩) (.slice (some ⟨w8.heap.size, 0, none⟩) 2 2)
          have hR10 := hR9.farPut (X := N) (by omega) (.int .i64 5) (.int .i64 0) (.string ⟨bs.toArray⟩) (.slice (some ⟨w8.heap.size, 0, none⟩) 2 2)
          have hr10 := (hr8.on ha9).far4 (N := N) (by omega) (.int .i64 5) (.int .i64 0) (.string ⟨bs.toArray⟩) (.slice (some ⟨w8.heap.size, 0, none⟩) 2 2)
          have hf10 := hf9.put4 (N := N) (by omega) (.int .i64 5) (.int .i64 0) (.string ⟨bs.toArray⟩) (.slice (some ⟨w8.heap.size, 0, none⟩) 2 2)
          have hX10 := node_bin (s := ⟨bs.toArray⟩) hX8 hY8 hNl hRN hx8.lt
          unfold put4 at hx10 hR10 hr10 hf10 hX10
          clear hx8 hR8 hr8 hA8 hX8 hY8 ha9 hx9 hR9 hf8 hf9 k0 k1 k2 k3 l0 l1 l2 l3 l4 l5 l6 l7 a0 a1 a2 a3
          generalize (((((w8.alloc (.cells #[.int .i64 xk, .int .i64 xm, .string xs, .slice xa xl xc, .int .i64 yk, .int .i64 ym, .string ys, .slice ya yl yc] 132)).setCell ⟨N, 0, none⟩ (.int .i64 5)).setCell ⟨N, 1, none⟩ (.int .i64 0)).setCell ⟨N, 2, none⟩ (.string ⟨bs.toArray⟩)).setCell ⟨N, 3, none⟩ (.slice (some ⟨w8.heap.size, 0, none⟩) 2 2)) = w10 at *
          obtain ⟨P8, hP8⟩ : ∃ P8, w8.heap.size = P8 := ⟨_, rfl⟩
          rw [hP8] at hx10 hX10 ⊢
          clear hP8
          obtain ⟨k0, k1, k2, k3, _, _, _, _⟩ := id hx10
          obtain ⟨m0, m1, m2, m3, m4, m5, m6, m7⟩ := id hR10
          by_cases h3 : k = 3
          · rw [if_pos h3] at hlop
            subst hlop
            have j3 : ((k : Int) == 3) = true := by simp; omega
            clear hst2
            go_wp2
            exact bodyPost_ret (bin_res (hR10.put _ _ _ _) rfl) rfl ⟨_, rfl, hX10.keep (fun b hb hl => ⟨by omega, heap_put (by omega) _ _ _ _⟩), hr10.far4 hX _ _ _ _, hf10.put4 (Nat.le_refl _) _ _ _ _⟩
          · rw [if_neg h3] at hlop
            have HL2 : Hid (lop (ws.map tkW) (psr (valB 0) rsvB (ws.map tkW) f (k + 1)) k G' (mk2 ⟨bs.toArray⟩ x y, n2, b2) = R) := hlop
            have j3 : ((k : Int) == 3) = false := beq_eq_false_iff_ne.2 (by omega)
            have hm10 := hr10.rat ws.length
            clear hlop
            go_wp2
            go_roundw
            case rel =>
              refine ⟨_, _, _, _, _, _, _, _, hx10, hX10, hR10, hr10, hf10, HL2, ?_⟩
              rcases hst2.out with ⟨q1, q2, q3, _⟩ | q1
              · exact .inl ⟨q1, q2, q3⟩
              · exact .inr q1
            case measure =>
              rw [hrat, hm10, if_pos (show (-1 : Int) < 0 by decide)]
              rcases hst2.out with ⟨q1, q2, q3, q4⟩ | q1
              · rw [if_pos (by omega)]; omega
              · rw [if_neg (by omega)]; omega
        · have i4 : ((lv bs : Int) == (k : Int)) = false := beq_eq_false_iff_ne.2 (by omega)
          have HV := ENDS.out (fun u hu _ => by rw [hget] at hu; injection hu with hu; subst hu; exact hlv)
          subst HV
          obtain ⟨lb, hlb⟩ : ∃ lb, lv bs = lb := ⟨_, rfl⟩
          rw [hlb] at hLv i4
          have hLq : ∀ q, Calls Tryz.prog 184 #[.string ⟨bs.toArray⟩] (wr.drewN q) fun e w'' => e = .returned (.int .i64 (lb : Int)) ∧ ∃ m, w'' = wr.drewN m := fun q => (hLv _).mono (fun _ _ ⟨he, hm⟩ => ⟨he, q, hm.symm⟩)
          clear ENDS HL hst hL hget hbs e0 e1 e2 e3 hlv ebl hlb hLv
          go_wp2
          go_quiet (first | (exact hLq _))
          have hxB' := hxB.keep (draws _ nq)
          have hB4' := hB4.keep (draws _ nq)
          have hr4' := hr4.on (draws _ nq)
          have hf4' := hf4.drewN nq
          have hx4' : RdX (fun b => w.heap.size < b ∧ b ≠ N) (wr.drewN nq) x (.agg #[.int .i64 xk, .int .i64 xm, .string xs, .slice xa xl xc]) := hx4.keep (fun b hb hl => ⟨hb, rfl⟩)
          clear hxB hB4 hr4 hf4 hx4 k0 k1 k2 k3 k4 k5 k6' k7 m0 m1 m2 m3 m4 m5 m6 m7 d0 d1 d2 d3 d4 hrat
          obtain ⟨k0, k1, k2, k3, _, _, _, _⟩ := id hxB'
          obtain ⟨m0, m1, m2, m3, m4, m5, m6, m7⟩ := id hB4'
          generalize wr.drewN nq = w5 at *
          go_wp2
          exact bodyPost_ret (bin_res (hB4'.put _ _ _ _) rfl) rfl ⟨_, rfl, hx4'.keep (fun b hb hl => ⟨by omega, heap_put (by omega) _ _ _ _⟩), hr4'.far4 hX _ _ _ _, hf4'.put4 (Nat.le_refl _) _ _ _ _⟩
      · have i2 : decide (n1 < ws.length) = false := decide_eq_false hn
        have HV := ENDS.out (fun u hu => by rw [List.getElem?_eq_none (by rw [List.length_map]; omega)] at hu; cases hu)
        subst HV
        clear ENDS HL hst hL hn
        go_wp2
        go_quiet (fail)
        have hxB' := hxB.keep (draws _ nq)
        have hB4' := hB4.keep (draws _ nq)
        have hr4' := hr4.on (draws _ nq)
        have hf4' := hf4.drewN nq
        have hx4' : RdX (fun b => w.heap.size < b ∧ b ≠ N) (wr.drewN nq) x (.agg #[.int .i64 xk, .int .i64 xm, .string xs, .slice xa xl xc]) := hx4.keep (fun b hb hl => ⟨hb, rfl⟩)
        clear hxB hB4 hr4 hf4 hx4 k0 k1 k2 k3 k4 k5 k6' k7 m0 m1 m2 m3 m4 m5 m6 m7 d0 d1 d2 d3 d4 hrat
        obtain ⟨k0, k1, k2, k3, _, _, _, _⟩ := id hxB'
        obtain ⟨m0, m1, m2, m3, m4, m5, m6, m7⟩ := id hB4'
        generalize wr.drewN nq = w5 at *
        go_wp2
        exact bodyPost_ret (bin_res (hB4'.put _ _ _ _) rfl) rfl ⟨_, rfl, hx4'.keep (fun b hb hl => ⟨by omega, heap_put (by omega) _ _ _ _⟩), hr4'.far4 hX _ _ _ _, hf4'.put4 (Nat.le_refl _) _ _ _ _⟩
    · have i2 : decide (b1 < 0) = false := decide_eq_false hb
      have HV := ENDS.out (fun u hu q => absurd q hb)
      subst HV
      clear ENDS HL hst hL hb
      go_wp2
      go_quiet (fail)
      have hxB' := hxB.keep (draws _ nq)
      have hB4' := hB4.keep (draws _ nq)
      have hr4' := hr4.on (draws _ nq)
      have hf4' := hf4.drewN nq
      have hx4' : RdX (fun b => w.heap.size < b ∧ b ≠ N) (wr.drewN nq) x (.agg #[.int .i64 xk, .int .i64 xm, .string xs, .slice xa xl xc]) := hx4.keep (fun b hb hl => ⟨hb, rfl⟩)
      clear hxB hB4 hr4 hf4 hx4 k0 k1 k2 k3 k4 k5 k6' k7 m0 m1 m2 m3 m4 m5 m6 m7 d0 d1 d2 d3 d4 hrat
      obtain ⟨k0, k1, k2, k3, _, _, _, _⟩ := id hxB'
      obtain ⟨m0, m1, m2, m3, m4, m5, m6, m7⟩ := id hB4'
      generalize wr.drewN nq = w5 at *
      go_wp2
      exact bodyPost_ret (bin_res (hB4'.put _ _ _ _) rfl) rfl ⟨_, rfl, hx4'.keep (fun b hb hl => ⟨by omega, heap_put (by omega) _ _ _ _⟩), hr4'.far4 hX _ _ _ _, hf4'.put4 (Nat.le_refl _) _ _ _ _⟩
/-- The document's reader reads as levels do. -/
theorem rd_any (ws : List Wd) : ∀ f, PrimC ws f ∧ BinC ws f
  | 0 => ⟨fun X a cap n w _ hf _ => absurd hf (Nat.not_lt_zero _), fun X a cap n k w _ _ _ hf _ => absurd hf (Nat.not_lt_zero _)⟩
  | f + 1 => by
    obtain ⟨hP, hB⟩ := rd_any ws f
    have hP' := prim_any hP hB
    refine ⟨hP', fun X a cap n k w hk hk1 hk6 hf h => ?_⟩
    by_cases h6 : k = 6
    · subst h6
      exact bin_six hP' hk (by omega) h
    · exact bin_lev hB hk hk1 (by omega) hf h
end Go.Proofs.YtccmmkhcacglhaaGreatDoor

/- What the document's Nodes and deep do. -/
namespace Go.Proofs.YtccmmkhcacglhaaGreatDoor
open Go.RowKit
set_option linter.unusedSimpArgs false
set_option linter.unusedVariables false

def NodesC (d : Nat) : Prop := ∀ (ok : Nat → Prop) (t : T d) (v : Value) (w : World), RdT ok w d t v → cnt d t ≤ 100000 →
  Calls Tryz.prog 167 #[v] w fun e w' => e = .returned (.int .i64 (ndC d t : Int)) ∧ Below w.heap.size w w'
def DeepC (d : Nat) : Prop := ∀ (ok : Nat → Prop) (t : T d) (v : Value) (w : World), RdT ok w d t v → cnt d t ≤ 100000 →
  Calls Tryz.prog 168 #[v] w fun e w' => e = .returned (.int .i64 (dpC d t : Int)) ∧ Below w.heap.size w w'

set_option maxRecDepth 100000 in
set_option maxHeartbeats 1000000 in
theorem nodes_step (d : Nat) (IH : NodesC d) : NodesC (d + 1) := by
  intro ok t v w h hcn
  obtain ⟨k, n, s, ps, rfl⟩ := T.open t
  obtain ⟨sl, rfl, hp⟩ := rdT_mk.1 h
  obtain ⟨a, cap, rfl, hlc, hcm, hcell⟩ := hp.form
  rw [cnt_mk] at hcn
  have hpl := cnt_len ps
  rw [ndC_mk]
  have hE : Hid (∀ m : Nat, m = (ps.map (ndC d)).sum → ((min ((ps.map (ndC d)).sum + 1) 41 : Nat) : Int) = min ((m : Int) + 1) 41) := fun m hm => by subst hm; omega
  have HC : Hid (∀ (i : Nat) (hi : i < ps.length), ∃ b off c0 c1 c2 c3, a = some ⟨b, off, none⟩ ∧ b < w.heap.size ∧ RdT ok w d ps[i] (.agg #[c0, c1, c2, c3]) ∧ w.cell? ⟨b, off + i * 4, none⟩ = some c0 ∧ w.cell? ⟨b, off + i * 4 + 1, none⟩ = some c1 ∧ w.cell? ⟨b, off + i * 4 + 2, none⟩ = some c2 ∧ w.cell? ⟨b, off + i * 4 + 3, none⟩ = some c3) := hcell
  have HP : Hid (∀ (i : Nat) (hi : i < ps.length), cnt d ps[i] ≤ 100000) := fun i hi => by have := cnt_part (List.getElem_mem hi); omega
  have hpl' : ps.length ≤ 100000 := by omega
  clear hcell h hp hcn hpl
  go_enter Tryz.func167, Tryz.ntmps167
  go_wp2
  go_loopw [3, 8] (fun l i wr => ∃ (j m : Nat), j ≤ ps.length ∧ i = .int .i64 (j : Int) ∧ l = .int .i64 ((m : Int) + 1) ∧ Hid (m = ((ps.take j).map (ndC d)).sum) ∧ m ≤ 41 * j ∧ At4 wr w.heap.size (.int .i64 k) (.int .i64 n) (.string s) (.slice a ps.length cap) ∧ Below w.heap.size w wr) (fun _ i _ => ps.length - (RowKit.intOf i).toNat)
  case atStart => exact ⟨0, 0, Nat.zero_le _, rfl, rfl, rfl, by omega, At4.new _ _ _ _ _ _, (Below.refl _ _).alloc (Nat.le_refl _) _⟩
  case round =>
    obtain ⟨j, m, hj, rfl, rfl, hm, hmb, hA, hb⟩ := hrel
    obtain ⟨y0, y1, y2, y3⟩ := id hA
    by_cases hlt : j < ps.length
    · obtain ⟨b, off, c0, c1, c2, c3, rfl, hbl, hr, k0, k1, k2, k3⟩ := HC.out j hlt
      have C0 := (hb.cell (p := ⟨b, off + j * 4, none⟩) hbl).trans k0
      have C1 := (hb.cell (p := ⟨b, off + j * 4 + 1, none⟩) hbl).trans k1
      have C2 := (hb.cell (p := ⟨b, off + j * 4 + 2, none⟩) hbl).trans k2
      have C3 := (hb.cell (p := ⟨b, off + j * 4 + 3, none⟩) hbl).trans k3
      have hcall := IH ok ps[j] _ wr (RdT.below hb (Nat.le_refl _) hr) (HP.out j hlt)
      have hst := sum_take_succ (ndC d) ps j hlt
      have hle := ndC_le d ps[j]
      obtain ⟨z, hz⟩ : ∃ z, ndC d ps[j] = z := ⟨_, rfl⟩
      rw [hz] at hcall hst hle
      have hN : Hid (m + z = ((ps.take (j + 1)).map (ndC d)).sum) := by show m + z = _; rw [hst, ← hm.out]
      have i1 : (j : Int) < (ps.length : Int) := by omega
      have i2 : (0 : Int) ≤ (j : Int) := by omega
      clear k0 k1 k2 k3 hr hbl hst hz
      go_wp2_with (first
        | (go_at_call 167; refine hcall.mono ?_; rintro e w1 ⟨rfl, b1⟩))
      go_roundw
      case rel => exact ⟨j + 1, m + z, hlt, by go_num, by go_num, hN, by omega, hA.keepB b1 (World.block_lt_of_cell? wr _ y0), hb.trans (b1.mono hb.size)⟩
      case measure => simp [RowKit.intOf]; omega
    · have i1 : ¬ (j : Int) < (ps.length : Int) := by omega
      have hmm := hm.out
      rw [List.take_of_length_le (by omega)] at hmm
      have hF := hE.out m hmm
      clear hmm
      go_wp2
      all_goals go_ret
      all_goals exact ⟨ret_i64 (by omega), hb⟩
theorem nodes_any : ∀ (d : Nat), NodesC d
  | 0 => fun _ t => Empty.elim t
  | d + 1 => nodes_step d (nodes_any d)

set_option maxRecDepth 100000 in
set_option maxHeartbeats 1000000 in
theorem deep_step (d : Nat) (IH : DeepC d) : DeepC (d + 1) := by
  intro ok t v w h hcn
  obtain ⟨k, n, s, ps, rfl⟩ := T.open t
  obtain ⟨sl, rfl, hp⟩ := rdT_mk.1 h
  obtain ⟨a, cap, rfl, hlc, hcm, hcell⟩ := hp.form
  rw [cnt_mk] at hcn
  have hpl := cnt_len ps
  rw [dpC_mk]
  have HC : Hid (∀ (i : Nat) (hi : i < ps.length), ∃ b off c0 c1 c2 c3, a = some ⟨b, off, none⟩ ∧ b < w.heap.size ∧ RdT ok w d ps[i] (.agg #[c0, c1, c2, c3]) ∧ w.cell? ⟨b, off + i * 4, none⟩ = some c0 ∧ w.cell? ⟨b, off + i * 4 + 1, none⟩ = some c1 ∧ w.cell? ⟨b, off + i * 4 + 2, none⟩ = some c2 ∧ w.cell? ⟨b, off + i * 4 + 3, none⟩ = some c3) := hcell
  have HP : Hid (∀ (i : Nat) (hi : i < ps.length), cnt d ps[i] ≤ 100000) := fun i hi => by have := cnt_part (List.getElem_mem hi); omega
  have hpl' : ps.length ≤ 100000 := by omega
  clear hcell h hp hcn hpl
  go_enter Tryz.func168, Tryz.ntmps168
  go_wp2
  go_loopw [3, 8] (fun l i wr => ∃ (j m : Nat), j ≤ ps.length ∧ i = .int .i64 (j : Int) ∧ l = .int .i64 (m : Int) ∧ Hid (m = ((ps.take j).map (dpC d)).foldl max 0) ∧ m ≤ 100000 ∧ At4 wr w.heap.size (.int .i64 k) (.int .i64 n) (.string s) (.slice a ps.length cap) ∧ Below w.heap.size w wr) (fun _ i _ => ps.length - (RowKit.intOf i).toNat)
  case atStart => exact ⟨0, 0, Nat.zero_le _, rfl, rfl, rfl, by omega, At4.new _ _ _ _ _ _, (Below.refl _ _).alloc (Nat.le_refl _) _⟩
  case round =>
    obtain ⟨j, m, hj, rfl, rfl, hm, hmb, hA, hb⟩ := hrel
    obtain ⟨y0, y1, y2, y3⟩ := id hA
    by_cases hlt : j < ps.length
    · obtain ⟨b, off, c0, c1, c2, c3, rfl, hbl, hr, k0, k1, k2, k3⟩ := HC.out j hlt
      have C0 := (hb.cell (p := ⟨b, off + j * 4, none⟩) hbl).trans k0
      have C1 := (hb.cell (p := ⟨b, off + j * 4 + 1, none⟩) hbl).trans k1
      have C2 := (hb.cell (p := ⟨b, off + j * 4 + 2, none⟩) hbl).trans k2
      have C3 := (hb.cell (p := ⟨b, off + j * 4 + 3, none⟩) hbl).trans k3
      have hcall := IH ok ps[j] _ wr (RdT.below hb (Nat.le_refl _) hr) (HP.out j hlt)
      have hst := max_take_succ (dpC d) ps j hlt
      have hle := Nat.le_trans (dpC_le d ps[j]) (HP.out j hlt)
      obtain ⟨z, hz⟩ : ∃ z, dpC d ps[j] = z := ⟨_, rfl⟩
      rw [hz] at hcall hst hle
      have hN : Hid (max m z = ((ps.take (j + 1)).map (dpC d)).foldl max 0) := by show max m z = _; rw [hst, ← hm.out]
      have i1 : (j : Int) < (ps.length : Int) := by omega
      have i2 : (0 : Int) ≤ (j : Int) := by omega
      clear k0 k1 k2 k3 hr hbl hst hz
      go_wp2_with (first
        | (go_at_call 168; refine hcall.mono ?_; rintro e w1 ⟨rfl, b1⟩))
      go_roundw
      case rel => exact ⟨j + 1, max m z, hlt, by go_num, by first | rw [show (if m < z then (z : Int) else (m : Int)) = ((max m z : Nat) : Int) by split <;> omega] | (refine congrArg _ ?_; omega), hN, by omega, hA.keepB b1 (World.block_lt_of_cell? wr _ y0), hb.trans (b1.mono hb.size)⟩
      case measure => simp [RowKit.intOf]; omega
    · have i1 : ¬ (j : Int) < (ps.length : Int) := by omega
      have hmm := hm.out
      rw [List.take_of_length_le (by omega)] at hmm
      go_wp2
      go_ret
      rw [← hmm]
      exact ⟨by go_num, hb⟩
theorem deep_any : ∀ (d : Nat), DeepC d
  | 0 => fun _ t => Empty.elim t
  | d + 1 => deep_step d (deep_any d)
end Go.Proofs.YtccmmkhcacglhaaGreatDoor

/- What the document's operator, sound and Formed do. -/
namespace Go.Proofs.YtccmmkhcacglhaaGreatDoor
open Go.RowKit Go.Lib
set_option linter.unusedSimpArgs false
set_option linter.unusedVariables false

theorem str_is (s : ByteArray) (x : List UInt8) : (s.toList == x) = (bl s == x) := by rw [ByteArray.toList_eq]

set_option maxHeartbeats 1000000 in
theorem operator_any (s : ByteArray) (w : World) : Calls Tryz.prog 189 #[.string s] w fun e w' => e = .returned (.bool (opr s)) ∧ w = w' := by
  have hS := str_is s
  obtain ⟨l, hl⟩ : ∃ l, bl s = l := ⟨_, rfl⟩
  have ho : opr s = ops9.any (fun x => l == x) := by rw [← hl]; rfl
  rw [ho]
  simp only [hl] at hS
  clear hl ho
  obtain ⟨L, hL⟩ : ∃ L, s.toList = L := ⟨_, rfl⟩
  have q0 : (s.toList == [43]) = (l == [43]) := hS _
  have q1 : (s.toList == [45]) = (l == [45]) := hS _
  have q2 : (s.toList == [42]) = (l == [42]) := hS _
  have q3 : (s.toList == [60]) = (l == [60]) := hS _
  have q4 : (s.toList == [60, 61]) = (l == [60, 61]) := hS _
  have q5 : (s.toList == [61, 61]) = (l == [61, 61]) := hS _
  have q6 : (s.toList == [33, 61]) = (l == [33, 61]) := hS _
  have q7 : (s.toList == [38, 38]) = (l == [38, 38]) := hS _
  have q8 : (s.toList == [124, 124]) = (l == [124, 124]) := hS _
  clear hS hL
  simp only [ops9, List.any_cons, List.any_nil, Bool.or_false]
  cases r0 : (l == [43])
  case true => rw [r0] at q0; clear q1 q2 q3 q4 q5 q6 q7 q8; go_enter Tryz.func189, Tryz.ntmps189; go_wp2; go_ret; exact ⟨ret_bool (by simp), rfl⟩
  cases r1 : (l == [45])
  case true => rw [r0] at q0; rw [r1] at q1; clear q2 q3 q4 q5 q6 q7 q8; go_enter Tryz.func189, Tryz.ntmps189; go_wp2; go_ret; exact ⟨ret_bool (by simp), rfl⟩
  rw [r0] at q0; rw [r1] at q1
  cases r2 : (l == [42])
  case true => rw [r2] at q2; clear q3 q4 q5 q6 q7 q8; go_enter Tryz.func189, Tryz.ntmps189; go_wp2; go_ret; exact ⟨ret_bool (by simp), rfl⟩
  rw [r2] at q2
  cases r3 : (l == [60])
  case true => rw [r3] at q3; clear q4 q5 q6 q7 q8; go_enter Tryz.func189, Tryz.ntmps189; go_wp2; go_ret; exact ⟨ret_bool (by simp), rfl⟩
  rw [r3] at q3
  cases r4 : (l == [60, 61])
  case true => rw [r4] at q4; clear q5 q6 q7 q8; go_enter Tryz.func189, Tryz.ntmps189; go_wp2; go_ret; exact ⟨ret_bool (by simp), rfl⟩
  rw [r4] at q4
  cases r5 : (l == [61, 61])
  case true => rw [r5] at q5; clear q6 q7 q8; go_enter Tryz.func189, Tryz.ntmps189; go_wp2; go_ret; exact ⟨ret_bool (by simp), rfl⟩
  rw [r5] at q5
  cases r6 : (l == [33, 61])
  case true => rw [r6] at q6; clear q7 q8; go_enter Tryz.func189, Tryz.ntmps189; go_wp2; go_ret; exact ⟨ret_bool (by simp), rfl⟩
  rw [r6] at q6
  cases r7 : (l == [38, 38])
  case true => rw [r7] at q7; clear q8; go_enter Tryz.func189, Tryz.ntmps189; go_wp2; go_ret; exact ⟨ret_bool (by simp), rfl⟩
  rw [r7] at q7
  cases r8 : (l == [124, 124])
  case true => rw [r8] at q8; go_enter Tryz.func189, Tryz.ntmps189; go_wp2; go_ret; exact ⟨ret_bool (by simp), rfl⟩
  rw [r8] at q8
  go_enter Tryz.func189, Tryz.ntmps189
  go_wp2
  go_ret
  exact ⟨ret_bool (by simp), rfl⟩
end Go.Proofs.YtccmmkhcacglhaaGreatDoor

/- What the document's sound and Formed do. -/
namespace Go.Proofs.YtccmmkhcacglhaaGreatDoor
open Go.RowKit Go.Lib
set_option linter.unusedSimpArgs false
set_option linter.unusedVariables false

def SoundC (d : Nat) : Prop := ∀ (ok : Nat → Prop) (t : T d) (v : Value) (w : World), Tabs w → RdT ok w d t v → shrt 1000 d t = true →
  Calls Tryz.prog 169 #[v] w fun e w' => e = .returned (.bool (sdC d t)) ∧ Below w.heap.size w w'

set_option maxRecDepth 100000 in
set_option maxHeartbeats 4000000 in
theorem sound_step (d : Nat) (IH : SoundC d) : SoundC (d + 1) := by
  intro ok t v w hT h hsh
  obtain ⟨k, n, s, ps, rfl⟩ := T.open t
  obtain ⟨sl, rfl, hp⟩ := rdT_mk.1 h
  obtain ⟨a, cap, rfl, hlc, hcm, hcell⟩ := hp.form
  rw [shrt_mk] at hsh
  simp only [Bool.and_eq_true, decide_eq_true_eq, List.all_eq_true] at hsh
  rw [sdC_mk]
  have HC : Hid (∀ (i : Nat) (hi : i < ps.length), ∃ b off c0 c1 c2 c3, a = some ⟨b, off, none⟩ ∧ b < w.heap.size ∧ RdT ok w d ps[i] (.agg #[c0, c1, c2, c3]) ∧ w.cell? ⟨b, off + i * 4, none⟩ = some c0 ∧ w.cell? ⟨b, off + i * 4 + 1, none⟩ = some c1 ∧ w.cell? ⟨b, off + i * 4 + 2, none⟩ = some c2 ∧ w.cell? ⟨b, off + i * 4 + 3, none⟩ = some c3) := hcell
  have HP : Hid (∀ (i : Nat) (hi : i < ps.length), shrt 1000 d ps[i] = true) := fun i hi => hsh.2 _ (List.getElem_mem hi)
  have hss := hsh.1
  clear hcell h hp hsh
  have hb0 := (Below.refl w.heap.size w).alloc (Nat.le_refl _) (.cells #[.int .i64 k, .int .i64 n, .string s, .slice a ps.length cap] 132)
  by_cases k1 : k = 1
  · subst k1
    rw [if_pos rfl]
    clear HC HP hT
    go_enter Tryz.func169, Tryz.ntmps169
    go_wp2
    all_goals go_ret
    all_goals (refine ⟨ret_bool ?_, hb0⟩; first | rfl | (rw [Bool.eq_iff_iff]; simp; omega) | (rw [Bool.eq_iff_iff]; simp [*]; omega) | simp [*])
  rw [if_neg k1]
  have e1 : (k == 1) = false := beq_eq_false_iff_ne.2 k1
  by_cases k2 : k = 2
  · subst k2
    rw [if_pos rfl]
    have hn := refName_any s _ (hT.below hb0 (Nat.le_refl _)) (by omega)
    obtain ⟨z, hz⟩ : ∃ z, nameS (bl s) = z := ⟨_, rfl⟩
    rw [hz] at hn ⊢
    clear HC HP hT hz k1 e1
    go_enter Tryz.func169, Tryz.ntmps169
    go_wp2_with (first
      | (go_at_call 102; refine hn.mono ?_; rintro e w1 ⟨rfl, b1⟩))
    go_ret
    exact ⟨rfl, hb0.trans (b1.mono hb0.size)⟩
  rw [if_neg k2]
  have e2 : (k == 2) = false := beq_eq_false_iff_ne.2 k2
  by_cases k3 : k = 3
  · subst k3
    rw [if_pos (.inl rfl)]
    clear k1 k2 e1 e2 hb0
    have hE : ∃ V, ps.all (sdC d) = V := ⟨_, rfl⟩
    obtain ⟨V, hV⟩ := hE
    have HV : Hid (ps.all (sdC d) = V) := hV
    rw [hV]
    clear hV
    go_enter Tryz.func169, Tryz.ntmps169
    go_wp2
    go_loopw [37] (fun i wr => ∃ (j : Nat), j ≤ ps.length ∧ i = .int .i64 (j : Int) ∧ Hid ((ps.take j).all (sdC d) = true) ∧ At4 wr w.heap.size (.int .i64 3) (.int .i64 n) (.string s) (.slice a ps.length cap) ∧ Below w.heap.size w wr) (fun i _ => ps.length - (RowKit.intOf i).toNat)
    case atStart => exact ⟨0, Nat.zero_le _, rfl, rfl, At4.new _ _ _ _ _ _, (Below.refl _ _).alloc (Nat.le_refl _) _⟩
    case round =>
      obtain ⟨j, hj, rfl, hal, hA, hb⟩ := hrel
      obtain ⟨y0, y1, y2, y3⟩ := id hA
      by_cases hlt : j < ps.length
      · obtain ⟨b, off, c0, c1, c2, c3, rfl, hbl, hr, k0, k1, k2, k3⟩ := HC.out j hlt
        have C0 := (hb.cell (p := ⟨b, off + j * 4, none⟩) hbl).trans k0
        have C1 := (hb.cell (p := ⟨b, off + j * 4 + 1, none⟩) hbl).trans k1
        have C2 := (hb.cell (p := ⟨b, off + j * 4 + 2, none⟩) hbl).trans k2
        have C3 := (hb.cell (p := ⟨b, off + j * 4 + 3, none⟩) hbl).trans k3
        have hcall := IH ok ps[j] _ wr (hT.below hb (Nat.le_refl _)) (RdT.below hb (Nat.le_refl _) hr) (HP.out j hlt)
        have hst := all_take_succ (sdC d) ps j hlt hal.out
        have hno := all_not (sdC d) ps j hlt
        obtain ⟨z, hz⟩ : ∃ z, sdC d ps[j] = z := ⟨_, rfl⟩
        rw [hz] at hcall hst hno
        have i1 : (j : Int) < (ps.length : Int) := by omega
        have i2 : (0 : Int) ≤ (j : Int) := by omega
        clear k0 k1 k2 k3 hr hbl hz hT
        cases z with
        | true =>
          have hN : Hid ((ps.take (j + 1)).all (sdC d) = true) := hst rfl
          clear hst hno
          go_wp2_with (first
            | (go_at_call 169; refine hcall.mono ?_; rintro e w1 ⟨rfl, b1⟩))
          go_roundw
          case rel => exact ⟨j + 1, hlt, by go_num, hN, hA.keepB b1 (World.block_lt_of_cell? wr _ y0), hb.trans (b1.mono hb.size)⟩
          case measure => simp [RowKit.intOf]; omega
        | false =>
          have hF : V = false := by rw [← HV.out]; exact hno rfl
          subst hF
          clear hst hno
          go_wp2_with (first
            | (go_at_call 169; refine hcall.mono ?_; rintro e w1 ⟨rfl, b1⟩))
          go_ret
          exact ⟨ret_bool (by simp), hb.trans (b1.mono hb.size)⟩
      · have i1 : ¬ (j : Int) < (ps.length : Int) := by omega
        have hF : V = true := by rw [← HV.out]; have := hal.out; rw [List.take_of_length_le (by omega)] at this; exact this
        subst hF
        clear hT
        go_wp2
        go_ret
        exact ⟨ret_bool (by simp), hb⟩
  have e3 : (k == 3) = false := beq_eq_false_iff_ne.2 k3
  by_cases k4 : k = 4
  · subst k4
    rw [if_pos (.inr rfl)]
    clear k1 k2 e1 e2 k3 e3 hb0
    have hE : ∃ V, ps.all (sdC d) = V := ⟨_, rfl⟩
    obtain ⟨V, hV⟩ := hE
    have HV : Hid (ps.all (sdC d) = V) := hV
    rw [hV]
    clear hV
    go_enter Tryz.func169, Tryz.ntmps169
    go_wp2
    go_loopw [37] (fun i wr => ∃ (j : Nat), j ≤ ps.length ∧ i = .int .i64 (j : Int) ∧ Hid ((ps.take j).all (sdC d) = true) ∧ At4 wr w.heap.size (.int .i64 4) (.int .i64 n) (.string s) (.slice a ps.length cap) ∧ Below w.heap.size w wr) (fun i _ => ps.length - (RowKit.intOf i).toNat)
    case atStart => exact ⟨0, Nat.zero_le _, rfl, rfl, At4.new _ _ _ _ _ _, (Below.refl _ _).alloc (Nat.le_refl _) _⟩
    case round =>
      obtain ⟨j, hj, rfl, hal, hA, hb⟩ := hrel
      obtain ⟨y0, y1, y2, y3⟩ := id hA
      by_cases hlt : j < ps.length
      · obtain ⟨b, off, c0, c1, c2, c3, rfl, hbl, hr, k0, k1, k2, k3⟩ := HC.out j hlt
        have C0 := (hb.cell (p := ⟨b, off + j * 4, none⟩) hbl).trans k0
        have C1 := (hb.cell (p := ⟨b, off + j * 4 + 1, none⟩) hbl).trans k1
        have C2 := (hb.cell (p := ⟨b, off + j * 4 + 2, none⟩) hbl).trans k2
        have C3 := (hb.cell (p := ⟨b, off + j * 4 + 3, none⟩) hbl).trans k3
        have hcall := IH ok ps[j] _ wr (hT.below hb (Nat.le_refl _)) (RdT.below hb (Nat.le_refl _) hr) (HP.out j hlt)
        have hst := all_take_succ (sdC d) ps j hlt hal.out
        have hno := all_not (sdC d) ps j hlt
        obtain ⟨z, hz⟩ : ∃ z, sdC d ps[j] = z := ⟨_, rfl⟩
        rw [hz] at hcall hst hno
        have i1 : (j : Int) < (ps.length : Int) := by omega
        have i2 : (0 : Int) ≤ (j : Int) := by omega
        clear k0 k1 k2 k3 hr hbl hz hT
        cases z with
        | true =>
          have hN : Hid ((ps.take (j + 1)).all (sdC d) = true) := hst rfl
          clear hst hno
          go_wp2_with (first
            | (go_at_call 169; refine hcall.mono ?_; rintro e w1 ⟨rfl, b1⟩))
          go_roundw
          case rel => exact ⟨j + 1, hlt, by go_num, hN, hA.keepB b1 (World.block_lt_of_cell? wr _ y0), hb.trans (b1.mono hb.size)⟩
          case measure => simp [RowKit.intOf]; omega
        | false =>
          have hF : V = false := by rw [← HV.out]; exact hno rfl
          subst hF
          clear hst hno
          go_wp2_with (first
            | (go_at_call 169; refine hcall.mono ?_; rintro e w1 ⟨rfl, b1⟩))
          go_ret
          exact ⟨ret_bool (by simp), hb.trans (b1.mono hb.size)⟩
      · have i1 : ¬ (j : Int) < (ps.length : Int) := by omega
        have hF : V = true := by rw [← HV.out]; have := hal.out; rw [List.take_of_length_le (by omega)] at this; exact this
        subst hF
        clear hT
        go_wp2
        go_ret
        exact ⟨ret_bool (by simp), hb⟩
  rw [if_neg (by omega)]
  have e4 : (k == 4) = false := beq_eq_false_iff_ne.2 k4
  by_cases k5 : k = 5
  · subst k5
    rw [if_pos rfl]
    have hop := fun w1 => operator_any s w1
    clear k1 k2 e1 e2 k3 e3 k4 e4
    cases ho : opr s with
    | false =>
      simp only [ho] at hop
      clear HC HP hT
      go_enter Tryz.func169, Tryz.ntmps169
      go_wp2_with (first
        | (go_at_call 189; refine (hop _).mono ?_; rintro e w1 ⟨rfl, rfl⟩))
      go_ret
      exact ⟨ret_bool (by simp), hb0⟩
    | true =>
      simp only [ho] at hop
      rw [Bool.true_and]
      clear ho hb0
      have hE : ∃ V, ps.all (sdC d) = V := ⟨_, rfl⟩
      obtain ⟨V, hV⟩ := hE
      have HV : Hid (ps.all (sdC d) = V) := hV
      rw [hV]
      clear hV
      go_enter Tryz.func169, Tryz.ntmps169
      go_wp2_with (first | (go_at_call 189; refine (hop _).mono ?_; rintro e w1 ⟨rfl, rfl⟩))
      go_loopw [37] (fun i wr => ∃ (j : Nat), j ≤ ps.length ∧ i = .int .i64 (j : Int) ∧ Hid ((ps.take j).all (sdC d) = true) ∧ At4 wr w.heap.size (.int .i64 5) (.int .i64 n) (.string s) (.slice a ps.length cap) ∧ Below w.heap.size w wr) (fun i _ => ps.length - (RowKit.intOf i).toNat)
      case atStart => exact ⟨0, Nat.zero_le _, rfl, rfl, At4.new _ _ _ _ _ _, (Below.refl _ _).alloc (Nat.le_refl _) _⟩
      case round =>
        obtain ⟨j, hj, rfl, hal, hA, hb⟩ := hrel
        obtain ⟨y0, y1, y2, y3⟩ := id hA
        by_cases hlt : j < ps.length
        · obtain ⟨b, off, c0, c1, c2, c3, rfl, hbl, hr, k0, k1, k2, k3⟩ := HC.out j hlt
          have C0 := (hb.cell (p := ⟨b, off + j * 4, none⟩) hbl).trans k0
          have C1 := (hb.cell (p := ⟨b, off + j * 4 + 1, none⟩) hbl).trans k1
          have C2 := (hb.cell (p := ⟨b, off + j * 4 + 2, none⟩) hbl).trans k2
          have C3 := (hb.cell (p := ⟨b, off + j * 4 + 3, none⟩) hbl).trans k3
          have hcall := IH ok ps[j] _ wr (hT.below hb (Nat.le_refl _)) (RdT.below hb (Nat.le_refl _) hr) (HP.out j hlt)
          have hst := all_take_succ (sdC d) ps j hlt hal.out
          have hno := all_not (sdC d) ps j hlt
          obtain ⟨z, hz⟩ : ∃ z, sdC d ps[j] = z := ⟨_, rfl⟩
          rw [hz] at hcall hst hno
          have i1 : (j : Int) < (ps.length : Int) := by omega
          have i2 : (0 : Int) ≤ (j : Int) := by omega
          clear k0 k1 k2 k3 hr hbl hz hT
          cases z with
          | true =>
            have hN : Hid ((ps.take (j + 1)).all (sdC d) = true) := hst rfl
            clear hst hno
            go_wp2_with (first
              | (go_at_call 169; refine hcall.mono ?_; rintro e w1 ⟨rfl, b1⟩))
            go_roundw
            case rel => exact ⟨j + 1, hlt, by go_num, hN, hA.keepB b1 (World.block_lt_of_cell? wr _ y0), hb.trans (b1.mono hb.size)⟩
            case measure => simp [RowKit.intOf]; omega
          | false =>
            have hF : V = false := by rw [← HV.out]; exact hno rfl
            subst hF
            clear hst hno
            go_wp2_with (first
              | (go_at_call 169; refine hcall.mono ?_; rintro e w1 ⟨rfl, b1⟩))
            go_ret
            exact ⟨ret_bool (by simp), hb.trans (b1.mono hb.size)⟩
        · have i1 : ¬ (j : Int) < (ps.length : Int) := by omega
          have hF : V = true := by rw [← HV.out]; have := hal.out; rw [List.take_of_length_le (by omega)] at this; exact this
          subst hF
          clear hT
          go_wp2
          go_ret
          exact ⟨ret_bool (by simp), hb⟩
  rw [if_neg k5]
  have e5 : (k == 5) = false := beq_eq_false_iff_ne.2 k5
  clear HC HP hT
  go_enter Tryz.func169, Tryz.ntmps169
  go_wp2
  go_ret
  exact ⟨rfl, hb0⟩
theorem sound_any : ∀ (d : Nat), SoundC d
  | 0 => fun _ t => Empty.elim t
  | d + 1 => sound_step d (sound_any d)

set_option maxHeartbeats 1000000 in
theorem formed_any {ok : Nat → Prop} {d : Nat} {t : T d} {v : Value} {w : World} (hT : Tabs w) (h : RdT ok w d t v) (hc : cnt d t ≤ 100000) (hsh : shrt 1000 d t = true) :
    Calls Tryz.prog 143 #[v] w fun e w' => e = .returned (.bool (fmC d t)) ∧ Below w.heap.size w w' := by
  match d, t, h, hc, hsh with
  | 0, t, h, _, _ => exact Empty.elim t
  | d + 1, t, h, hc, hsh =>
    obtain ⟨k, n, s, ps, rfl⟩ := T.open t
    have h0 := h
    obtain ⟨sl, rfl, hp⟩ := rdT_mk.1 h
    have hb0 := (Below.refl w.heap.size w).alloc (Nat.le_refl _) (.cells #[.int .i64 k, .int .i64 n, .string s, sl] 132)
    have hA := At4.new w (.int .i64 k) (.int .i64 n) (.string s) sl 132
    have h1 := nodes_any (d + 1) ok (mkT k n s ps) _ _ (RdT.below hb0 (Nat.le_refl _) h0) hc
    have h2 := fun w1 (b1 : Below w.heap.size w w1) => deep_any (d + 1) ok (mkT k n s ps) _ w1 (RdT.below b1 (Nat.le_refl _) h0) hc
    have h3 := fun w1 (b1 : Below w.heap.size w w1) => sound_any (d + 1) ok (mkT k n s ps) _ w1 (hT.below b1 (Nat.le_refl _)) (RdT.below b1 (Nat.le_refl _) h0) hsh
    unfold fmC
    obtain ⟨x, hx⟩ : ∃ x, ndC (d + 1) (mkT k n s ps) = x := ⟨_, rfl⟩
    obtain ⟨y, hy⟩ : ∃ y, dpC (d + 1) (mkT k n s ps) = y := ⟨_, rfl⟩
    obtain ⟨z, hz⟩ : ∃ z, sdC (d + 1) (mkT k n s ps) = z := ⟨_, rfl⟩
    rw [hx] at h1 ⊢
    simp only [hy] at h2 ⊢
    simp only [hz] at h3 ⊢
    clear hx hy hz h0 hp hT hsh hc
    by_cases c1 : x ≤ 40
    · have f1 : (x : Int) ≤ 40 := by omega
      by_cases c2 : y ≤ 12
      · have f2 : (y : Int) ≤ 12 := by omega
        go_enter Tryz.func143, Tryz.ntmps143
        go_wp2_with (first
          | (go_at_call 167; refine h1.mono ?_; rintro e w1 ⟨rfl, b1⟩; have bb1 := hb0.trans (b1.mono hb0.size); have hA1 := hA.keepB b1 (by simp); obtain ⟨y0, y1, y2, y3⟩ := id hA1; have h2' := h2 w1 bb1; clear h1 h2)
          | (go_at_call 168; refine h2'.mono ?_; rintro e w2 ⟨rfl, b2⟩; have bb2 := bb1.trans (b2.mono bb1.size); obtain ⟨z0, z1, z2, z3⟩ := hA1.keepB b2 (World.block_lt_of_cell? w1 _ y0); have h3' := h3 w2 bb2; clear h2' h3 y0 y1 y2 y3)
          | (go_at_call 169; refine h3'.mono ?_; rintro e w3 ⟨rfl, b3⟩; have bb3 := bb2.trans (b3.mono bb2.size); clear h3' z0 z1 z2 z3))
        go_ret
        exact ⟨ret_bool (by simp [c1, c2]), bb3⟩
      · have f2 : ¬ (y : Int) ≤ 12 := by omega
        go_enter Tryz.func143, Tryz.ntmps143
        go_wp2_with (first
          | (go_at_call 167; refine h1.mono ?_; rintro e w1 ⟨rfl, b1⟩; have bb1 := hb0.trans (b1.mono hb0.size); obtain ⟨y0, y1, y2, y3⟩ := hA.keepB b1 (by simp); have h2' := h2 w1 bb1; clear h1 h2)
          | (go_at_call 168; refine h2'.mono ?_; rintro e w2 ⟨rfl, b2⟩; have bb2 := bb1.trans (b2.mono bb1.size); clear h2'))
        go_ret
        exact ⟨ret_bool (by simp [c1, c2]), bb2⟩
    · have f1 : ¬ (x : Int) ≤ 40 := by omega
      go_enter Tryz.func143, Tryz.ntmps143
      go_wp2_with (first
        | (go_at_call 167; refine h1.mono ?_; rintro e w1 ⟨rfl, b1⟩; have bb1 := hb0.trans (b1.mono hb0.size); clear h1))
      go_ret
      exact ⟨ret_bool (by simp [c1]), bb1⟩
end Go.Proofs.YtccmmkhcacglhaaGreatDoor
