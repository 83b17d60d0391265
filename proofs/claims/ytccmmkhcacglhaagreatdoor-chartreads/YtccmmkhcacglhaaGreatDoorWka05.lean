import Derived.Test.YtccmmkhcacglhaaGreatDoorWka04
import Derived.Test.YtccmmkhcacglhaaGreatDoorWkc10

/- What the document's number and expr do. -/
namespace Go.Proofs.YtccmmkhcacglhaaGreatDoor
open Go.RowKit Go.Lib
set_option linter.unusedSimpArgs false
set_option linter.unusedVariables false
attribute [local go_sem ↓] Go.wp_at_zero Go.wp_at_succ

set_option maxRecDepth 100000 in
set_option maxHeartbeats 4000000 in
theorem dnum_any {w : World} {X : Nat} {fin : Pl} {r : RsC} (h : DR w X fin r) :
    Calls Tryz.prog 33 #[.pointer (some ⟨X, 0, none⟩)] w fun e w' => e = .returned (.int .i64 (numR fin r).1) ∧ DR w' X fin (numR fin r).2 ∧ Fx X w w' := by
  obtain ⟨a, cap, h⟩ := h
  have hX := h.lt
  obtain ⟨c0, f0⟩ := h.b 0 _ rfl
  obtain ⟨c5, f5⟩ := h.b 5 _ rfl
  have hH := fun w1 (hd : Dr w1 X fin r a cap) => here_any hd
  have hFa := fun w1 (hd : Dr w1 X fin r a cap) => dfail_any hd 12 (hereR fin r)
  obtain ⟨RES, hRES⟩ : ∃ x, numR fin r = x := ⟨_, rfl⟩
  rw [hRES]
  unfold numR at hRES
  obtain ⟨b, hb⟩ : ∃ b, r.2.2 = b := ⟨_, rfl⟩
  rw [hb] at c5
  have hcap := h.c
  by_cases hz : b = 0
  · subst hz
    cases hr : r.1 with
    | nil =>
      rw [hr] at c0 hRES
      simp only [List.length_nil] at c0
      have HR : Hid ((0, failC 12 (hereR fin r) r) = RES) := hRES
      clear hRES hr hcap
      go_enter Tryz.func33, Tryz.ntmps33
      go_wp2_with (first
        | (go_at_call 37; refine (hH _ h).mono ?_; rintro e w2 ⟨rfl, b2⟩; have hd2 := h.on b2)
        | (go_at_call 36; refine (hFa _ hd2).mono ?_; rintro e w3 ⟨⟨u, rfl⟩, hd3, hf3⟩))
      go_ret
      have hv := HR.out
      subst hv
      exact ⟨rfl, ⟨a, cap, hd3⟩, (Fx.of b2 (Nat.le_refl _)).trans hf3⟩
    | cons x l =>
      obtain ⟨g, off, rfl, hg, d0, d1, d2, d3, ho⟩ := h.word hr
      have hsz := ho.l
      rw [hr] at hRES
      simp only at hRES
      rw [hr] at c0
      simp only [List.length_cons] at c0
      have i1 : ((l.length : Int) + 1 == 0) = false := beq_eq_false_iff_ne.2 (by omega)
      have i2 : (0 : Int) < (l.length : Int) + 1 := by omega
      by_cases hk2 : x.1 = 2
      · rw [if_pos ⟨hb, hk2⟩] at hRES
        have hnb : numB (tkW x).2 = true := by
          rcases ho.kind with ⟨k, _⟩ | ⟨_, n⟩ | ⟨k, _⟩
          · omega
          · exact n
          · omega
        have hNm := fun w1 => refNumber_val (txt x.2.1) w1 (by show (byt x.2.1).length ≤ _; omega)
        have e2 : bl (txt x.2.1) = (tkW x).2 := rfl
        rw [e2, hnb] at hNm
        have hl1 : 1 ≤ r.1.length := by rw [hr]; simp
        obtain ⟨a1, hsl, hL1⟩ := slice_fromR h.l hl1 h.c
        have hcut := h.cut hl1 hL1
        simp only [hr, List.drop_one, List.tail_cons, List.length_cons] at hsl hcut
        have hsl' : ∀ W, (Instr.slice 62 (.slice (some ⟨g, off, none⟩) (l.length + 1) cap) (some (.int .i64 1)) none none).run Tryz.prog W = .ok (.slice a1 l.length (cap - 1)) W := hsl
        have HR : Hid ((valB 0 (tkW x).2, (l, r.2)) = RES) := hRES
        have i3 : ((x.1 : Int) != 2) = false := by rw [hk2]; rfl
        obtain ⟨K, seg, ln, co⟩ := x
        simp only at d0 d1 d2 d3 hNm hk2 i3
        obtain ⟨bs, hbs⟩ : ∃ bs, txt seg = bs := ⟨_, rfl⟩
        simp only [hbs] at d1 hNm
        clear hRES hcap ho hr e2 hbs hsz hsl hL1 hl1 hH hFa hnb h hk2
        go_enter Tryz.func33, Tryz.ntmps33
        go_wp2_with (first
          | (go_at_call 78; refine (hNm _).mono ?_; rintro e w1 ⟨⟨xn, rfl, hxn⟩, rfl⟩))
        go_ret
        have hv := HR.out
        have hx2 := hxn.out trivial
        subst hv
        subst hx2
        exact ⟨rfl, ⟨_, _, hcut⟩, (Fx.refl X w).setX _⟩
      · rw [if_neg (fun e => hk2 e.2)] at hRES
        have HR : Hid ((0, failC 12 (hereR fin r) r) = RES) := hRES
        have i3 : ((x.1 : Int) != 2) = true := by simp; omega
        obtain ⟨K, seg, ln, co⟩ := x
        simp only at d0 d1 d2 d3 hk2 i3
        clear hRES hcap ho hr hsz hk2
        go_enter Tryz.func33, Tryz.ntmps33
        go_wp2_with (first
          | (go_at_call 37; refine (hH _ h).mono ?_; rintro e w2 ⟨rfl, b2⟩; have hd2 := h.on b2)
          | (go_at_call 36; refine (hFa _ hd2).mono ?_; rintro e w3 ⟨⟨u, rfl⟩, hd3, hf3⟩))
        go_ret
        have hv := HR.out
        subst hv
        exact ⟨rfl, ⟨_, cap, hd3⟩, (Fx.of b2 (Nat.le_refl _)).trans hf3⟩
  · have hR2 : RES = (0, failC 12 (hereR fin r) r) := by
      rw [← hRES]
      cases hr : r.1 with
      | nil => rfl
      | cons x l => simp only; rw [if_neg (fun e => hz (hb.symm.trans e.1))]
    have HR : Hid ((0, failC 12 (hereR fin r) r) = RES) := hR2.symm
    have i1 : (b != 0) = true := by simpa using hz
    clear hRES hcap hz hR2
    go_enter Tryz.func33, Tryz.ntmps33
    go_wp2_with (first
      | (go_at_call 37; refine (hH _ h).mono ?_; rintro e w2 ⟨rfl, b2⟩; have hd2 := h.on b2)
      | (go_at_call 36; refine (hFa _ hd2).mono ?_; rintro e w3 ⟨⟨u, rfl⟩, hd3, hf3⟩))
    go_ret
    have hv := HR.out
    subst hv
    exact ⟨rfl, ⟨a, cap, hd3⟩, (Fx.of b2 (Nat.le_refl _)).trans hf3⟩
theorem dexpr_res {w4 : World} {R : Nat} {a b c e : Value} {tmps : Array Value} (hB : B4 w4 R a b c e) (ht : tmps.getD 2 undef = .pointer (some ⟨R, 0, none⟩)) : (results Tryz.f120 tmps).run Tryz.prog w4 = .ok (.agg #[a, b, c, e]) w4 := by
  obtain ⟨c0, c1, c2, c3, _, _, _, _⟩ := hB
  have ht' : tmps[2]?.getD undef = .pointer (some ⟨R, 0, none⟩) := by simpa using ht
  simp [results, Tryz.results120, go_sem, ht', c0, c1, c2, c3]
theorem B4.fxD {w w' : World} {X N : Nat} {a b c e : Value} (h : B4 w N a b c e) (hf : Fx X w w') (hN : N ≠ X) : B4 w' N a b c e := by
  have hb : w'.heap[N]? = w.heap[N]? := hf.block N h.lt (fun q => hN (Option.some.inj q))
  exact ⟨keep_cell (p := ⟨N, 0, none⟩) hb h.c0, keep_cell (p := ⟨N, 1, none⟩) hb h.c1, keep_cell (p := ⟨N, 2, none⟩) hb h.c2, keep_cell (p := ⟨N, 3, none⟩) hb h.c3, (frozen_of_block hb).trans h.f0, (frozen_of_block hb).trans h.f1, (frozen_of_block hb).trans h.f2, (frozen_of_block hb).trans h.f3⟩
theorem Dr.put4 {w : World} {X N : Nat} {fin : Pl} {r : RsC} {a : Option Addr} {cap : Nat} (h : Dr w X fin r a cap) (hN : X < N) (c0 c1 c2 c3 : Value) : Dr (Go.Proofs.YtccmmkhcacglhaaGreatDoor.put4 w N c0 c1 c2 c3) X fin r a cap := (((h.far hN c0).far hN c1).far hN c2).far hN c3
theorem Fx.putD {X N : Nat} {a b : World} (h : Fx X a b) (hN : a.heap.size ≤ N) (c0 c1 c2 c3 : Value) : Fx X a (Go.Proofs.YtccmmkhcacglhaaGreatDoor.put4 b N c0 c1 c2 c3) := (((h.setN hN c0).setN hN c1).setN hN c2).setN hN c3
set_option maxRecDepth 100000 in
set_option maxHeartbeats 4000000 in
theorem dexpr_any {w : World} {X : Nat} {fin : Pl} {r : RsC} (h : DR w X fin r) (hT : Ty w X) :
    Calls Tryz.prog 120 #[.pointer (some ⟨X, 0, none⟩)] w fun e w' => (∃ u, e = .returned u ∧ RdX (fun b => w.heap.size ≤ b) w' (exprR fin r).1 u) ∧ DR w' X fin (exprR fin r).2 ∧ Fx X w w' := by
  obtain ⟨a, cap, h⟩ := h
  have hX := h.lt
  have hal := alN w
  have h1 := h.on hal
  have hT1 := hT.on hal
  have hR0 : B4 (w.alloc zN) w.heap.size (.int .i64 0) (.int .i64 0) (.string ⟨#[]⟩) (.slice none 0 0) := B4.new w _ _ _ _ _ _ rfl
  have hF1 : Fx X w (w.alloc zN) := Fx.of hal (Nat.le_refl _)
  have hs1 : (w.alloc zN).heap.size = w.heap.size + 1 := by simp
  obtain ⟨c0, f0⟩ := h1.b 0 _ rfl
  obtain ⟨c5, f5⟩ := h1.b 5 _ rfl
  obtain ⟨RES, hRES⟩ : ∃ x, exprR fin r = x := ⟨_, rfl⟩
  rw [hRES]
  unfold exprR at hRES
  obtain ⟨b, hb⟩ : ∃ b, r.2.2 = b := ⟨_, rfl⟩
  rw [hb] at c5
  by_cases hz : b ≠ 0
  · rw [if_pos (by rw [hb]; exact hz)] at hRES
    have HR : Hid ((noX, r) = RES) := hRES
    have i1 : (b != 0) = true := by simpa using hz
    clear hRES hz hT hal
    go_enter Tryz.func120, Tryz.ntmps120
    go_upto_region 1 with fail
    generalize w.alloc zN = w0 at *
    obtain ⟨y0, y1, y2, y3, z0, z1, z2, z3⟩ := id hR0
    go_wp2
    have hv := HR.out
    subst hv
    exact bodyPost_ret (dexpr_res (hR0.put _ _ _ _) rfl) rfl ⟨⟨_, rfl, rdX_no _ _⟩, ⟨a, cap, h1.put4 hX _ _ _ _⟩, hF1.putD (Nat.le_refl _) _ _ _ _⟩
  · rw [if_neg (by rw [hb]; exact hz)] at hRES
    have hz0 : b = 0 := Decidable.not_not.1 hz
    subst hz0
    have hTk := rTake_rd (w := w.alloc zN) hT1.tabs h1.c h1.m (fun X' hX' i hi => by
      obtain ⟨g, off, q1, q2, q3⟩ := h1.l i hi
      exact ⟨g, off, q1, by have := h1.lt; omega, q3⟩) h1.o h1.n
    have hle := take_le h1.o
    have hkd := take_kinds (l := r.1.map tkW)
    obtain ⟨⟨x, m, f⟩, hTT⟩ : ∃ t, takeC (r.1.map tkW) = t := ⟨_, rfl⟩
    rw [hTT] at hTk hle hkd hRES
    simp only at hTk hle hkd hRES
    obtain ⟨a1, hsl, hL1⟩ := slice_fromR h1.l hle h1.c
    have HL : Hid (RdL (w.alloc zN) X a1 (r.1.drop m)) := hL1
    have HR : Hid ((if f = 0 then (x, (r.1.drop m, r.2)) else if f = 13 then (x, failC 13 (hereR fin r) r) else (x, failC f (hereR fin (r.1.drop m, r.2)) (r.1.drop m, r.2))) = RES) := hRES
    have HLE : Hid (m ≤ r.1.length) := hle
    obtain ⟨n1, hn1⟩ : ∃ n, (r.1.drop m).length = n := ⟨_, rfl⟩
    have HN1 : Hid ((r.1.drop m).length = n1) := hn1
    simp only [hn1] at hsl
    clear hRES hTT hz hT hal hL1 hkd hn1 hle
    go_enter Tryz.func120, Tryz.ntmps120
    go_upto_region 1 with fail
    have HS : Hid (∀ W, (Instr.slice 62 (.slice a r.1.length cap) (some (.int .i64 (m : Int))) none none).run Tryz.prog W = .ok (.slice a1 n1 (cap - m)) W) := hsl
    generalize w.alloc zN = w0 at *
    go_upto_region 4 with (first
      | (go_at_call 151; refine hTk.mono ?_; rintro e w1 ⟨u, rfl, hx1, b1⟩; obtain ⟨xk, xm, xs, xa, xl, xc, rfl⟩ := hx1.form))
    have hal2 := (Below.refl w1.heap.size w1).alloc (Nat.le_refl _) (.cells #[.int .i64 xk, .int .i64 xm, .string xs, .slice xa xl xc] 132)
    have hb2 := b1.trans (hal2.mono b1.size)
    have hd2 := h1.on hb2
    have hR2 := hR0.keep hb2
    have hF2 := hF1.trans (Fx.of hb2 (Nat.le_refl _))
    have hL2 := HL.out.keepB hb2 (Nat.le_of_lt h1.lt)
    have hC2 : B4 (w1.alloc (.cells #[.int .i64 xk, .int .i64 xm, .string xs, .slice xa xl xc] 132)) w1.heap.size (.int .i64 xk) (.int .i64 xm) (.string xs) (.slice xa xl xc) := B4.new _ _ _ _ _ _ _ rfl
    have hx2 : RdX (fun b => w.heap.size < b ∧ b ≠ X) (w1.alloc (.cells #[.int .i64 xk, .int .i64 xm, .string xs, .slice xa xl xc] 132)) x (.agg #[.int .i64 xk, .int .i64 xm, .string xs, .slice xa xl xc]) := hx1.keep (fun b hb hl => ⟨⟨by omega, by omega⟩, hal2.block b hl⟩)
    have hs2 : w.heap.size < w1.heap.size := by have := b1.size; omega
    obtain ⟨N, hN⟩ : ∃ N, w1.heap.size = N := ⟨_, rfl⟩
    rw [hN] at hC2 hs2 ⊢
    clear hx1 b1 hal2 hb2 hTk hR0 hF1 h1 HL hN hs1 hT1 hsl
    generalize w1.alloc (.cells #[.int .i64 xk, .int .i64 xm, .string xs, .slice xa xl xc] 132) = w2 at *
    obtain ⟨e0, g0⟩ := hd2.b 0 _ rfl
    have hcut := hd2.cut HLE.out hL2
    rw [HN1.out] at hcut
    have hsl := HS.out
    clear c0 f0 c5 f5 HS
    by_cases hf0 : f = 0
    · have hv := HR.out
      rw [if_pos hf0] at hv
      have HV : Hid ((x, (r.1.drop m, r.2)) = RES) := hv
      have i1 : (f == 0) = true := by simp [hf0]
      clear HR hv
      go_upto_region 11 with fail
      have hR3 := hR2.far (X := X) (i := 0) (by omega) (.slice a1 n1 (cap - m))
      have hC3 := hC2.far (X := X) (i := 0) (by omega) (.slice a1 n1 (cap - m))
      have hF3 := hF2.setX (i := 0) (.slice a1 n1 (cap - m))
      have hx3 := hx2.keep (ok' := fun b => w.heap.size < b) (w' := w2.setCell ⟨X, 0, none⟩ (.slice a1 n1 (cap - m))) (fun b hb hl => ⟨hb.1, Below.heap_setCell _ _ _ _ (fun e => hb.2 e)⟩)
      clear hR2 hC2 hF2 hx2 hd2 hL2 e0 g0
      generalize w2.setCell ⟨X, 0, none⟩ (.slice a1 n1 (cap - m)) = w3 at *
      obtain ⟨y0, y1, y2, y3, z0, z1, z2, z3⟩ := id hR3
      obtain ⟨k0, k1, k2, k3, _, _, _, _⟩ := id hC3
      go_wp2
      have hvv := HV.out
      subst hvv
      exact bodyPost_ret (dexpr_res (hR3.put _ _ _ _) rfl) rfl ⟨⟨_, rfl, hx3.keep (fun b hb hl => ⟨Nat.le_of_lt hb, heap_put (by omega) _ _ _ _⟩)⟩, ⟨_, _, hcut.put4 hX _ _ _ _⟩, hF3.putD (Nat.le_refl _) _ _ _ _⟩
    · have i1 : (f == 0) = false := by simpa using hf0
      by_cases hf13 : f = 13
      · have hv := HR.out
        rw [if_neg hf0, if_pos hf13] at hv
        have HV : Hid ((x, failC 13 (hereR fin r) r) = RES) := hv
        have i2 : (f == 13) = true := by simp [hf13]
        have hH := fun w1 (hd : Dr w1 X fin r a cap) => here_any hd
        have hFa := fun w1 (hd : Dr w1 X fin r a cap) => dfail_any hd f (hereR fin r)
        have HF : Hid (f = 13) := hf13
        clear HR hv hcut hf13
        go_upto_region 11 with (first
          | (go_at_call 37; refine (hH _ hd2).mono ?_; rintro e w4 ⟨rfl, b4⟩; have hd4 := hd2.on b4)
          | (go_at_call 36; refine (hFa _ hd4).mono ?_; rintro e w5 ⟨⟨u, rfl⟩, hd5, hf5⟩))
        have hF5 := (hF2.trans (Fx.of b4 (Nat.le_refl _))).trans hf5
        have hR5 := (hR2.keep b4).fxD hf5 (by omega)
        have hC5 := (hC2.keep b4).fxD hf5 (by omega)
        have hx5 := (hx2.keep (ok' := fun b => w.heap.size < b ∧ b ≠ X) (w' := w4) (fun b hb hl => ⟨hb, b4.block b hl⟩)).keep (ok' := fun b => w.heap.size < b) (w' := w5) (fun b hb hl => ⟨hb.1, hf5.block b hl (fun e => hb.2 (Option.some.inj e))⟩)
        obtain ⟨y0, y1, y2, y3, z0, z1, z2, z3⟩ := id hR5
        obtain ⟨k0, k1, k2, k3, _, _, _, _⟩ := id hC5
        clear hR2 hC2 hF2 hx2 hd2 hd4 hL2 e0 g0 b4 hf5
        go_wp2
        have hvv := HV.out
        have hff := HF.out
        subst hvv
        subst hff
        exact bodyPost_ret (dexpr_res (hR5.put _ _ _ _) rfl) rfl ⟨⟨_, rfl, hx5.keep (fun b hb hl => ⟨Nat.le_of_lt hb, heap_put (by omega) _ _ _ _⟩)⟩, ⟨_, _, hd5.put4 hX _ _ _ _⟩, hF5.putD (Nat.le_refl _) _ _ _ _⟩
      · have hv := HR.out
        rw [if_neg hf0, if_neg hf13] at hv
        have HV : Hid ((x, failC f (hereR fin (r.1.drop m, r.2)) (r.1.drop m, r.2)) = RES) := hv
        have i2 : (f == 13) = false := by simpa using hf13
        have hH := fun w1 (hd : Dr w1 X fin (r.1.drop m, r.2) a1 (cap - m)) => here_any hd
        have hFa := fun w1 (hd : Dr w1 X fin (r.1.drop m, r.2) a1 (cap - m)) => dfail_any hd f (hereR fin (r.1.drop m, r.2))
        clear HR hv
        go_upto_region 6 with fail
        have hR3 := hR2.far (X := X) (i := 0) (by omega) (.slice a1 n1 (cap - m))
        have hC3 := hC2.far (X := X) (i := 0) (by omega) (.slice a1 n1 (cap - m))
        have hF3 := hF2.setX (i := 0) (.slice a1 n1 (cap - m))
        have hx3 := hx2.keep (ok' := fun b => w.heap.size < b ∧ b ≠ X) (w' := w2.setCell ⟨X, 0, none⟩ (.slice a1 n1 (cap - m))) (fun b hb hl => ⟨hb, Below.heap_setCell _ _ _ _ (fun e => hb.2 e)⟩)
        clear hR2 hC2 hF2 hx2 hd2 hL2 e0 g0
        generalize w2.setCell ⟨X, 0, none⟩ (.slice a1 n1 (cap - m)) = w3 at *
        go_upto_region 11 with (first
          | (go_at_call 37; refine (hH _ hcut).mono ?_; rintro e w4 ⟨rfl, b4⟩; have hd4 := hcut.on b4)
          | (go_at_call 36; refine (hFa _ hd4).mono ?_; rintro e w5 ⟨⟨u, rfl⟩, hd5, hf5⟩))
        have hF5 := (hF3.trans (Fx.of b4 (Nat.le_refl _))).trans hf5
        have hR5 := (hR3.keep b4).fxD hf5 (by omega)
        have hC5 := (hC3.keep b4).fxD hf5 (by omega)
        have hx5 := (hx3.keep (ok' := fun b => w.heap.size < b ∧ b ≠ X) (w' := w4) (fun b hb hl => ⟨hb, b4.block b hl⟩)).keep (ok' := fun b => w.heap.size < b) (w' := w5) (fun b hb hl => ⟨hb.1, hf5.block b hl (fun e => hb.2 (Option.some.inj e))⟩)
        obtain ⟨y0, y1, y2, y3, z0, z1, z2, z3⟩ := id hR5
        obtain ⟨k0, k1, k2, k3, _, _, _, _⟩ := id hC5
        clear hR3 hC3 hF3 hx3 hd4 b4 hf5 hcut
        go_wp2
        have hvv := HV.out
        subst hvv
        exact bodyPost_ret (dexpr_res (hR5.put _ _ _ _) rfl) rfl ⟨⟨_, rfl, hx5.keep (fun b hb hl => ⟨Nat.le_of_lt hb, heap_put (by omega) _ _ _ _⟩)⟩, ⟨_, _, hd5.put4 hX _ _ _ _⟩, hF5.putD (Nat.le_refl _) _ _ _ _⟩
end Go.Proofs.YtccmmkhcacglhaaGreatDoor
