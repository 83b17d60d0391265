
/- What the document's primary does with a word. -/
import Derived.Test.YtiddccohldjjcaaDoorRgC
namespace Go.Proofs.YtiddccohldjjcaaDoor
open Go.RowKit Go.Lib
set_option linter.unusedSimpArgs false
set_option linter.unusedVariables false
attribute [local go_sem ↓] Go.wp_at_zero Go.wp_at_succ

abbrev zW : Obj := .cells #[.int .i64 0, .string ⟨#[]⟩, .int .i64 0, .int .i64 0] 44
theorem prim_res {w4 : World} {R : Nat} {a b c e : Value} {tmps : Array Value} (hB : B4 w4 R a b c e) (ht : tmps.getD 2 undef = .pointer (some ⟨R, 0, none⟩)) : (results Tryd.f42 tmps).run Tryd.prog w4 = .ok (.agg #[a, b, c, e]) w4 := by
  obtain ⟨c0, c1, c2, c3, _, _, _, _⟩ := hB
  have ht' : tmps[2]?.getD undef = .pointer (some ⟨R, 0, none⟩) := by simpa using ht
  simp [results, Tryd.results42, go_sem, ht', c0, c1, c2, c3]
/-- A node of one part, laid and written into the result's block. -/
theorem node_un {X lo lo3 cap : Nat} {w3 : World} {a : Option Addr} {ws : List Wd} {n' : Nat} {b' k : Int} {x : Sx} {c0 c1 c2 c3 p0 p1 p2 p3 : Value} (hx : RdX (fun b => lo3 ≤ b) w3 x (.agg #[c0, c1, c2, c3])) (hlo : lo < lo3) (hlo3 : lo3 ≤ w3.heap.size) (hX : X < lo)
    (hr : Rr w3 X a cap ws n' b') (hB : B4 (w3.alloc (.cells #[c0, c1, c2, c3] 30)) lo p0 p1 p2 p3) :
    RdX (fun b => lo ≤ b) (put4 (w3.alloc (.cells #[c0, c1, c2, c3] 30)) lo (.int .i64 k) (.int .i64 0) (.string ⟨#[]⟩) (.slice (some ⟨w3.heap.size, 0, none⟩) 1 1)) (mk1 k x) (.agg #[.int .i64 k, .int .i64 0, .string ⟨#[]⟩, .slice (some ⟨w3.heap.size, 0, none⟩) 1 1]) ∧
    Rr (put4 (w3.alloc (.cells #[c0, c1, c2, c3] 30)) lo (.int .i64 k) (.int .i64 0) (.string ⟨#[]⟩) (.slice (some ⟨w3.heap.size, 0, none⟩) 1 1)) X a cap ws n' b' := by
  have hal := (Below.refl w3.heap.size w3).alloc (Nat.le_refl _) (.cells #[c0, c1, c2, c3] 30)
  obtain ⟨k0, k1, k2, k3⟩ := (At4.new w3 c0 c1 c2 c3 30).blkR (w' := put4 (w3.alloc (.cells #[c0, c1, c2, c3] 30)) lo (.int .i64 k) (.int .i64 0) (.string ⟨#[]⟩) (.slice (some ⟨w3.heap.size, 0, none⟩) 1 1)) (heap_put (by omega) _ _ _ _)
  refine ⟨rdX_mk1 (hx.keep fun b hb hlt => ⟨by omega, ?_⟩) (by omega) k0 k1 k2 k3, (hr.on hal).far4 hX _ _ _ _⟩
  rw [heap_put (by omega), hal.block b hlt]
set_option maxRecDepth 100000 in
set_option maxHeartbeats 8000000 in
theorem prim_word {ws : List Wd} {f X : Nat} {a : Option Addr} {cap n : Nat} {w : World} (hPC : PrimC ws f) (hBC : BinC ws f) (hk : Wk ws cap) (hfu : 7 * (ws.length - n) < f + 1) (h : Rr w X a cap ws n (-1)) (hn : n < ws.length) :
    Calls Tryd.prog 42 #[.pointer (some ⟨X, 0, none⟩)] w fun e w' => ∃ v, e = .returned v ∧ RdX (fun b => w.heap.size ≤ b) w' (psW ws (f + 1) 6 n).1 v ∧ Rr w' X a cap ws (psW ws (f + 1) 6 n).2.1 (psW ws (f + 1) 6 n).2.2 ∧ Fx X w w' := by
  have hget : (ws.map tkW)[n]? = some ((ws[n]).1, byt (ws[n]).2.1) := by rw [List.getElem?_map, List.getElem?_eq_getElem hn]; rfl
  have hone := hk.o ws[n] (List.getElem_mem hn)
  have hP := fun w1 (hr : Rr w1 X a cap ws (n + 1) (-1)) => hPC X a cap (n + 1) w1 hk (by omega) hr
  have hB := fun w1 (hr : Rr w1 X a cap ws (n + 1) (-1)) => hBC X a cap (n + 1) 1 w1 hk (by omega) (by omega) (by omega) hr
  obtain ⟨R, hR⟩ : ∃ R, psW ws (f + 1) 6 n = R := ⟨_, rfl⟩
  rw [hR]
  have HR : Hid (psW ws (f + 1) 6 n = R) := hR
  have hr0 := h.on (alN w)
  obtain ⟨c0, c1, c2, f1, f2, hL⟩ := id hr0
  obtain ⟨g, rfl, hgX, d0, d1, d2, d3⟩ := hL n hn
  have hd1 : (w.alloc zN).cell? ⟨g, n * 4 + 1, none⟩ = some (.string ⟨(byt (ws[n]).2.1).toArray⟩) := d1
  obtain ⟨seg, hseg⟩ : ∃ seg, (ws[n]).2.1 = seg := ⟨_, rfl⟩
  obtain ⟨K, hK⟩ : ∃ K, (ws[n]).1 = K := ⟨_, rfl⟩
  obtain ⟨ln, hln⟩ : ∃ K, (ws[n]).2.2.1 = K := ⟨_, rfl⟩
  obtain ⟨co, hco⟩ : ∃ K, (ws[n]).2.2.2 = K := ⟨_, rfl⟩
  rw [hK] at d0 hget hone
  rw [hseg] at hd1 hget hone
  rw [hln] at d2
  rw [hco] at d3
  obtain ⟨bs, hbs⟩ : ∃ bs, byt seg = bs := ⟨_, rfl⟩
  have hkind := hone.kind
  have hsz := hone.l
  rw [hbs] at hd1 hget hkind hsz
  have HG : Hid ((ws.map tkW)[n]? = some (K, bs)) := hget
  have i1 : decide ((n : Int) ≥ (ws.length : Int)) = false := decide_eq_false (by omega)
  have i3 : (n : Int) < (ws.length : Int) := by omega
  have i4 : (0 : Int) ≤ (n : Int) := by omega
  have hlen := hk.l
  have i5 : IntKind.i64.wrap ((n : Int) + 1) = (n : Int) + 1 := by rw [IntKind.wrap_i64]; omega
  have hX := h.lt
  clear hL d1 hget hone hseg hbs hK hln hco hR
  go_enter Tryd.func42, Tryd.ntmps42
  go_wp2
  go_quiet (fail)
  have hr1 := hr0.on (draws _ nq)
  have hf1 : Fx X w ((w.alloc zN).drewN nq) := ((Fx.refl X w).alloc _).drewN nq
  have hlt : w.heap.size < ((w.alloc zN).drewN nq).heap.size := by show _ < (w.alloc zN).heap.size; simp
  have hB0 : B4 ((w.alloc zN).drewN nq) w.heap.size (.int .i64 0) (.int .i64 0) (.string ⟨#[]⟩) (.slice none 0 0) := (B4.new w _ _ _ _ _ _ rfl).keep (draws _ nq)
  have hdr : ∀ p, ((w.alloc zN).drewN nq).cell? p = (w.alloc zN).cell? p := fun _ => rfl
  rw [← hdr] at d0 hd1 d2 d3
  clear hdr
  obtain ⟨c0', c1', c2', f1', f2', _⟩ := id hr1
  clear c0 c1 c2 f1 f2 hr0
  generalize (w.alloc zN).drewN nq = w1 at *
  have hbz : Below w1.heap.size w1 (w1.alloc zW) := (Below.refl _ _).alloc (Nat.le_refl _) _
  obtain ⟨u0, u1, u2, _, _, _⟩ := id (hr1.on hbz)
  have hgl : g < w1.heap.size := by have := hr1.lt; omega
  have v0 := (hbz.cell (p := ⟨g, n * 4, none⟩) hgl).trans d0
  have v1 := (hbz.cell (p := ⟨g, n * 4 + 1, none⟩) hgl).trans hd1
  have v2 := (hbz.cell (p := ⟨g, n * 4 + 2, none⟩) hgl).trans d2
  have v3 := (hbz.cell (p := ⟨g, n * 4 + 3, none⟩) hgl).trans d3
  go_wp2
  go_region
  have hbw : Below w1.heap.size w1 (w1.alloc (.cells #[.int .i64 (K : Int), .string ⟨bs.toArray⟩, .int .i64 ln, .int .i64 co] 44)).drew := ((Below.refl _ _).alloc (Nat.le_refl _) _).drew
  have hr2 := hr1.on hbw
  have hf2 := hf1.trans (Fx.of (X := X) hbw (Nat.le_refl _))
  have hB2 := hB0.keep hbw
  have hA2 : At4 (w1.alloc (.cells #[.int .i64 (K : Int), .string ⟨bs.toArray⟩, .int .i64 ln, .int .i64 co] 44)).drew w1.heap.size (.int .i64 (K : Int)) (.string ⟨bs.toArray⟩) (.int .i64 ln) (.int .i64 co) := At4.new w1 _ _ _ _ _
  have hlt2 : w1.heap.size < (w1.alloc (.cells #[.int .i64 (K : Int), .string ⟨bs.toArray⟩, .int .i64 ln, .int .i64 co] 44)).drew.heap.size := World.block_lt_of_cell? _ _ hA2.1
  obtain ⟨N, hN⟩ : ∃ N, w1.heap.size = N := ⟨_, rfl⟩
  generalize (w1.alloc (.cells #[.int .i64 (K : Int), .string ⟨bs.toArray⟩, .int .i64 ln, .int .i64 co] 44)).drew = w2 at *
  rw [hN] at hA2 hlt hlt2 ⊢
  obtain ⟨a0, a1, a2, a3⟩ := id hA2
  obtain ⟨e0, e1, e2, g1, g2, _⟩ := id hr2
  clear v0 v1 v2 v3 u0 u1 u2 hgl hbz c0' c1' c2' f1' f2' d0 hd1 d2 d3 hr1 hf1 hB0 hbw hN i1
  have hS : Rr (w2.setCell ⟨X, 1, none⟩ (.int .i64 ((n : Int) + 1))) X (some ⟨g, 0, none⟩) cap ws (n + 1) (-1) := hr2.set1 (n + 1)
  have hBS := hB2.far (X := X) (i := 1) (by omega) (.int .i64 ((n : Int) + 1))
  have hFS : Fx X w (w2.setCell ⟨X, 1, none⟩ (.int .i64 ((n : Int) + 1))) := hf2.setX _
  have hsS : (w2.setCell ⟨X, 1, none⟩ (.int .i64 ((n : Int) + 1))).heap.size = w2.heap.size := by simp
  have hAS : At4 (w2.setCell ⟨X, 1, none⟩ (.int .i64 ((n : Int) + 1))) N (.int .i64 (K : Int)) (.string ⟨bs.toArray⟩) (.int .i64 ln) (.int .i64 co) := ⟨cell_far4 (by omega) hA2.1, cell_far4 (by omega) hA2.2.1, cell_far4 (by omega) hA2.2.2.1, cell_far4 (by omega) hA2.2.2.2⟩
  obtain ⟨s0, s1, s2, s3⟩ := id hAS
  obtain ⟨m0, m1, m2, m3, l0, l1, l2, l3⟩ := id hBS
  have hF2 := fail_any hr2
  rw [if_pos (show (-1 : Int) < 0 by decide)] at hF2
  by_cases hu : bs = [33] ∨ bs = [45]
  · have hval := HR.out
    rw [show psW ws (f + 1) 6 n = _ from psr6_un HG.out hu] at hval
    have hPP := hP _ hS
    obtain ⟨⟨x, n', b'⟩, hQ⟩ : ∃ r, psW ws f 6 (n + 1) = r := ⟨_, rfl⟩
    simp only at hval
    rw [show psr (valB 0) rsvB (ws.map tkW) f 6 (n + 1) (-1) = (x, n', b') from hQ] at hval
    simp only [hQ] at hPP
    have HV : Hid ((mk1 (if bs = [45] then 4 else 3) x, n', b') = R) := hval
    clear hval hQ HG HR hkind hP hB
    rcases hu with rfl | rfl
    all_goals (
      go_wp2_with (first
        | (go_at_call 42; refine hPP.mono ?_; rintro e w3 ⟨v, rfl, hx3, hr3, hf3⟩; obtain ⟨xk, xm, xs, xa, xl, xc, rfl⟩ := hx3.form; have hB3 := hBS.fx hf3 (by omega); have hal := (Below.refl w3.heap.size w3).alloc (Nat.le_refl _) (.cells #[.int .i64 xk, .int .i64 xm, .string xs, .slice xa xl xc] 30); have hB4 := hB3.keep hal; obtain ⟨q0, q1, q2, q3, t0, t1, t2, t3⟩ := id hB4))
      have hs3 := hf3.size
      have hv := HV.out
      subst hv
      obtain ⟨z1, z2⟩ := node_un (lo := w.heap.size) hx3 (by omega) hs3 hX hr3 hB4
      exact bodyPost_ret (prim_res (hB4.put _ _ _ _) rfl) rfl ⟨_, rfl, z1, z2, ((hFS.trans hf3).alloc _).put4 (Nat.le_refl _) _ _ _ _⟩)
  · have n33 : (bs == [33]) = false := beq_eq_false_iff_ne.2 (fun e => hu (.inl e))
    have n45 : (bs == [45]) = false := beq_eq_false_iff_ne.2 (fun e => hu (.inr e))
    by_cases h40 : bs = [40]
    · have hval := HR.out
      rw [show psW ws (f + 1) 6 n = _ from psr6_par HG.out h40] at hval
      have hBB := hB _ hS
      obtain ⟨⟨x, n', b'⟩, hQ⟩ : ∃ r, psW ws f 1 (n + 1) = r := ⟨_, rfl⟩
      rw [show psr (valB 0) rsvB (ws.map tkW) f 1 (n + 1) (-1) = (x, n', b') from hQ] at hval
      simp only at hval
      simp only [hQ] at hBB
      subst h40
      clear hQ HG HR hkind hP hB hu n33 n45
      have hIs := fun w4 (hr4 : Rr w4 X (some ⟨g, 0, none⟩) cap ws n' b') => is_any hr4 [41] hk.l hk.c
      obtain ⟨tb, htb⟩ : ∃ tb, isT (ws.map tkW) [41] n' b' = tb := ⟨_, rfl⟩
      rw [htb] at hIs
      rw [htb] at hval
      cases tb with
      | true =>
        have hn' : n' < ws.length := by
          unfold isT at htb
          rcases Nat.lt_or_ge n' ws.length with q | q
          · exact q
          · rw [List.getElem?_eq_none (by rw [List.length_map]; omega)] at htb
            simp at htb
        have i6 : IntKind.i64.wrap ((n' : Int) + 1) = (n' : Int) + 1 := by rw [IntKind.wrap_i64]; omega
        rw [if_pos rfl] at hval
        have HV : Hid ((x, n' + 1, b') = R) := hval
        clear hval htb
        go_wp2_with (first
          | (go_at_call 22; refine hBB.mono ?_; rintro e w3 ⟨v, rfl, hx3, hr3, hf3⟩; obtain ⟨xk, xm, xs, xa, xl, xc, rfl⟩ := hx3.form; have hB3 := hBS.fx hf3 (by omega); have hal := (Below.refl w3.heap.size w3).alloc (Nat.le_refl _) (.cells #[.int .i64 xk, .int .i64 xm, .string xs, .slice xa xl xc] 30); have hr4 := hr3.on hal; have hB4 := hB3.keep hal; have hx4 := At4.new w3 (.int .i64 xk) (.int .i64 xm) (.string xs) (.slice xa xl xc) 30)
          | (go_at_call 65; refine (hIs _ hr4).mono ?_; rintro e w5 ⟨rfl, mq, rfl⟩; have hr5 := hr4.on (draws _ mq); have hB5 := hB4.keep (draws _ mq); have hf5 := ((hFS.trans hf3).alloc (.cells #[.int .i64 xk, .int .i64 xm, .string xs, .slice xa xl xc] 30)).drewN mq; have hx5 := hx4.blkR (w' := (w3.alloc (.cells #[.int .i64 xk, .int .i64 xm, .string xs, .slice xa xl xc] 30)).drewN mq) rfl; have hy5 : RdX (fun b => w2.heap.size ≤ b ∧ b < w3.heap.size) ((w3.alloc (.cells #[.int .i64 xk, .int .i64 xm, .string xs, .slice xa xl xc] 30)).drewN mq) x (.agg #[.int .i64 xk, .int .i64 xm, .string xs, .slice xa xl xc]) := hx3.keep (fun b hb hl => ⟨⟨by omega, hl⟩, hal.block b hl⟩); generalize (w3.alloc (.cells #[.int .i64 xk, .int .i64 xm, .string xs, .slice xa xl xc] 30)).drewN mq = w5 at *; have hX3 : X < w3.heap.size := hr3.lt; have hr6 : Rr (w5.setCell ⟨X, 1, none⟩ (.int .i64 ((n' : Int) + 1))) X (some ⟨g, 0, none⟩) cap ws (n' + 1) b' := hr5.set1 (n' + 1); have hB6 := hB5.far (X := X) (i := 1) (by omega) (.int .i64 ((n' : Int) + 1)); have k0 := cell_far4 (X := X) (i := 1) (v := .int .i64 ((n' : Int) + 1)) (by omega) hx5.1; have k1 := cell_far4 (X := X) (i := 1) (v := .int .i64 ((n' : Int) + 1)) (by omega) hx5.2.1; have k2 := cell_far4 (X := X) (i := 1) (v := .int .i64 ((n' : Int) + 1)) (by omega) hx5.2.2.1; have k3 := cell_far4 (X := X) (i := 1) (v := .int .i64 ((n' : Int) + 1)) (by omega) hx5.2.2.2; obtain ⟨y0, y1, y2, y3, y4, _⟩ := id hr5; obtain ⟨q0, q1, q2, q3, t0, t1, t2, t3⟩ := id hB6))
        have hv := HV.out
        subst hv
        refine bodyPost_ret (prim_res (hB6.put _ _ _ _) rfl) rfl ⟨_, rfl, hy5.keep (fun b hb hl => ⟨by omega, ?_⟩), hr6.far4 hX _ _ _ _, (hf5.setX _).put4 (Nat.le_refl _) _ _ _ _⟩
        rw [heap_put (by omega)]
        exact Below.heap_setCell _ _ _ _ (fun e => by have : b = X := e; omega)
      | false =>
        rw [if_neg (by decide)] at hval
        have HV : Hid ((noX, n', if b' < 0 then (n' : Int) else b') = R) := hval
        clear hval htb
        go_wp2_with (first
          | (go_at_call 22; refine hBB.mono ?_; rintro e w3 ⟨v, rfl, hx3, hr3, hf3⟩; obtain ⟨xk, xm, xs, xa, xl, xc, rfl⟩ := hx3.form; have hB3 := hBS.fx hf3 (by omega); have hal := (Below.refl w3.heap.size w3).alloc (Nat.le_refl _) (.cells #[.int .i64 xk, .int .i64 xm, .string xs, .slice xa xl xc] 30); have hr4 := hr3.on hal; have hB4 := hB3.keep hal)
          | (go_at_call 65; refine (hIs _ hr4).mono ?_; rintro e w5 ⟨rfl, mq, rfl⟩; have hr5 := hr4.on (draws _ mq); have hB5 := hB4.keep (draws _ mq); have hf5 := ((hFS.trans hf3).alloc (.cells #[.int .i64 xk, .int .i64 xm, .string xs, .slice xa xl xc] 30)).drewN mq)
          | (go_at_call 64; refine (fail_any hr5).mono ?_; rintro e w6 ⟨rfl, hr6, hf6⟩; have hB6 := hB5.fx hf6 (by omega); obtain ⟨q0, q1, q2, q3, t0, t1, t2, t3⟩ := id hB6))
        have hv := HV.out
        subst hv
        exact bodyPost_ret (prim_res (hB6.put _ _ _ _) rfl) rfl ⟨_, rfl, rdX_no _ _, hr6.far4 hX _ _ _ _, (hf5.trans hf6).put4 (Nat.le_refl _) _ _ _ _⟩
    · have n40 : (bs == [40]) = false := beq_eq_false_iff_ne.2 h40
      have hval := HR.out
      rw [show psW ws (f + 1) 6 n = _ from psr6_leaf HG.out hu h40] at hval
      rcases hkind with ⟨rfl, hkn⟩ | ⟨rfl, hkn⟩ | ⟨rfl, _⟩
      · have hRs := fun w1 => rReserved_any ⟨bs.toArray⟩ w1
        have ebl : bl ⟨bs.toArray⟩ = bs := rfl
        rw [ebl] at hRs
        obtain ⟨rb, hrb⟩ : ∃ rb, rsvB bs = rb := ⟨_, rfl⟩
        have hv2 : leafY (valB 0) rsvB (1, bs) = if rb = false then some (mk0 2 0 ⟨bs.toArray⟩) else none := by
          unfold leafY
          rw [if_neg (by show ¬ 1 = 2; decide), hrb]
          cases rb <;> rfl
        rw [hv2] at hval
        rw [hrb] at hRs
        clear hv2 HG HR hP hB hu h40 hkn ebl hrb
        cases rb with
        | false =>
          rw [if_pos rfl] at hval
          have HV : Hid ((mk0 2 0 ⟨bs.toArray⟩, n + 1, (-1 : Int)) = R) := hval
          clear hval
          go_wp2_with (first
            | (go_at_call 66; refine (hRs _).mono ?_; rintro e w3 ⟨rfl, rfl⟩))
          have hv := HV.out
          subst hv
          exact bodyPost_ret (prim_res (hBS.put _ _ _ _) rfl) rfl ⟨_, rfl, rdX_ref _ _ _, hS.far4 hX _ _ _ _, hFS.put4 (Nat.le_refl _) _ _ _ _⟩
        | true =>
          rw [if_neg (by decide)] at hval
          have HV : Hid ((noX, n, (n : Int)) = R) := hval
          clear hval
          go_wp2_with (first
            | (go_at_call 66; refine (hRs _).mono ?_; rintro e w3 ⟨rfl, rfl⟩)
            | (go_at_call 64; refine hF2.mono ?_; rintro e w3 ⟨rfl, hr3, hf3⟩; have hB3 := hB2.fx hf3 (by omega); obtain ⟨q0, q1, q2, q3, t0, t1, t2, t3⟩ := id hB3))
          have hv := HV.out
          subst hv
          exact bodyPost_ret (prim_res (hB3.put _ _ _ _) rfl) rfl ⟨_, rfl, rdX_no _ _, hr3.far4 hX _ _ _ _, (hf2.trans hf3).put4 (Nat.le_refl _) _ _ _ _⟩
      · have hNm := fun w1 => refNumber_val ⟨bs.toArray⟩ w1 (by show bs.toArray.size ≤ _; simp; omega)
        have hv2 : leafY (valB 0) rsvB (2, bs) = some (mk0 1 (valB 0 bs) ⟨#[]⟩) := by unfold leafY; rw [if_pos rfl]
        rw [hv2] at hval
        have HV : Hid ((mk0 1 (valB 0 bs) ⟨#[]⟩, n + 1, (-1 : Int)) = R) := hval
        have ebl : bl ⟨bs.toArray⟩ = bs := rfl
        rw [ebl, hkn] at hNm
        clear hval hv2 HG HR hP hB hu h40 hkn ebl
        go_wp2_with (first
          | (go_at_call 35; refine (hNm _).mono ?_; rintro e w3 ⟨⟨xn, rfl, hxn⟩, rfl⟩))
        have hv := HV.out
        subst hv
        have hxv := hxn.out trivial
        subst hxv
        exact bodyPost_ret (prim_res (hBS.put _ _ _ _) rfl) rfl ⟨_, rfl, rdX_lit _ _ _, hS.far4 hX _ _ _ _, hFS.put4 (Nat.le_refl _) _ _ _ _⟩
      · have hv2 : leafY (valB 0) rsvB (3, bs) = none := by unfold leafY; rw [if_neg (by show ¬ 3 = 2; decide), if_neg (fun q => by have := q.1; simp at this)]
        rw [hv2] at hval
        have HV : Hid ((noX, n, (n : Int)) = R) := hval
        clear hval hv2 HG HR hP hB hu h40
        go_wp2_with (first
          | (go_at_call 64; refine hF2.mono ?_; rintro e w3 ⟨rfl, hr3, hf3⟩; have hB3 := hB2.fx hf3 (by omega); obtain ⟨q0, q1, q2, q3, t0, t1, t2, t3⟩ := id hB3))
        have hv := HV.out
        subst hv
        exact bodyPost_ret (prim_res (hB3.put _ _ _ _) rfl) rfl ⟨_, rfl, rdX_no _ _, hr3.far4 hX _ _ _ _, (hf2.trans hf3).put4 (Nat.le_refl _) _ _ _ _⟩
end Go.Proofs.YtiddccohldjjcaaDoor
