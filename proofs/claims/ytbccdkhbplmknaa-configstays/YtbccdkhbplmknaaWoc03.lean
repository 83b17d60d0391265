import Derived.Test.YtbccdkhbplmknaaWoc02

/- What the program's placed answers. -/
namespace Go.Proofs.Ytbccdkhbplmknaa
open Go.RowKit Go.Lib
set_option linter.unusedSimpArgs false
set_option linter.unusedVariables false
attribute [local go_sem ↓] Go.wp_at_zero Go.wp_at_succ

def pc0 (w : World) (X k : Nat) : Int := match w.cell? ⟨X, k, none⟩ with | some (.int _ n) => n | _ => 0
theorem pc0_of {w : World} {X k : Nat} {n : Int} (h : w.cell? ⟨X, k, none⟩ = some (.int .i64 n)) : pc0 w X k = n := by unfold pc0; rw [h]
theorem lf_same (j i : Nat) : decide (j = i + 1) = ((j : Int) == (i : Int) + 1) := by
  rw [Bool.eq_iff_iff, decide_eq_true_eq, beq_iff_eq]
  constructor
  · intro h; rw [h]; rfl
  · intro h; omega
theorem placed_res {w4 : World} {R : Nat} {a b c d e f g : Value} {tmps : Array Value} (hR : Bn w4 R [a, b, c, d, e, f, g]) (ht : tmps.getD 4 undef = .pointer (some ⟨R, 0, none⟩)) : (results Try.f32 tmps).run Try.prog w4 = .ok (.agg #[a, b, c, d, e, f, g]) w4 := by
  have ht' : tmps[4]?.getD undef = .pointer (some ⟨R, 0, none⟩) := by simpa using ht
  have c0 := (hR 0 _ rfl).1
  have c1 := (hR 1 _ rfl).1
  have c2 := (hR 2 _ rfl).1
  have c3 := (hR 3 _ rfl).1
  have c4 := (hR 4 _ rfl).1
  have c5 := (hR 5 _ rfl).1
  have c6 := (hR 6 _ rfl).1
  simp [results, Try.results32, go_sem, ht', c0, c1, c2, c3, c4, c5, c6]
set_option maxRecDepth 100000 in
set_option maxHeartbeats 8000000 in
theorem placed_any {ok : Nat → Prop} {w : World} {l : List Nd} {v : Value} {i : Nat} (h : RdNd ok w l v) (h40 : l.length ≤ 40) (hi : i < l.length) :
    Calls Try.prog 32 #[v, .int .i64 (i : Int)] w fun e w' => e = .returned (.agg (ndV (plN l i)).toArray) ∧ Below w.heap.size w w' := by
  obtain ⟨a, cap, rfl, hlc, hcm⟩ := h.form
  unfold maxLen at hcm
  obtain ⟨b, off, rfl, hbl, c0, c1, c2, c3, c4, c5, c6⟩ := nd_at h i hi
  have HC := hidOf h
  obtain ⟨D, hD⟩ : ∃ D, nD l = D := ⟨_, rfl⟩
  obtain ⟨n, hn⟩ : ∃ n, l.length = n := ⟨_, rfl⟩
  obtain ⟨d, hd⟩ : ∃ d, D i = d := ⟨_, rfl⟩
  obtain ⟨pp, hpp⟩ : ∃ p, ppar D d i = p := ⟨_, rfl⟩
  obtain ⟨bb, hbb⟩ : ∃ p, pbeh D d (n - (i + 1)) (i + 1) = p := ⟨_, rfl⟩
  have hpl : ndV (plN l i) = [.string (nAt l i).1, .int .i64 pp, .int .i64 d, .int .i64 (bb : Int), .bool (nAt l i).2.2.1, .bool (nAt l i).2.2.2.1, .bool (decide (bb = i + 1))] := by
    unfold plN ndV
    simp only [hD, hn, hd, hpp, hbb]
  have hbl2 := pbeh_le D d (n - (i + 1)) (i + 1)
  have hplt := ppar_lt D d i
  rw [hbb] at hbl2
  rw [hpp] at hplt
  rw [hpl]
  rw [hn] at hlc h40 hi ⊢
  rw [hD] at c2
  rw [hd] at c2
  have HN : Hid (l.length = n) := hn
  have HD : Hid (nD l = D) := hD
  have HPP : Hid (ppar D d i = pp) := hpp
  have HBB : Hid (pbeh D d (n - (i + 1)) (i + 1) = bb) := hbb
  have HDI : Hid (D i = d) := hd
  generalize (nAt l i).1 = x0 at *
  generalize nP l i = x1 at c1
  generalize nB l i = x3 at c3
  generalize (nAt l i).2.2.1 = x4 at *
  generalize (nAt l i).2.2.2.1 = x5 at *
  generalize nL l i = x6 at c6
  clear hpl h hD hn hd hpp hbb
  have HCE : Hid (∀ (w1 : World) (j : Nat), Below w.heap.size w w1 → j < n → w1.cell? ⟨b, off + j * 7 + 2, none⟩ = some (.int .i64 (D j))) := fun w1 j b1 hj => by
    obtain ⟨b', off', he, hbl', _, _, k2, _⟩ := nd_at HC.out j (by rw [HN.out]; exact hj)
    simp only [Option.some.injEq, Addr.mk.injEq, and_true] at he
    obtain ⟨rfl, rfl⟩ := he
    rw [HD.out] at k2
    exact (b1.cell (p := ⟨b, off + j * 7 + 2, none⟩) hbl').trans k2
  have i1 : (i : Int) < (n : Int) := by omega
  have i2 : (0 : Int) ≤ (i : Int) := by omega
  go_enter Try.func32, Try.ntmps32
  go_upto_region 2 with fail
  have hb0 := ((Below.refl w.heap.size w).alloc (Nat.le_refl _) (.cells #[.string ⟨#[]⟩, .int .i64 0, .int .i64 0, .int .i64 0, .bool false, .bool false, .bool false] 72)).alloc (by simp) (.cells #[.string x0, .int .i64 x1, .int .i64 d, .int .i64 x3, .bool x4, .bool x5, .bool x6] 72)
  have hR0 : Bn ((w.alloc (.cells #[.string ⟨#[]⟩, .int .i64 0, .int .i64 0, .int .i64 0, .bool false, .bool false, .bool false] 72)).alloc (.cells #[.string x0, .int .i64 x1, .int .i64 d, .int .i64 x3, .bool x4, .bool x5, .bool x6] 72)) w.heap.size [.string ⟨#[]⟩, .int .i64 0, .int .i64 0, .int .i64 0, .bool false, .bool false, .bool false] := (Bn.new w [.string ⟨#[]⟩, .int .i64 0, .int .i64 0, .int .i64 0, .bool false, .bool false, .bool false] 72 _ rfl).on ((Below.refl _ _).alloc (Nat.le_refl _) _)
  have hY0 : Bn ((w.alloc (.cells #[.string ⟨#[]⟩, .int .i64 0, .int .i64 0, .int .i64 0, .bool false, .bool false, .bool false] 72)).alloc (.cells #[.string x0, .int .i64 x1, .int .i64 d, .int .i64 x3, .bool x4, .bool x5, .bool x6] 72)) (w.heap.size + 1) [.string x0, .int .i64 x1, .int .i64 d, .int .i64 x3, .bool x4, .bool x5, .bool x6] := Bn.new (w.alloc (.cells #[.string ⟨#[]⟩, .int .i64 0, .int .i64 0, .int .i64 0, .bool false, .bool false, .bool false] 72)) [.string x0, .int .i64 x1, .int .i64 d, .int .i64 x3, .bool x4, .bool x5, .bool x6] 72 _ (by simp)
  generalize ((w.alloc (.cells #[.string ⟨#[]⟩, .int .i64 0, .int .i64 0, .int .i64 0, .bool false, .bool false, .bool false] 72)).alloc (.cells #[.string x0, .int .i64 x1, .int .i64 d, .int .i64 x3, .bool x4, .bool x5, .bool x6] 72)) = w0 at *
  have hY1 := hY0.set (i := 1) (by simp) (.int .i64 ((i : Int) - 1))
  have hR1 := hR0.far (X := w.heap.size + 1) (i := 1) (by omega) (.int .i64 ((i : Int) - 1))
  have hb1 := hb0.setCell (p := ⟨w.heap.size + 1, 1, none⟩) (by simp) (.int .i64 ((i : Int) - 1))
  simp only [List.set_cons_succ, List.set_cons_zero] at hY1
  obtain ⟨g1, f1⟩ := hY0 1 _ rfl
  have hi1 : (0 : Int) ≤ (i : Int) - 1 + 1 := by omega
  clear c0 c1 c2 c3 c4 c5 c6
  go_wp2
  clear g1 f1 hb0 hR0 hY0
  go_loopw [] (fun wr => ∃ k : Nat, k ≤ i ∧ Hid (ppar D d k = pp) ∧ Bn wr (w.heap.size + 1) [.string x0, .int .i64 ((k : Int) - 1), .int .i64 d, .int .i64 x3, .bool x4, .bool x5, .bool x6] ∧ Bn wr w.heap.size [.string ⟨#[]⟩, .int .i64 0, .int .i64 0, .int .i64 0, .bool false, .bool false, .bool false] ∧ Below w.heap.size w wr) (fun wr => (pc0 wr (w.heap.size + 1) 1 + 1).toNat)
  case atStart => exact ⟨i, Nat.le_refl _, HPP, hY1, hR1, hb1⟩
  case round =>
    clear hY1 hR1 hb1
    obtain ⟨k, hk, HK, hY, hR, hb⟩ := hrel
    have hx : (k = 0) ∨ (∃ k', k = k' + 1 ∧ D k' < d) ∨ (∃ k', k = k' + 1 ∧ d ≤ D k') := by
      cases k with
      | zero => exact .inl rfl
      | succ k' =>
        rcases Int.lt_or_le (D k') d with h | h
        · exact .inr (.inl ⟨k', rfl, h⟩)
        · exact .inr (.inr ⟨k', rfl, h⟩)
    rcases hx with rfl | ⟨k', rfl, hlt⟩ | ⟨k', rfl, hge⟩
    · have HP : Hid ((-1 : Int) = pp) := HK
      have hw : ((0 : Nat) : Int) - 1 = (-1 : Int) := by omega
      rw [hw] at hY
      clear HK
      obtain ⟨p, hp⟩ : ∃ p : Int, -1 = p := ⟨_, rfl⟩
      rw [hp] at hY HP
      have i5 : ¬ (0 : Int) ≤ p := by omega
      clear hw hp hk
      obtain ⟨g1, f1⟩ := hY 1 _ rfl
      go_upto_region 3 with fail
      go_quiet (fail)
      have hY : Bn (wr.drewN nq) (w.heap.size + 1) _ := hY
      have hR : Bn (wr.drewN nq) w.heap.size _ := hR
      have hb : Below w.heap.size w (wr.drewN nq) := hb.trans ⟨rfl, rfl, rfl, Nat.le_refl _, fun _ _ => rfl⟩
      clear g1 f1 i5
      generalize wr.drewN nq = wq at *
      obtain ⟨g3, f3⟩ := hY 3 _ rfl
      have hY2 := hY.set (i := 3) (by simp) (.int .i64 ((i : Int) + 1))
      have hR2 := hR.far (X := w.heap.size + 1) (i := 3) (by omega) (.int .i64 ((i : Int) + 1))
      have hb2 := hb.setCell (p := ⟨w.heap.size + 1, 3, none⟩) (by simp) (.int .i64 ((i : Int) + 1))
      simp only [List.set_cons_succ, List.set_cons_zero] at hY2
      go_wp2
      clear g3 f3 hY hR hb
      have ei : ((i + 1 : Nat) : Int) = (i : Int) + 1 := by omega
      go_loopw [] (fun wr => ∃ j : Nat, i + 1 ≤ j ∧ j ≤ n ∧ Hid (pbeh D d (n - j) j = bb) ∧ Bn wr (w.heap.size + 1) [.string x0, .int .i64 p, .int .i64 d, .int .i64 (j : Int), .bool x4, .bool x5, .bool x6] ∧ Bn wr w.heap.size [.string ⟨#[]⟩, .int .i64 0, .int .i64 0, .int .i64 0, .bool false, .bool false, .bool false] ∧ Below w.heap.size w wr) (fun wr => ((n : Int) - pc0 wr (w.heap.size + 1) 3).toNat)
      case atStart => exact ⟨i + 1, Nat.le_refl _, by omega, HBB, by rw [ei]; exact hY2, hR2, hb2⟩
      case round =>
        clear hY2 hR2 hb2 ei
        obtain ⟨j, hj1, hj2, HJ, hY, hR, hb⟩ := hrel
        have hx : (j = n) ∨ (j < n ∧ D j ≤ d) ∨ (j < n ∧ d < D j) := by omega
        rcases hx with hjn | ⟨hjn, hd⟩ | ⟨hjn, hd⟩
        · replace HJ : Hid (j = bb) := by
            have := HJ.out
            rw [hjn, Nat.sub_self] at this
            rw [hjn]; exact this
          have i3 : ¬ (j : Int) < (n : Int) := by omega
          clear hjn
          obtain ⟨g3, f3⟩ := hY 3 _ rfl
          go_upto_region 6 with fail
          go_quiet (fail)
          have hY : Bn (wr.drewN nq) (w.heap.size + 1) _ := hY
          have hR : Bn (wr.drewN nq) w.heap.size _ := hR
          have hb : Below w.heap.size w (wr.drewN nq) := hb.trans ⟨rfl, rfl, rfl, Nat.le_refl _, fun _ _ => rfl⟩
          clear g3 f3
          generalize wr.drewN nq = wq at *
          obtain ⟨g0, f0⟩ := hY 0 _ rfl
          obtain ⟨g1, f1⟩ := hY 1 _ rfl
          obtain ⟨g2, f2⟩ := hY 2 _ rfl
          obtain ⟨g3, f3⟩ := hY 3 _ rfl
          obtain ⟨g4, f4⟩ := hY 4 _ rfl
          obtain ⟨g5, f5⟩ := hY 5 _ rfl
          obtain ⟨g6, f6⟩ := hY 6 _ rfl
          obtain ⟨L, hL⟩ : ∃ L, ((j : Int) == (i : Int) + 1) = L := ⟨_, rfl⟩
          have HL : Hid (decide (bb = i + 1) = L) := by
            rw [← hL, ← HJ.out]
            exact lf_same j i
          go_upto_region 9 with fail
          have hY3 := hY.set (i := 6) (by simp) (.bool L)
          have hR3 := hR.far (X := w.heap.size + 1) (i := 6) (by omega) (.bool L)
          have hb3 := hb.setCell (p := ⟨w.heap.size + 1, 6, none⟩) (by simp) (.bool L)
          simp only [List.set_cons_succ, List.set_cons_zero] at hY3
          clear g0 f0 g1 f1 g2 f2 g3 f3 g4 f4 g5 f5 g6 f6 hY hR hb hL
          generalize wq.setCell ⟨w.heap.size + 1, 6, none⟩ (.bool L) = wz at *
          obtain ⟨g0, f0⟩ := hY3 0 _ rfl
          obtain ⟨g1, f1⟩ := hY3 1 _ rfl
          obtain ⟨g2, f2⟩ := hY3 2 _ rfl
          obtain ⟨g3, f3⟩ := hY3 3 _ rfl
          obtain ⟨g4, f4⟩ := hY3 4 _ rfl
          obtain ⟨g5, f5⟩ := hY3 5 _ rfl
          obtain ⟨g6, f6⟩ := hY3 6 _ rfl
          obtain ⟨r0, q0⟩ := hR3 0 _ rfl
          obtain ⟨r1, q1⟩ := hR3 1 _ rfl
          obtain ⟨r2, q2⟩ := hR3 2 _ rfl
          obtain ⟨r3, q3⟩ := hR3 3 _ rfl
          obtain ⟨r4, q4⟩ := hR3 4 _ rfl
          obtain ⟨r5, q5⟩ := hR3 5 _ rfl
          obtain ⟨r6, q6⟩ := hR3 6 _ rfl
          have hR2 := ((((((hR3.set (i := 0) (by simp) (.string x0)).set (i := 1) (by simp) (.int .i64 p)).set (i := 2) (by simp) (.int .i64 d)).set (i := 3) (by simp) (.int .i64 (j : Int))).set (i := 4) (by simp) (.bool x4)).set (i := 5) (by simp) (.bool x5)).set (i := 6) (by simp) (.bool L)
          have hb2 := putL_below [.string x0, .int .i64 p, .int .i64 d, .int .i64 (j : Int), .bool x4, .bool x5, .bool L] wz w.heap.size 0 hb3 (Nat.le_refl _)
          go_wp2
          exact bodyPost_ret (placed_res hR2 rfl) rfl ⟨by rw [HL.out, ← HJ.out, ← HP.out], hb2⟩

        · have e := HCE.out wr j hb hjn
          replace HJ : Hid (j = bb) := by
            have := HJ.out
            have h1 : n - j = (n - j - 1) + 1 := by omega
            rw [h1, pbeh, if_neg (by omega)] at this
            exact this
          have i3 : (j : Int) < (n : Int) := by omega
          have i4 : (0 : Int) ≤ (j : Int) := by omega
          obtain ⟨g3, f3⟩ := hY 3 _ rfl
          obtain ⟨g2, _⟩ := hY 2 _ rfl
          obtain ⟨q, hq⟩ : ∃ q, D j = q := ⟨_, rfl⟩
          rw [hq] at e hd
          have i5 : ¬ d < q := by omega
          clear hq
          go_upto_region 6 with fail
          go_quiet (fail)
          have hY : Bn (wr.drewN nq) (w.heap.size + 1) _ := hY
          have hR : Bn (wr.drewN nq) w.heap.size _ := hR
          have hb : Below w.heap.size w (wr.drewN nq) := hb.trans ⟨rfl, rfl, rfl, Nat.le_refl _, fun _ _ => rfl⟩
          clear g3 f3 e g2
          generalize wr.drewN nq = wq at *
          obtain ⟨g0, f0⟩ := hY 0 _ rfl
          obtain ⟨g1, f1⟩ := hY 1 _ rfl
          obtain ⟨g2, f2⟩ := hY 2 _ rfl
          obtain ⟨g3, f3⟩ := hY 3 _ rfl
          obtain ⟨g4, f4⟩ := hY 4 _ rfl
          obtain ⟨g5, f5⟩ := hY 5 _ rfl
          obtain ⟨g6, f6⟩ := hY 6 _ rfl
          obtain ⟨L, hL⟩ : ∃ L, ((j : Int) == (i : Int) + 1) = L := ⟨_, rfl⟩
          have HL : Hid (decide (bb = i + 1) = L) := by
            rw [← hL, ← HJ.out]
            exact lf_same j i
          go_upto_region 9 with fail
          have hY3 := hY.set (i := 6) (by simp) (.bool L)
          have hR3 := hR.far (X := w.heap.size + 1) (i := 6) (by omega) (.bool L)
          have hb3 := hb.setCell (p := ⟨w.heap.size + 1, 6, none⟩) (by simp) (.bool L)
          simp only [List.set_cons_succ, List.set_cons_zero] at hY3
          clear g0 f0 g1 f1 g2 f2 g3 f3 g4 f4 g5 f5 g6 f6 hY hR hb hL
          generalize wq.setCell ⟨w.heap.size + 1, 6, none⟩ (.bool L) = wz at *
          obtain ⟨g0, f0⟩ := hY3 0 _ rfl
          obtain ⟨g1, f1⟩ := hY3 1 _ rfl
          obtain ⟨g2, f2⟩ := hY3 2 _ rfl
          obtain ⟨g3, f3⟩ := hY3 3 _ rfl
          obtain ⟨g4, f4⟩ := hY3 4 _ rfl
          obtain ⟨g5, f5⟩ := hY3 5 _ rfl
          obtain ⟨g6, f6⟩ := hY3 6 _ rfl
          obtain ⟨r0, q0⟩ := hR3 0 _ rfl
          obtain ⟨r1, q1⟩ := hR3 1 _ rfl
          obtain ⟨r2, q2⟩ := hR3 2 _ rfl
          obtain ⟨r3, q3⟩ := hR3 3 _ rfl
          obtain ⟨r4, q4⟩ := hR3 4 _ rfl
          obtain ⟨r5, q5⟩ := hR3 5 _ rfl
          obtain ⟨r6, q6⟩ := hR3 6 _ rfl
          have hR2 := ((((((hR3.set (i := 0) (by simp) (.string x0)).set (i := 1) (by simp) (.int .i64 p)).set (i := 2) (by simp) (.int .i64 d)).set (i := 3) (by simp) (.int .i64 (j : Int))).set (i := 4) (by simp) (.bool x4)).set (i := 5) (by simp) (.bool x5)).set (i := 6) (by simp) (.bool L)
          have hb2 := putL_below [.string x0, .int .i64 p, .int .i64 d, .int .i64 (j : Int), .bool x4, .bool x5, .bool L] wz w.heap.size 0 hb3 (Nat.le_refl _)
          go_wp2
          exact bodyPost_ret (placed_res hR2 rfl) rfl ⟨by rw [HL.out, ← HJ.out, ← HP.out], hb2⟩

        · have e := HCE.out wr j hb hjn
          replace HJ : Hid (pbeh D d (n - (j + 1)) (j + 1) = bb) := by
            have := HJ.out
            have h1 : n - j = (n - (j + 1)) + 1 := by omega
            rw [h1, pbeh, if_pos hd] at this
            exact this
          have i3 : (j : Int) < (n : Int) := by omega
          have i4 : (0 : Int) ≤ (j : Int) := by omega
          obtain ⟨g3, f3⟩ := hY 3 _ rfl
          obtain ⟨g2, _⟩ := hY 2 _ rfl
          obtain ⟨q, hq⟩ : ∃ q, D j = q := ⟨_, rfl⟩
          rw [hq] at e hd
          have hm := pc0_of g3
          clear hq
          go_upto_region 6 with fail
          go_quiet (fail)
          have hY : Bn (wr.drewN nq) (w.heap.size + 1) _ := hY
          have hR : Bn (wr.drewN nq) w.heap.size _ := hR
          have hb : Below w.heap.size w (wr.drewN nq) := hb.trans ⟨rfl, rfl, rfl, Nat.le_refl _, fun _ _ => rfl⟩
          have g3 : (wr.drewN nq).cell? ⟨w.heap.size + 1, 3, none⟩ = some (.int .i64 (j : Int)) := g3
          have f3 : (wr.drewN nq).frozen? ⟨w.heap.size + 1, 3, none⟩ = false := f3
          clear e g2
          generalize wr.drewN nq = wq at *
          have hY2 := hY.set (i := 3) (by simp) (.int .i64 ((j : Int) + 1))
          have hR2 := hR.far (X := w.heap.size + 1) (i := 3) (by omega) (.int .i64 ((j : Int) + 1))
          have hb2 := hb.setCell (p := ⟨w.heap.size + 1, 3, none⟩) (by simp) (.int .i64 ((j : Int) + 1))
          simp only [List.set_cons_succ, List.set_cons_zero] at hY2
          have hm2 := pc0_of (hY2 3 _ rfl).1
          have ej : ((j + 1 : Nat) : Int) = (j : Int) + 1 := by omega
          have HEJ : Hid (((j + 1 : Nat) : Int) = (j : Int) + 1) := ej
          clear ej
          go_wp2
          go_roundw
          case rel => exact ⟨j + 1, by omega, hjn, HJ, by rw [HEJ.out]; exact hY2, hR2, hb2⟩
          case measure => rw [hm, hm2]; omega

    · have hw : ((k' + 1 : Nat) : Int) - 1 = (k' : Int) := by omega
      rw [hw] at hY
      have e := HCE.out wr k' hb (by omega)
      have HP : Hid ((k' : Int) = pp) := by rw [← HK.out]; show _ = ppar D d (k' + 1); unfold ppar; rw [if_pos hlt]
      clear HK
      obtain ⟨g1, f1⟩ := hY 1 _ rfl
      obtain ⟨g2, _⟩ := hY 2 _ rfl
      have i3 : (k' : Int) < (n : Int) := by omega
      have i4 : (0 : Int) ≤ (k' : Int) := by omega
      obtain ⟨q, hq⟩ : ∃ q, D k' = q := ⟨_, rfl⟩
      have i5 : ¬ d ≤ q := by omega
      rw [hq] at e
      clear hq hlt hw
      go_upto_region 3 with fail
      go_quiet (fail)
      have hY : Bn (wr.drewN nq) (w.heap.size + 1) _ := hY
      have hR : Bn (wr.drewN nq) w.heap.size _ := hR
      have hb : Below w.heap.size w (wr.drewN nq) := hb.trans ⟨rfl, rfl, rfl, Nat.le_refl _, fun _ _ => rfl⟩
      clear e g1 f1 g2 i3 i4 i5 hk
      generalize wr.drewN nq = wq at *
      generalize (k' : Int) = p at *
      obtain ⟨g3, f3⟩ := hY 3 _ rfl
      have hY2 := hY.set (i := 3) (by simp) (.int .i64 ((i : Int) + 1))
      have hR2 := hR.far (X := w.heap.size + 1) (i := 3) (by omega) (.int .i64 ((i : Int) + 1))
      have hb2 := hb.setCell (p := ⟨w.heap.size + 1, 3, none⟩) (by simp) (.int .i64 ((i : Int) + 1))
      simp only [List.set_cons_succ, List.set_cons_zero] at hY2
      go_wp2
      clear g3 f3 hY hR hb
      have ei : ((i + 1 : Nat) : Int) = (i : Int) + 1 := by omega
      go_loopw [] (fun wr => ∃ j : Nat, i + 1 ≤ j ∧ j ≤ n ∧ Hid (pbeh D d (n - j) j = bb) ∧ Bn wr (w.heap.size + 1) [.string x0, .int .i64 p, .int .i64 d, .int .i64 (j : Int), .bool x4, .bool x5, .bool x6] ∧ Bn wr w.heap.size [.string ⟨#[]⟩, .int .i64 0, .int .i64 0, .int .i64 0, .bool false, .bool false, .bool false] ∧ Below w.heap.size w wr) (fun wr => ((n : Int) - pc0 wr (w.heap.size + 1) 3).toNat)
      case atStart => exact ⟨i + 1, Nat.le_refl _, by omega, HBB, by rw [ei]; exact hY2, hR2, hb2⟩
      case round =>
        clear hY2 hR2 hb2 ei
        obtain ⟨j, hj1, hj2, HJ, hY, hR, hb⟩ := hrel
        have hx : (j = n) ∨ (j < n ∧ D j ≤ d) ∨ (j < n ∧ d < D j) := by omega
        rcases hx with hjn | ⟨hjn, hd⟩ | ⟨hjn, hd⟩
        · replace HJ : Hid (j = bb) := by
            have := HJ.out
            rw [hjn, Nat.sub_self] at this
            rw [hjn]; exact this
          have i3 : ¬ (j : Int) < (n : Int) := by omega
          clear hjn
          obtain ⟨g3, f3⟩ := hY 3 _ rfl
          go_upto_region 6 with fail
          go_quiet (fail)
          have hY : Bn (wr.drewN nq) (w.heap.size + 1) _ := hY
          have hR : Bn (wr.drewN nq) w.heap.size _ := hR
          have hb : Below w.heap.size w (wr.drewN nq) := hb.trans ⟨rfl, rfl, rfl, Nat.le_refl _, fun _ _ => rfl⟩
          clear g3 f3
          generalize wr.drewN nq = wq at *
          obtain ⟨g0, f0⟩ := hY 0 _ rfl
          obtain ⟨g1, f1⟩ := hY 1 _ rfl
          obtain ⟨g2, f2⟩ := hY 2 _ rfl
          obtain ⟨g3, f3⟩ := hY 3 _ rfl
          obtain ⟨g4, f4⟩ := hY 4 _ rfl
          obtain ⟨g5, f5⟩ := hY 5 _ rfl
          obtain ⟨g6, f6⟩ := hY 6 _ rfl
          obtain ⟨L, hL⟩ : ∃ L, ((j : Int) == (i : Int) + 1) = L := ⟨_, rfl⟩
          have HL : Hid (decide (bb = i + 1) = L) := by
            rw [← hL, ← HJ.out]
            exact lf_same j i
          go_upto_region 9 with fail
          have hY3 := hY.set (i := 6) (by simp) (.bool L)
          have hR3 := hR.far (X := w.heap.size + 1) (i := 6) (by omega) (.bool L)
          have hb3 := hb.setCell (p := ⟨w.heap.size + 1, 6, none⟩) (by simp) (.bool L)
          simp only [List.set_cons_succ, List.set_cons_zero] at hY3
          clear g0 f0 g1 f1 g2 f2 g3 f3 g4 f4 g5 f5 g6 f6 hY hR hb hL
          generalize wq.setCell ⟨w.heap.size + 1, 6, none⟩ (.bool L) = wz at *
          obtain ⟨g0, f0⟩ := hY3 0 _ rfl
          obtain ⟨g1, f1⟩ := hY3 1 _ rfl
          obtain ⟨g2, f2⟩ := hY3 2 _ rfl
          obtain ⟨g3, f3⟩ := hY3 3 _ rfl
          obtain ⟨g4, f4⟩ := hY3 4 _ rfl
          obtain ⟨g5, f5⟩ := hY3 5 _ rfl
          obtain ⟨g6, f6⟩ := hY3 6 _ rfl
          obtain ⟨r0, q0⟩ := hR3 0 _ rfl
          obtain ⟨r1, q1⟩ := hR3 1 _ rfl
          obtain ⟨r2, q2⟩ := hR3 2 _ rfl
          obtain ⟨r3, q3⟩ := hR3 3 _ rfl
          obtain ⟨r4, q4⟩ := hR3 4 _ rfl
          obtain ⟨r5, q5⟩ := hR3 5 _ rfl
          obtain ⟨r6, q6⟩ := hR3 6 _ rfl
          have hR2 := ((((((hR3.set (i := 0) (by simp) (.string x0)).set (i := 1) (by simp) (.int .i64 p)).set (i := 2) (by simp) (.int .i64 d)).set (i := 3) (by simp) (.int .i64 (j : Int))).set (i := 4) (by simp) (.bool x4)).set (i := 5) (by simp) (.bool x5)).set (i := 6) (by simp) (.bool L)
          have hb2 := putL_below [.string x0, .int .i64 p, .int .i64 d, .int .i64 (j : Int), .bool x4, .bool x5, .bool L] wz w.heap.size 0 hb3 (Nat.le_refl _)
          go_wp2
          exact bodyPost_ret (placed_res hR2 rfl) rfl ⟨by rw [HL.out, ← HJ.out, ← HP.out], hb2⟩

        · have e := HCE.out wr j hb hjn
          replace HJ : Hid (j = bb) := by
            have := HJ.out
            have h1 : n - j = (n - j - 1) + 1 := by omega
            rw [h1, pbeh, if_neg (by omega)] at this
            exact this
          have i3 : (j : Int) < (n : Int) := by omega
          have i4 : (0 : Int) ≤ (j : Int) := by omega
          obtain ⟨g3, f3⟩ := hY 3 _ rfl
          obtain ⟨g2, _⟩ := hY 2 _ rfl
          obtain ⟨q, hq⟩ : ∃ q, D j = q := ⟨_, rfl⟩
          rw [hq] at e hd
          have i5 : ¬ d < q := by omega
          clear hq
          go_upto_region 6 with fail
          go_quiet (fail)
          have hY : Bn (wr.drewN nq) (w.heap.size + 1) _ := hY
          have hR : Bn (wr.drewN nq) w.heap.size _ := hR
          have hb : Below w.heap.size w (wr.drewN nq) := hb.trans ⟨rfl, rfl, rfl, Nat.le_refl _, fun _ _ => rfl⟩
          clear g3 f3 e g2
          generalize wr.drewN nq = wq at *
          obtain ⟨g0, f0⟩ := hY 0 _ rfl
          obtain ⟨g1, f1⟩ := hY 1 _ rfl
          obtain ⟨g2, f2⟩ := hY 2 _ rfl
          obtain ⟨g3, f3⟩ := hY 3 _ rfl
          obtain ⟨g4, f4⟩ := hY 4 _ rfl
          obtain ⟨g5, f5⟩ := hY 5 _ rfl
          obtain ⟨g6, f6⟩ := hY 6 _ rfl
          obtain ⟨L, hL⟩ : ∃ L, ((j : Int) == (i : Int) + 1) = L := ⟨_, rfl⟩
          have HL : Hid (decide (bb = i + 1) = L) := by
            rw [← hL, ← HJ.out]
            exact lf_same j i
          go_upto_region 9 with fail
          have hY3 := hY.set (i := 6) (by simp) (.bool L)
          have hR3 := hR.far (X := w.heap.size + 1) (i := 6) (by omega) (.bool L)
          have hb3 := hb.setCell (p := ⟨w.heap.size + 1, 6, none⟩) (by simp) (.bool L)
          simp only [List.set_cons_succ, List.set_cons_zero] at hY3
          clear g0 f0 g1 f1 g2 f2 g3 f3 g4 f4 g5 f5 g6 f6 hY hR hb hL
          generalize wq.setCell ⟨w.heap.size + 1, 6, none⟩ (.bool L) = wz at *
          obtain ⟨g0, f0⟩ := hY3 0 _ rfl
          obtain ⟨g1, f1⟩ := hY3 1 _ rfl
          obtain ⟨g2, f2⟩ := hY3 2 _ rfl
          obtain ⟨g3, f3⟩ := hY3 3 _ rfl
          obtain ⟨g4, f4⟩ := hY3 4 _ rfl
          obtain ⟨g5, f5⟩ := hY3 5 _ rfl
          obtain ⟨g6, f6⟩ := hY3 6 _ rfl
          obtain ⟨r0, q0⟩ := hR3 0 _ rfl
          obtain ⟨r1, q1⟩ := hR3 1 _ rfl
          obtain ⟨r2, q2⟩ := hR3 2 _ rfl
          obtain ⟨r3, q3⟩ := hR3 3 _ rfl
          obtain ⟨r4, q4⟩ := hR3 4 _ rfl
          obtain ⟨r5, q5⟩ := hR3 5 _ rfl
          obtain ⟨r6, q6⟩ := hR3 6 _ rfl
          have hR2 := ((((((hR3.set (i := 0) (by simp) (.string x0)).set (i := 1) (by simp) (.int .i64 p)).set (i := 2) (by simp) (.int .i64 d)).set (i := 3) (by simp) (.int .i64 (j : Int))).set (i := 4) (by simp) (.bool x4)).set (i := 5) (by simp) (.bool x5)).set (i := 6) (by simp) (.bool L)
          have hb2 := putL_below [.string x0, .int .i64 p, .int .i64 d, .int .i64 (j : Int), .bool x4, .bool x5, .bool L] wz w.heap.size 0 hb3 (Nat.le_refl _)
          go_wp2
          exact bodyPost_ret (placed_res hR2 rfl) rfl ⟨by rw [HL.out, ← HJ.out, ← HP.out], hb2⟩

        · have e := HCE.out wr j hb hjn
          replace HJ : Hid (pbeh D d (n - (j + 1)) (j + 1) = bb) := by
            have := HJ.out
            have h1 : n - j = (n - (j + 1)) + 1 := by omega
            rw [h1, pbeh, if_pos hd] at this
            exact this
          have i3 : (j : Int) < (n : Int) := by omega
          have i4 : (0 : Int) ≤ (j : Int) := by omega
          obtain ⟨g3, f3⟩ := hY 3 _ rfl
          obtain ⟨g2, _⟩ := hY 2 _ rfl
          obtain ⟨q, hq⟩ : ∃ q, D j = q := ⟨_, rfl⟩
          rw [hq] at e hd
          have hm := pc0_of g3
          clear hq
          go_upto_region 6 with fail
          go_quiet (fail)
          have hY : Bn (wr.drewN nq) (w.heap.size + 1) _ := hY
          have hR : Bn (wr.drewN nq) w.heap.size _ := hR
          have hb : Below w.heap.size w (wr.drewN nq) := hb.trans ⟨rfl, rfl, rfl, Nat.le_refl _, fun _ _ => rfl⟩
          have g3 : (wr.drewN nq).cell? ⟨w.heap.size + 1, 3, none⟩ = some (.int .i64 (j : Int)) := g3
          have f3 : (wr.drewN nq).frozen? ⟨w.heap.size + 1, 3, none⟩ = false := f3
          clear e g2
          generalize wr.drewN nq = wq at *
          have hY2 := hY.set (i := 3) (by simp) (.int .i64 ((j : Int) + 1))
          have hR2 := hR.far (X := w.heap.size + 1) (i := 3) (by omega) (.int .i64 ((j : Int) + 1))
          have hb2 := hb.setCell (p := ⟨w.heap.size + 1, 3, none⟩) (by simp) (.int .i64 ((j : Int) + 1))
          simp only [List.set_cons_succ, List.set_cons_zero] at hY2
          have hm2 := pc0_of (hY2 3 _ rfl).1
          have ej : ((j + 1 : Nat) : Int) = (j : Int) + 1 := by omega
          have HEJ : Hid (((j + 1 : Nat) : Int) = (j : Int) + 1) := ej
          clear ej
          go_wp2
          go_roundw
          case rel => exact ⟨j + 1, by omega, hjn, HJ, by rw [HEJ.out]; exact hY2, hR2, hb2⟩
          case measure => rw [hm, hm2]; omega

    · have hw : ((k' + 1 : Nat) : Int) - 1 = (k' : Int) := by omega
      rw [hw] at hY
      have e := HCE.out wr k' hb (by omega)
      have HP : Hid (ppar D d k' = pp) := by rw [← HK.out]; show _ = ppar D d (k' + 1); rw [ppar, if_neg (by omega)]
      clear HK
      obtain ⟨g1, f1⟩ := hY 1 _ rfl
      obtain ⟨g2, _⟩ := hY 2 _ rfl
      have i3 : (k' : Int) < (n : Int) := by omega
      have i4 : (0 : Int) ≤ (k' : Int) := by omega
      obtain ⟨q, hq⟩ : ∃ q, D k' = q := ⟨_, rfl⟩
      rw [hq] at e hge
      have hm := pc0_of g1
      clear hq hw
      go_upto_region 3 with fail
      go_quiet (fail)
      have hY : Bn (wr.drewN nq) (w.heap.size + 1) _ := hY
      have hR : Bn (wr.drewN nq) w.heap.size _ := hR
      have hb : Below w.heap.size w (wr.drewN nq) := hb.trans ⟨rfl, rfl, rfl, Nat.le_refl _, fun _ _ => rfl⟩
      have g1 : (wr.drewN nq).cell? ⟨w.heap.size + 1, 1, none⟩ = some (.int .i64 (k' : Int)) := g1
      have f1 : (wr.drewN nq).frozen? ⟨w.heap.size + 1, 1, none⟩ = false := f1
      clear e g2 i3 hge
      generalize wr.drewN nq = wq at *
      have hY2 := hY.set (i := 1) (by simp) (.int .i64 ((k' : Int) - 1))
      have hR2 := hR.far (X := w.heap.size + 1) (i := 1) (by omega) (.int .i64 ((k' : Int) - 1))
      have hb2 := hb.setCell (p := ⟨w.heap.size + 1, 1, none⟩) (by simp) (.int .i64 ((k' : Int) - 1))
      simp only [List.set_cons_succ, List.set_cons_zero] at hY2
      have hm2 := pc0_of (hY2 1 _ rfl).1
      go_wp2
      go_roundw
      case rel => exact ⟨k', by omega, HP, hY2, hR2, hb2⟩
      case measure => rw [hm, hm2]; omega

theorem nd_ext {n m : Nd} (h1 : n.1 = m.1) (h2 : n.2.1.1 = m.2.1.1) (h3 : n.2.1.2.1 = m.2.1.2.1) (h4 : n.2.1.2.2 = m.2.1.2.2) (h5 : n.2.2.1 = m.2.2.1) (h6 : n.2.2.2.1 = m.2.2.2.1) (h7 : n.2.2.2.2 = m.2.2.2.2) : n = m := by
  obtain ⟨a, ⟨b, c, d⟩, e, f, g⟩ := n
  obtain ⟨a', ⟨b', c', d'⟩, e', f', g'⟩ := m
  simp only at h1 h2 h3 h4 h5 h6 h7
  subst h1 h2 h3 h4 h5 h6 h7
  rfl
theorem fm_placed (l : List Nd) : FmP l.length (nD l) (nP l) (nB l) (nL l) ↔ (l.length ≤ 40 ∧ nst (nD l) l.length ∧ ∀ i < l.length, nAt l i = plN l i) := by
  unfold FmP
  refine and_congr Iff.rfl (and_congr Iff.rfl ⟨fun h i hi => ?_, fun h i hi => ?_⟩)
  · obtain ⟨h1, h2, h3⟩ := h i hi
    refine nd_ext rfl h1 rfl h2 rfl rfl ?_
    show nL l i = decide (pbeh (nD l) (nD l i) (l.length - (i + 1)) (i + 1) = i + 1)
    rw [h3, h2, lf_same, Bool.eq_iff_iff, decide_eq_true_eq, beq_iff_eq]
  · have e := h i hi
    have h1 : nP l i = (plN l i).2.1.1 := by unfold nP; rw [e]
    have h2 : nB l i = (plN l i).2.1.2.2 := by unfold nB; rw [e]
    have h3 : nL l i = (plN l i).2.2.2.2 := by unfold nL; rw [e]
    refine ⟨h1, h2, h3.trans ?_⟩
    show decide (pbeh (nD l) (nD l i) (l.length - (i + 1)) (i + 1) = i + 1) = _
    rw [h2]
    show _ = decide (((pbeh (nD l) (nD l i) (l.length - (i + 1)) (i + 1) : Nat) : Int) = (i : Int) + 1)
    rw [lf_same, Bool.eq_iff_iff, decide_eq_true_eq, beq_iff_eq]
set_option maxRecDepth 100000 in
set_option maxHeartbeats 8000000 in
theorem tformed_any {ok : Nat → Prop} {w : World} {l : List Nd} {v : Value} (h : RdNd ok w l v) :
    Calls Try.prog 14 #[v] w fun e w' => e = .returned (.bool (fmB l)) ∧ Below w.heap.size w w' := by
  obtain ⟨a, cap, rfl, hlc, hcm⟩ := h.form
  unfold maxLen at hcm
  obtain ⟨V, hV⟩ : ∃ V, fmB l = V := ⟨_, rfl⟩
  rw [hV]
  have HV : Hid (fmB l = V) := hV
  have HC := hidOf h
  have hF : ¬ (l.length ≤ 40 ∧ nst (nD l) l.length ∧ ∀ i < l.length, nAt l i = plN l i) → V = false := fun h => by
    rw [← HV.out]
    unfold fmB
    rw [decide_eq_false]
    exact fun h2 => h ((fm_placed l).1 h2)
  have hT : (l.length ≤ 40 ∧ nst (nD l) l.length ∧ ∀ i < l.length, nAt l i = plN l i) → V = true := fun h => by
    rw [← HV.out]
    unfold fmB
    rw [decide_eq_true]
    exact (fm_placed l).2 h
  have hne := fun (h40 : l.length ≤ 40) w1 (b1 : Below w.heap.size w w1) => nested_any (h.stay kp_nd (ok' := ok) (w' := w1) (fun k hk hl => ⟨hk, b1.block k hl⟩)) h40
  obtain ⟨n, hn⟩ : ∃ n, l.length = n := ⟨_, rfl⟩
  rw [hn] at hlc hF hT hne ⊢
  have HN : Hid (l.length = n) := hn
  have HT := hidOf hT
  have HF := hidOf hF
  clear h hV hn hT hF
  by_cases h40 : 40 < n
  · have hF := HF.out (fun h => by omega)
    subst hF
    have i0 : (40 : Int) < (n : Int) := by omega
    clear hne
    go_enter Try.func14, Try.ntmps14
    go_wp2
    go_ret
    exact ⟨rfl, Below.refl _ _⟩
  have i0 : ¬ (40 : Int) < (n : Int) := by omega
  have hne := fun w1 b1 => hne (by omega) w1 b1
  obtain ⟨NS, hNS⟩ : ∃ x, nsB l = x := ⟨_, rfl⟩
  rw [hNS] at hne
  cases NS with
  | false =>
    have hF := HF.out (fun h => by
      unfold nsB at hNS
      rw [HN.out] at hNS
      exact absurd h.2.1 (of_decide_eq_false hNS))
    subst hF
    clear hNS
    go_enter Try.func14, Try.ntmps14
    go_wp2_with (first | (go_at_call 34; refine (hne _ (Below.refl _ _)).mono ?_; rintro e w1 ⟨rfl, b1⟩) | fail)
    go_ret
    exact ⟨rfl, b1⟩
  | true =>
    have hns2 : nst (nD l) n := by
      unfold nsB at hNS
      rw [HN.out] at hNS
      exact of_decide_eq_true hNS
    have HNS := hidOf hns2
    clear hns2
    clear hNS
    go_enter Try.func14, Try.ntmps14
    go_wp2_with (first | (go_at_call 34; refine (hne _ (Below.refl _ _)).mono ?_; rintro e w1 ⟨rfl, b1⟩) | fail)
    clear hne
    go_loopw [14] (fun ix wr => ∃ (j : Nat), j ≤ n ∧ ix = .int .i64 (j : Int) ∧ Hid (∀ i < j, nAt l i = plN l i) ∧ Below w.heap.size w wr) (fun ix _ => n - (RowKit.intOf ix).toNat)
    case atStart => exact ⟨0, Nat.zero_le _, rfl, fun i hi => by omega, b1⟩
    case round =>
      clear b1
      obtain ⟨j, hj, rfl, HI, hb⟩ := hrel
      by_cases hlt : j < n
      · have hpl := fun w1 (b1 : Below wr.heap.size wr w1) => placed_any (HC.out.stay kp_nd (ok' := ok) (w' := w1) (fun k hk hl => ⟨hk, (b1.block k (Nat.lt_of_lt_of_le hl hb.size)).trans (hb.block k hl)⟩)) (by rw [HN.out]; omega) (i := j) (by rw [HN.out]; exact hlt)
        obtain ⟨b, off, rfl, hbl, c0, c1, c2, c3, c4, c5, c6⟩ := nd_at HC.out j (by rw [HN.out]; exact hlt)
        rw [HN.out] at hpl
        have hcx : ∀ (w1 : World) (p : Addr), Below wr.heap.size wr w1 → p.block = b → w1.cell? p = w.cell? p := fun w1 p h1 hp => ((h1.cell (p := p) (by rw [hp]; exact Nat.lt_of_lt_of_le hbl hb.size)).trans (hb.cell (p := p) (by rw [hp]; exact hbl)))
        have HCX := hidOf hcx
        replace c0 := (hb.cell (p := ⟨b, off + j * 7, none⟩) hbl).trans c0
        replace c1 := (hb.cell (p := ⟨b, off + j * 7 + 1, none⟩) hbl).trans c1
        replace c2 := (hb.cell (p := ⟨b, off + j * 7 + 2, none⟩) hbl).trans c2
        replace c3 := (hb.cell (p := ⟨b, off + j * 7 + 3, none⟩) hbl).trans c3
        replace c4 := (hb.cell (p := ⟨b, off + j * 7 + 4, none⟩) hbl).trans c4
        replace c5 := (hb.cell (p := ⟨b, off + j * 7 + 5, none⟩) hbl).trans c5
        replace c6 := (hb.cell (p := ⟨b, off + j * 7 + 6, none⟩) hbl).trans c6
        have e0 : (plN l j).1 = (nAt l j).1 := rfl
        have e2 : (plN l j).2.1.2.1 = nD l j := rfl
        have e4 : (plN l j).2.2.1 = (nAt l j).2.2.1 := rfl
        have e5 : (plN l j).2.2.2.1 = (nAt l j).2.2.2.1 := rfl
        have hpv : ndV (plN l j) = [.string (nAt l j).1, .int .i64 (plN l j).2.1.1, .int .i64 (nD l j), .int .i64 (plN l j).2.1.2.2, .bool (nAt l j).2.2.1, .bool (nAt l j).2.2.2.1, .bool (plN l j).2.2.2.2] := rfl
        rw [hpv] at hpl
        have HE : Hid ((nAt l j = plN l j) ↔ (nP l j = (plN l j).2.1.1 ∧ nB l j = (plN l j).2.1.2.2 ∧ nL l j = (plN l j).2.2.2.2)) := by
          constructor
          · intro h
            unfold nP nB nL
            rw [← h]
            exact ⟨rfl, rfl, rfl⟩
          · rintro ⟨h1, h2, h3⟩
            exact nd_ext rfl h1 rfl h2 rfl rfl h3
        have hcases : ((nP l j == (plN l j).2.1.1) = false ∧ ¬ (nAt l j = plN l j)) ∨ (nP l j = (plN l j).2.1.1 ∧ (nB l j == (plN l j).2.1.2.2) = false ∧ ¬ (nAt l j = plN l j)) ∨ (nP l j = (plN l j).2.1.1 ∧ nB l j = (plN l j).2.1.2.2 ∧ (nL l j == (plN l j).2.2.2.2) = false ∧ ¬ (nAt l j = plN l j)) ∨ (nP l j = (plN l j).2.1.1 ∧ nB l j = (plN l j).2.1.2.2 ∧ nL l j = (plN l j).2.2.2.2 ∧ (nAt l j = plN l j)) := by
          by_cases h1 : nP l j = (plN l j).2.1.1
          · by_cases h2 : nB l j = (plN l j).2.1.2.2
            · by_cases h3 : nL l j = (plN l j).2.2.2.2
              · exact .inr (.inr (.inr ⟨h1, h2, h3, HE.out.2 ⟨h1, h2, h3⟩⟩))
              · exact .inr (.inr (.inl ⟨h1, h2, beq_eq_false_iff_ne.2 h3, fun h => h3 (HE.out.1 h).2.2⟩))
            · exact .inr (.inl ⟨h1, beq_eq_false_iff_ne.2 h2, fun h => h2 (HE.out.1 h).2.1⟩)
          · exact .inl ⟨beq_eq_false_iff_ne.2 h1, fun h => h1 (HE.out.1 h).1⟩
        have HEQ : Hid (∀ (x : Prop), x → x) := fun _ h => h
        generalize (nAt l j).1 = x0 at c0 hpl
        generalize nP l j = x1 at c1 hcases
        generalize nD l j = x2 at c2 hpl
        generalize nB l j = x3 at c3 hcases
        generalize (nAt l j).2.2.1 = x4 at c4 hpl
        generalize (nAt l j).2.2.2.1 = x5 at c5 hpl
        generalize nL l j = x6 at c6 hcases
        generalize (plN l j).2.1.1 = y1 at hpl hcases
        generalize (plN l j).2.1.2.2 = y3 at hpl hcases
        generalize (plN l j).2.2.2.2 = y6 at hpl hcases
        clear e0 e2 e4 e5 hpv HE hcx HEQ
        have i1 : (j : Int) < (n : Int) := by omega
        have i2 : (0 : Int) ≤ (j : Int) := by omega
        have hB : Below wr.heap.size wr wr := Below.refl _ _
        rcases hcases with ⟨u1, hne⟩ | ⟨rfl, u1, hne⟩ | ⟨rfl, rfl, u1, hne⟩ | ⟨rfl, rfl, rfl, he⟩
        · skip
          have hbr : b < wr.heap.size := Nat.lt_of_lt_of_le hbl hb.size
          go_upto_region 6 with fail
          have y0 := c0
          have y1 := c1
          have y2 := c2
          have y3 := c3
          have y4 := c4
          have y5 := c5
          have y6 := c6
          go_region_held_law (fun w' => w'.cell? ⟨b, off + j * 7, none⟩ = some (.string x0) ∧ w'.cell? ⟨b, off + j * 7 + 1, none⟩ = some (.int .i64 x1) ∧ w'.cell? ⟨b, off + j * 7 + 2, none⟩ = some (.int .i64 x2) ∧ w'.cell? ⟨b, off + j * 7 + 3, none⟩ = some (.int .i64 x3) ∧ w'.cell? ⟨b, off + j * 7 + 4, none⟩ = some (.bool x4) ∧ w'.cell? ⟨b, off + j * 7 + 5, none⟩ = some (.bool x5) ∧ w'.cell? ⟨b, off + j * 7 + 6, none⟩ = some (.bool x6))
            ((refine ⟨?_, ?_, ?_, ?_, ?_, ?_, ?_⟩ <;> (repeat (first | (with_reducible exact y0) | (with_reducible exact y1) | (with_reducible exact y2) | (with_reducible exact y3) | (with_reducible exact y4) | (with_reducible exact y5) | (with_reducible exact y6) | (with_reducible refine cell_drw ?_))) <;> done))
            (first
              | (go_at_call 32; (first | (with_reducible refine (hpl _ hB).mono ?_) | (with_reducible refine (hpl _ hB.drew).mono ?_)); rintro e w1 ⟨rfl, b1⟩; (first | have hB := Below.nxtd hB b1 | have hB := Below.nxt hB b1); have y0 := (hB.cell (p := ⟨b, off + j * 7, none⟩) hbr).trans c0; have y1 := (hB.cell (p := ⟨b, off + j * 7 + 1, none⟩) hbr).trans c1; have y2 := (hB.cell (p := ⟨b, off + j * 7 + 2, none⟩) hbr).trans c2; have y3 := (hB.cell (p := ⟨b, off + j * 7 + 3, none⟩) hbr).trans c3; have y4 := (hB.cell (p := ⟨b, off + j * 7 + 4, none⟩) hbr).trans c4; have y5 := (hB.cell (p := ⟨b, off + j * 7 + 5, none⟩) hbr).trans c5; have y6 := (hB.cell (p := ⟨b, off + j * 7 + 6, none⟩) hbr).trans c6))
          all_goals (
            have hbw := hb.trans (hB.mono hb.size)
            have hF := HF.out (fun h => hne (h.2.2 j hlt))
            subst hF
            go_wp2
            go_ret
            exact ⟨rfl, hbw⟩)
        · skip
          have hbr : b < wr.heap.size := Nat.lt_of_lt_of_le hbl hb.size
          go_upto_region 6 with fail
          have y0 := c0
          have y1 := c1
          have y2 := c2
          have y3 := c3
          have y4 := c4
          have y5 := c5
          have y6 := c6
          go_region_held_law (fun w' => w'.cell? ⟨b, off + j * 7, none⟩ = some (.string x0) ∧ w'.cell? ⟨b, off + j * 7 + 1, none⟩ = some (.int .i64 x1) ∧ w'.cell? ⟨b, off + j * 7 + 2, none⟩ = some (.int .i64 x2) ∧ w'.cell? ⟨b, off + j * 7 + 3, none⟩ = some (.int .i64 x3) ∧ w'.cell? ⟨b, off + j * 7 + 4, none⟩ = some (.bool x4) ∧ w'.cell? ⟨b, off + j * 7 + 5, none⟩ = some (.bool x5) ∧ w'.cell? ⟨b, off + j * 7 + 6, none⟩ = some (.bool x6))
            ((refine ⟨?_, ?_, ?_, ?_, ?_, ?_, ?_⟩ <;> (repeat (first | (with_reducible exact y0) | (with_reducible exact y1) | (with_reducible exact y2) | (with_reducible exact y3) | (with_reducible exact y4) | (with_reducible exact y5) | (with_reducible exact y6) | (with_reducible refine cell_drw ?_))) <;> done))
            (first
              | (go_at_call 32; (first | (with_reducible refine (hpl _ hB).mono ?_) | (with_reducible refine (hpl _ hB.drew).mono ?_)); rintro e w1 ⟨rfl, b1⟩; (first | have hB := Below.nxtd hB b1 | have hB := Below.nxt hB b1); have y0 := (hB.cell (p := ⟨b, off + j * 7, none⟩) hbr).trans c0; have y1 := (hB.cell (p := ⟨b, off + j * 7 + 1, none⟩) hbr).trans c1; have y2 := (hB.cell (p := ⟨b, off + j * 7 + 2, none⟩) hbr).trans c2; have y3 := (hB.cell (p := ⟨b, off + j * 7 + 3, none⟩) hbr).trans c3; have y4 := (hB.cell (p := ⟨b, off + j * 7 + 4, none⟩) hbr).trans c4; have y5 := (hB.cell (p := ⟨b, off + j * 7 + 5, none⟩) hbr).trans c5; have y6 := (hB.cell (p := ⟨b, off + j * 7 + 6, none⟩) hbr).trans c6))
          all_goals (
            have hbw := hb.trans (hB.mono hb.size)
            have hF := HF.out (fun h => hne (h.2.2 j hlt))
            subst hF
            go_wp2
            go_ret
            exact ⟨rfl, hbw⟩)
        · skip
          have hbr : b < wr.heap.size := Nat.lt_of_lt_of_le hbl hb.size
          go_upto_region 6 with fail
          have y0 := c0
          have y1 := c1
          have y2 := c2
          have y3 := c3
          have y4 := c4
          have y5 := c5
          have y6 := c6
          go_region_held_law (fun w' => w'.cell? ⟨b, off + j * 7, none⟩ = some (.string x0) ∧ w'.cell? ⟨b, off + j * 7 + 1, none⟩ = some (.int .i64 x1) ∧ w'.cell? ⟨b, off + j * 7 + 2, none⟩ = some (.int .i64 x2) ∧ w'.cell? ⟨b, off + j * 7 + 3, none⟩ = some (.int .i64 x3) ∧ w'.cell? ⟨b, off + j * 7 + 4, none⟩ = some (.bool x4) ∧ w'.cell? ⟨b, off + j * 7 + 5, none⟩ = some (.bool x5) ∧ w'.cell? ⟨b, off + j * 7 + 6, none⟩ = some (.bool x6))
            ((refine ⟨?_, ?_, ?_, ?_, ?_, ?_, ?_⟩ <;> (repeat (first | (with_reducible exact y0) | (with_reducible exact y1) | (with_reducible exact y2) | (with_reducible exact y3) | (with_reducible exact y4) | (with_reducible exact y5) | (with_reducible exact y6) | (with_reducible refine cell_drw ?_))) <;> done))
            (first
              | (go_at_call 32; (first | (with_reducible refine (hpl _ hB).mono ?_) | (with_reducible refine (hpl _ hB.drew).mono ?_)); rintro e w1 ⟨rfl, b1⟩; (first | have hB := Below.nxtd hB b1 | have hB := Below.nxt hB b1); have y0 := (hB.cell (p := ⟨b, off + j * 7, none⟩) hbr).trans c0; have y1 := (hB.cell (p := ⟨b, off + j * 7 + 1, none⟩) hbr).trans c1; have y2 := (hB.cell (p := ⟨b, off + j * 7 + 2, none⟩) hbr).trans c2; have y3 := (hB.cell (p := ⟨b, off + j * 7 + 3, none⟩) hbr).trans c3; have y4 := (hB.cell (p := ⟨b, off + j * 7 + 4, none⟩) hbr).trans c4; have y5 := (hB.cell (p := ⟨b, off + j * 7 + 5, none⟩) hbr).trans c5; have y6 := (hB.cell (p := ⟨b, off + j * 7 + 6, none⟩) hbr).trans c6))
          all_goals (
            have hbw := hb.trans (hB.mono hb.size)
            have hF := HF.out (fun h => hne (h.2.2 j hlt))
            subst hF
            go_wp2
            go_ret
            exact ⟨rfl, hbw⟩)
        · skip
          have hbr : b < wr.heap.size := Nat.lt_of_lt_of_le hbl hb.size
          go_upto_region 6 with fail
          have y0 := c0
          have y1 := c1
          have y2 := c2
          have y3 := c3
          have y4 := c4
          have y5 := c5
          have y6 := c6
          go_region_held_law (fun w' => w'.cell? ⟨b, off + j * 7, none⟩ = some (.string x0) ∧ w'.cell? ⟨b, off + j * 7 + 1, none⟩ = some (.int .i64 x1) ∧ w'.cell? ⟨b, off + j * 7 + 2, none⟩ = some (.int .i64 x2) ∧ w'.cell? ⟨b, off + j * 7 + 3, none⟩ = some (.int .i64 x3) ∧ w'.cell? ⟨b, off + j * 7 + 4, none⟩ = some (.bool x4) ∧ w'.cell? ⟨b, off + j * 7 + 5, none⟩ = some (.bool x5) ∧ w'.cell? ⟨b, off + j * 7 + 6, none⟩ = some (.bool x6))
            ((refine ⟨?_, ?_, ?_, ?_, ?_, ?_, ?_⟩ <;> (repeat (first | (with_reducible exact y0) | (with_reducible exact y1) | (with_reducible exact y2) | (with_reducible exact y3) | (with_reducible exact y4) | (with_reducible exact y5) | (with_reducible exact y6) | (with_reducible refine cell_drw ?_))) <;> done))
            (first
              | (go_at_call 32; (first | (with_reducible refine (hpl _ hB).mono ?_) | (with_reducible refine (hpl _ hB.drew).mono ?_)); rintro e w1 ⟨rfl, b1⟩; (first | have hB := Below.nxtd hB b1 | have hB := Below.nxt hB b1); have y0 := (hB.cell (p := ⟨b, off + j * 7, none⟩) hbr).trans c0; have y1 := (hB.cell (p := ⟨b, off + j * 7 + 1, none⟩) hbr).trans c1; have y2 := (hB.cell (p := ⟨b, off + j * 7 + 2, none⟩) hbr).trans c2; have y3 := (hB.cell (p := ⟨b, off + j * 7 + 3, none⟩) hbr).trans c3; have y4 := (hB.cell (p := ⟨b, off + j * 7 + 4, none⟩) hbr).trans c4; have y5 := (hB.cell (p := ⟨b, off + j * 7 + 5, none⟩) hbr).trans c5; have y6 := (hB.cell (p := ⟨b, off + j * 7 + 6, none⟩) hbr).trans c6))
          all_goals (
            have hbw := hb.trans (hB.mono hb.size)
            go_wp2
            go_roundw
            case rel => exact ⟨j + 1, hlt, by go_num, (fun i hi => by
              rcases Nat.lt_or_ge i j with h2 | h2
              · exact HI.out i h2
              · have h3 : i = j := by omega
                rw [h3]; exact he), hbw⟩
            case measure => simp [RowKit.intOf]; omega)
      · have i1 : ¬ (j : Int) < (n : Int) := by omega
        have hT := HT.out ⟨by omega, HNS.out, fun i hi => HI.out i (by omega)⟩
        subst hT
        go_wp2
        go_ret
        exact ⟨rfl, hb⟩

/-- Is it a state's number? -/
def nmB (n : Nat) (i : Int) : Bool := decide (0 ≤ i) && decide (i < n)
theorem nmB_true {n : Nat} {i : Int} (h : nmB n i = true) : ∃ k : Nat, i = k ∧ k < n := by
  unfold nmB at h
  simp only [Bool.and_eq_true, decide_eq_true_eq] at h
  exact ⟨i.toNat, by omega, by omega⟩
theorem nmB_nat {n k : Nat} (h : k < n) : nmB n (k : Int) = true := by
  unfold nmB
  simp only [Bool.and_eq_true, decide_eq_true_eq]
  omega
theorem nmB_no {n : Nat} {i : Int} (h : ¬ (0 ≤ i ∧ i < n)) : nmB n i = false := by
  unfold nmB
  rw [Bool.eq_false_iff]
  simp only [ne_eq, Bool.and_eq_true, decide_eq_true_eq]
  exact h
set_option maxHeartbeats 1000000 in
theorem numbered_any {w : World} {a : Option Addr} {n cap : Nat} (i : Int) (hlc : n ≤ cap) (hcm : cap ≤ maxLen) :
    Calls Try.prog 37 #[.slice a n cap, .int .i64 i] w fun e w' => e = .returned (.bool (nmB n i)) ∧ w = w' := by
  unfold maxLen at hcm
  by_cases h0 : 0 ≤ i
  · by_cases h1 : i < n
    · have e : nmB n i = true := by unfold nmB; simp [h0, h1]
      rw [e]
      clear e
      go_enter Try.func37, Try.ntmps37
      go_wp2
      go_ret
      exact ⟨rfl, rfl⟩
    · have e : nmB n i = false := nmB_no (fun h => h1 h.2)
      rw [e]
      clear e
      go_enter Try.func37, Try.ntmps37
      go_wp2
      go_ret
      exact ⟨rfl, rfl⟩
  · have e : nmB n i = false := nmB_no (fun h => h0 h.1)
    rw [e]
    clear e
    go_enter Try.func37, Try.ntmps37
    go_wp2
    go_ret
    exact ⟨rfl, rfl⟩
set_option maxHeartbeats 1000000 in
theorem liesIn_any {ok : Nat → Prop} {w : World} {l : List Nd} {v : Value} (h : RdNd ok w l v) (i : Int) (j : Nat) (hj : j < l.length) :
    Calls Try.prog 38 #[v, .int .i64 i, .int .i64 (j : Int)] w fun e w' => e = .returned (.bool (lsP (nB l) i j)) ∧ w = w' := by
  obtain ⟨a, cap, rfl, hlc, hcm⟩ := h.form
  unfold maxLen at hcm
  obtain ⟨b, off, rfl, hbl, c0, c1, c2, c3, c4, c5, c6⟩ := nd_at h j hj
  have i1 : (j : Int) < (l.length : Int) := by omega
  have i2 : (0 : Int) ≤ (j : Int) := by omega
  have eP : lsP (nB l) i j = (decide ((j : Int) < i) && decide (i < nB l j)) := by unfold lsP; rw [Int.toNat_natCast]
  rw [eP]
  generalize nB l j = q at *
  generalize l.length = n at *
  clear h c0 c1 c2 c4 c5 c6 eP
  by_cases h1 : (j : Int) < i
  · by_cases h2 : i < q
    · have e : (decide ((j : Int) < i) && decide (i < q)) = true := by simp [h1, h2]
      rw [e]
      clear e
      go_enter Try.func38, Try.ntmps38
      go_wp2
      go_ret
      exact ⟨rfl, rfl⟩
    · have e : (decide ((j : Int) < i) && decide (i < q)) = false := by simp [h2]
      rw [e]
      clear e
      go_enter Try.func38, Try.ntmps38
      go_wp2
      go_ret
      exact ⟨rfl, rfl⟩
  · have e : (decide ((j : Int) < i) && decide (i < q)) = false := by simp [h1]
    rw [e]
    clear e
    go_enter Try.func38, Try.ntmps38
    go_wp2
    go_ret
    exact ⟨rfl, rfl⟩
/-- Does i lie in j, or is it? -/
def wiB (l : List Nd) (i j : Int) : Bool := fmB l && (if j = -1 then (decide (i = -1) || nmB l.length i) else nmB l.length i && nmB l.length j && (decide (i = j) || lsP (nB l) i j))
set_option maxRecDepth 100000 in
set_option maxHeartbeats 4000000 in
theorem twithin_any {ok : Nat → Prop} {w : World} {l : List Nd} {v : Value} (h : RdNd ok w l v) (i j : Int) :
    Calls Try.prog 19 #[v, .int .i64 i, .int .i64 j] w fun e w' => e = .returned (.bool (wiB l i j)) ∧ Below w.heap.size w w' := by
  obtain ⟨a, cap, rfl, hlc, hcm⟩ := h.form
  have hfm := tformed_any h
  have hnm := fun w1 i => numbered_any (w := w1) (a := a) i hlc hcm
  have hli := fun w1 (b1 : Below w.heap.size w w1) i k (hk : k < l.length) => liesIn_any (h.stay kp_nd (ok' := ok) (w' := w1) (fun k hk hl => ⟨hk, b1.block k hl⟩)) i k hk
  unfold maxLen at hcm
  unfold wiB
  cases hf : fmB l with
  | false =>
    rw [hf] at hfm
    rw [Bool.false_and]
    clear hf hli hnm
    go_enter Try.func19, Try.ntmps19
    go_wp2_with (first | (go_at_call 14; refine hfm.mono ?_; rintro e w1 ⟨rfl, b1⟩) | fail)
    go_ret
    exact ⟨rfl, b1⟩
  | true =>
    rw [Bool.true_and]
    rw [hf] at hfm
    clear hf
    by_cases hj : j = -1
    · rw [if_pos hj]
      subst hj
      clear hli
      by_cases hi : i = -1
      · subst hi
        go_enter Try.func19, Try.ntmps19
        go_wp2_with (first | (go_at_call 14; refine hfm.mono ?_; rintro e w1 ⟨rfl, b1⟩) | (go_at_call 37; refine (hnm _ _).mono ?_; rintro e w2 ⟨rfl, rfl⟩) | fail)
        go_ret
        exact ⟨rfl, b1⟩
      · have hi2 : (i == -1) = false := beq_eq_false_iff_ne.2 hi
        have e : decide (i = -1) = false := decide_eq_false hi
        rw [e, Bool.false_or]
        clear e hi
        go_enter Try.func19, Try.ntmps19
        go_wp2_with (first | (go_at_call 14; refine hfm.mono ?_; rintro e w1 ⟨rfl, b1⟩) | (go_at_call 37; refine (hnm _ _).mono ?_; rintro e w2 ⟨rfl, rfl⟩) | fail)
        go_ret
        exact ⟨rfl, b1⟩
    · rw [if_neg hj]
      have hj2 : (j == -1) = false := beq_eq_false_iff_ne.2 hj
      clear hj
      cases h1 : nmB l.length i with
      | false =>
        have hn1 := fun w1 => hnm w1 i
        rw [h1] at hn1
        rw [Bool.false_and, Bool.false_and]
        clear h1 hnm hli
        go_enter Try.func19, Try.ntmps19
        go_wp2_with (first | (go_at_call 14; refine hfm.mono ?_; rintro e w1 ⟨rfl, b1⟩) | (go_at_call 37; refine (hn1 _).mono ?_; rintro e w2 ⟨rfl, rfl⟩) | fail)
        go_ret
        exact ⟨rfl, b1⟩
      | true =>
        rw [Bool.true_and]
        cases h2 : nmB l.length j with
        | false =>
          rw [Bool.false_and]
          have hn1 := fun w1 => hnm w1 i
          have hn2 := fun w1 => hnm w1 j
          rw [h1] at hn1
          rw [h2] at hn2
          clear h1 h2 hnm hli
          go_enter Try.func19, Try.ntmps19
          go_wp2_with (first | (go_at_call 14; refine hfm.mono ?_; rintro e w1 ⟨rfl, b1⟩) | (go_at_call 37; refine (hn1 _).mono ?_; clear hn1; rintro e w2 ⟨rfl, rfl⟩) | (go_at_call 37; refine (hn2 _).mono ?_; rintro e w2 ⟨rfl, rfl⟩) | fail)
          go_ret
          exact ⟨rfl, b1⟩
        | true =>
          rw [Bool.true_and]
          have hn1 := fun w1 => hnm w1 i
          have hn2 := fun w1 => hnm w1 j
          rw [h1] at hn1
          rw [h2] at hn2
          obtain ⟨j, rfl, hjl⟩ := nmB_true h2
          clear h1 h2 hnm
          by_cases hij : i = (j : Int)
          · rw [decide_eq_true hij, Bool.true_or]
            clear hli
            subst hij
            go_enter Try.func19, Try.ntmps19
            go_wp2_with (first | (go_at_call 14; refine hfm.mono ?_; rintro e w1 ⟨rfl, b1⟩) | (go_at_call 37; refine (hn1 _).mono ?_; rintro e w2 ⟨rfl, rfl⟩) | fail)
            go_ret
            exact ⟨rfl, b1⟩
          · rw [decide_eq_false hij, Bool.false_or]
            have hi2 : (i == (j : Int)) = false := beq_eq_false_iff_ne.2 hij
            have hl := fun w1 (b1 : Below w.heap.size w w1) => hli w1 b1 i j hjl
            generalize lsP (nB l) i j = V at *
            clear hij hli
            go_enter Try.func19, Try.ntmps19
            go_wp2_with (first | (go_at_call 14; refine hfm.mono ?_; rintro e w1 ⟨rfl, b1⟩) | (go_at_call 37; refine (hn1 _).mono ?_; clear hn1; rintro e w2 ⟨rfl, rfl⟩) | (go_at_call 37; refine (hn2 _).mono ?_; rintro e w2 ⟨rfl, rfl⟩) | (go_at_call 38; refine (hl _ b1).mono ?_; rintro e w2 ⟨rfl, rfl⟩) | fail)
            go_ret
            exact ⟨rfl, b1⟩
/-- The innermost one that both lie in. -/
def mtB (l : List Nd) (i j : Int) : Int := if fmB l && nmB l.length i && nmB l.length j then mtC (nP l) (nB l) j (nP l i.toNat + 1).toNat (nP l i.toNat) else -1
theorem fmB_fm {l : List Nd} (h : fmB l = true) : FmP l.length (nD l) (nP l) (nB l) (nL l) := of_decide_eq_true h
set_option maxRecDepth 100000 in
set_option maxHeartbeats 4000000 in
theorem meet_any {ok : Nat → Prop} {w : World} {l : List Nd} {v : Value} (h : RdNd ok w l v) (i j : Int) :
    Calls Try.prog 18 #[v, .int .i64 i, .int .i64 j] w fun e w' => e = .returned (.int .i64 (mtB l i j)) ∧ Below w.heap.size w w' := by
  obtain ⟨a, cap, rfl, hlc, hcm⟩ := h.form
  have hfm := tformed_any h
  have hnm := fun w1 i => numbered_any (w := w1) (a := a) i hlc hcm
  have hli := fun w1 (b1 : Below w.heap.size w w1) i k (hk : k < l.length) => liesIn_any (h.stay kp_nd (ok' := ok) (w' := w1) (fun k hk hl => ⟨hk, b1.block k hl⟩)) i k hk
  unfold maxLen at hcm
  unfold mtB
  cases hf : fmB l with
  | false =>
    rw [hf] at hfm
    rw [Bool.false_and, Bool.false_and, if_neg (by simp)]
    clear hf hli hnm
    go_enter Try.func18, Try.ntmps18
    go_wp2_with (first | (go_at_call 14; refine hfm.mono ?_; rintro e w1 ⟨rfl, b1⟩) | fail)
    go_ret
    exact ⟨rfl, b1⟩
  | true =>
  have HF := hidOf (fmB_fm hf)
  rw [hf] at hfm
  rw [Bool.true_and]
  clear hf
  cases h1 : nmB l.length i with
  | false =>
    have hn1 := fun w1 => hnm w1 i
    rw [h1] at hn1
    rw [Bool.false_and, if_neg (by simp)]
    clear h1 hnm hli
    go_enter Try.func18, Try.ntmps18
    go_wp2_with (first | (go_at_call 14; refine hfm.mono ?_; rintro e w1 ⟨rfl, b1⟩) | (go_at_call 37; refine (hn1 _).mono ?_; rintro e w2 ⟨rfl, rfl⟩) | fail)
    go_ret
    exact ⟨rfl, b1⟩
  | true =>
  rw [Bool.true_and]
  cases h2 : nmB l.length j with
  | false =>
    have hn1 := fun w1 => hnm w1 i
    have hn2 := fun w1 => hnm w1 j
    rw [h1] at hn1
    rw [h2] at hn2
    rw [if_neg (by simp)]
    clear h1 h2 hnm hli
    go_enter Try.func18, Try.ntmps18
    go_wp2_with (first | (go_at_call 14; refine hfm.mono ?_; rintro e w1 ⟨rfl, b1⟩) | (go_at_call 37; refine (hn1 _).mono ?_; clear hn1; rintro e w2 ⟨rfl, rfl⟩) | (go_at_call 37; refine (hn2 _).mono ?_; rintro e w2 ⟨rfl, rfl⟩) | fail)
    go_ret
    exact ⟨rfl, b1⟩
  | true =>
  have hn1 := fun w1 => hnm w1 i
  have hn2 := fun w1 => hnm w1 j
  rw [h1] at hn1
  rw [h2] at hn2
  rw [if_pos rfl]
  obtain ⟨i, rfl, hil⟩ := nmB_true h1
  obtain ⟨jn, rfl, hjl⟩ := nmB_true h2
  generalize hjj : (jn : Int) = j at *
  have HC := hidOf h
  clear h1 h2 hnm h
  rw [Int.toNat_natCast]
  obtain ⟨n, hn⟩ : ∃ n, l.length = n := ⟨_, rfl⟩
  have HN := hidOf hn
  have HLI : Hid (∀ w1 (b1 : Below w.heap.size w w1) k (hk : k < l.length), Calls Try.prog 38 #[.slice a n cap, .int .i64 j, .int .i64 (k : Int)] w1 fun e w' => e = .returned (.bool (lsP (nB l) j k)) ∧ w1 = w') := fun w1 b1 k hk => by
    have := hli w1 b1 j k hk
    rw [hn] at this
    exact this
  rw [hn] at hlc hil hjl hfm hn1 hn2 HF ⊢
  obtain ⟨V, hV⟩ : ∃ V, mtC (nP l) (nB l) j (nP l i + 1).toNat (nP l i) = V := ⟨_, rfl⟩
  have HV := hidOf hV
  rw [hV]
  obtain ⟨b, off, rfl, hbl, c0, c1, c2, c3, c4, c5, c6⟩ := nd_at HC.out i (by rw [HN.out]; exact hil)
  have hpl := HF.out.plt hil
  obtain ⟨p, hp⟩ : ∃ p, nP l i = p := ⟨_, rfl⟩
  rw [hp] at HV c1 hpl
  clear hn hV hp c0 c2 c3 c4 c5 c6 hli hjl hjj
  have HC1 : Hid (∀ w1 (b1 : Below w.heap.size w w1), w1.cell? ⟨b, off + i * 7 + 1, none⟩ = some (.int .i64 p)) := fun w1 b1 => (b1.cell (p := ⟨b, off + i * 7 + 1, none⟩) hbl).trans c1
  clear c1
  have i1 : (i : Int) < (n : Int) := by omega
  have i2 : (0 : Int) ≤ (i : Int) := by omega
  go_enter Try.func18, Try.ntmps18
  go_upto_region 3 with (first | (go_at_call 14; refine hfm.mono ?_; rintro e w1 ⟨rfl, b1⟩) | (go_at_call 37; refine (hn1 _).mono ?_; clear hn1; rintro e w2 ⟨rfl, rfl⟩) | (go_at_call 37; refine (hn2 _).mono ?_; rintro e w2 ⟨rfl, rfl⟩) | fail)
  clear hfm hn2
  have c1 := HC1.out w1 b1
  go_wp2
  clear c1
  go_loop [7] (fun t => ∃ p : Int, -1 ≤ p ∧ p < i ∧ t = .int .i64 p ∧ Hid (mtC (nP l) (nB l) j (p + 1).toNat p = V)) (fun t => (RowKit.intOf t + 1).toNat)
  case atStart => exact ⟨p, hpl.1, hpl.2, rfl, HV⟩
  case round =>
    obtain ⟨q, hq0, hq1, rfl, HQ⟩ := hrel
    by_cases hneg : q < 0
    · have hV : V = q := by
        rw [← HQ.out]
        have : q = -1 := by omega
        rw [this]; rfl
      subst hV
      have i3 : ¬ (0 : Int) ≤ V := by omega
      go_wp2
      go_ret
      exact ⟨rfl, b1⟩
    obtain ⟨k, rfl⟩ : ∃ k : Nat, q = k := ⟨q.toNat, by omega⟩
    have hkn : k < l.length := by rw [HN.out]; omega
    have hl := HLI.out w1 b1 k hkn
    have HQ2 : Hid ((if lsP (nB l) j k then (k : Int) else mtC (nP l) (nB l) j (nP l k + 1).toNat (nP l k)) = V) := by
      have := HQ.out
      have e1 : ((k : Int) + 1).toNat = k + 1 := by omega
      rw [e1, mtC, if_neg hneg, Int.toNat_natCast] at this
      have hpk := HF.out.plt (i := k) (by omega)
      rw [mtC_more HF.out j k (nP l k) (by omega) (by omega) (by omega)] at this
      exact this
    have i3 : (0 : Int) ≤ (k : Int) := by omega
    have i4 : (k : Int) < (n : Int) := by omega
    cases hls : lsP (nB l) j k with
    | true =>
      have hV : V = (k : Int) := by rw [← HQ2.out, if_pos hls]
      subst hV
      rw [hls] at hl
      clear hls
      go_wp2_with (first | (go_at_call 38; refine hl.mono ?_; rintro e w2 ⟨rfl, rfl⟩) | fail)
      go_ret
      exact ⟨rfl, b1⟩
    | false =>
      have HV2 : Hid (mtC (nP l) (nB l) j (nP l k + 1).toNat (nP l k) = V) := by
        have := HQ2.out
        rw [if_neg (by rw [hls]; simp)] at this
        exact this
      rw [hls] at hl
      have hpk := HF.out.plt (i := k) (by omega)
      obtain ⟨b', off', he, hbl', _, c1, _⟩ := nd_at HC.out k hkn
      simp only [Option.some.injEq, Addr.mk.injEq, and_true] at he
      obtain ⟨rfl, rfl⟩ := he
      replace c1 := (b1.cell (p := ⟨b, off + k * 7 + 1, none⟩) hbl).trans c1
      obtain ⟨pk, hk⟩ : ∃ x, nP l k = x := ⟨_, rfl⟩
      rw [hk] at c1 hpk HV2
      clear hls hk
      go_wp2_with (first | (go_at_call 38; refine hl.mono ?_; rintro e w2 ⟨rfl, rfl⟩) | fail)
      go_round
      case rel => exact ⟨pk, hpk.1, by omega, rfl, HV2⟩
      case measure => simp [RowKit.intOf]; omega

set_option maxHeartbeats 1000000 in
theorem isState_any {w : World} {a : Option Addr} {n cap : Nat} (i : Int) (hlc : n ≤ cap) (hcm : cap ≤ maxLen) :
    Calls Try.prog 40 #[.slice a n cap, .int .i64 i] w fun e w' => e = .returned (.bool (nmB n i)) ∧ w = w' := by
  unfold maxLen at hcm
  by_cases h0 : 0 ≤ i
  · by_cases h1 : i < (n : Int)
    · have e : nmB n i = true := by unfold nmB; simp [h0, h1]
      rw [e]
      clear e
      go_enter Try.func40, Try.ntmps40
      go_wp2
      go_ret
      exact ⟨rfl, rfl⟩
    · have e : nmB n i = false := by unfold nmB; simp [h0, h1]
      rw [e]
      clear e
      go_enter Try.func40, Try.ntmps40
      go_wp2
      go_ret
      exact ⟨rfl, rfl⟩
  · have e : nmB n i = false := by unfold nmB; simp [h0]
    rw [e]
    clear e
    go_enter Try.func40, Try.ntmps40
    go_wp2
    go_ret
    exact ⟨rfl, rfl⟩
/-- Does i lie in o, or is it o? All lie in -1. -/
def hoB (l : List Nd) (o i : Int) : Bool := decide (o = -1) || (decide (o ≤ i) && decide (i < nB l o.toNat))
set_option maxHeartbeats 1000000 in
theorem holds_any {ok : Nat → Prop} {w : World} {l : List Nd} {v : Value} (h : RdNd ok w l v) (o i : Int) (ho : o = -1 ∨ (0 ≤ o ∧ o < l.length)) :
    Calls Try.prog 61 #[v, .int .i64 o, .int .i64 i] w fun e w' => e = .returned (.bool (hoB l o i)) ∧ w = w' := by
  obtain ⟨a, cap, rfl, hlc, hcm⟩ := h.form
  unfold maxLen at hcm
  rcases ho with rfl | ⟨h0, h1⟩
  · have e : hoB l (-1) i = true := by simp [hoB]
    rw [e]
    clear h e
    go_enter Try.func61, Try.ntmps61
    go_wp2
    go_ret
    exact ⟨rfl, rfl⟩
  · obtain ⟨j, rfl⟩ : ∃ j : Nat, o = j := ⟨o.toNat, by omega⟩
    obtain ⟨b, off, rfl, hbl, c0, c1, c2, c3, c4, c5, c6⟩ := nd_at h j (by omega)
    have n1 : ((j : Int) == -1) = false := beq_eq_false_iff_ne.2 (by omega)
    have eH : hoB l j i = (decide ((j : Int) ≤ i) && decide (i < nB l j)) := by unfold hoB; rw [Int.toNat_natCast, decide_eq_false (by omega), Bool.false_or]
    rw [eH]
    clear h eH c0 c1 c2 c4 c5 c6
    generalize nB l j = x3 at *
    obtain ⟨n, hn⟩ : ∃ n, l.length = n := ⟨_, rfl⟩
    rw [hn] at hlc h1 ⊢
    by_cases q1 : (j : Int) ≤ i
    · by_cases q2 : i < x3
      · rw [decide_eq_true q1, decide_eq_true q2]
        go_enter Try.func61, Try.ntmps61
        go_wp2
        go_ret
        exact ⟨rfl, rfl⟩
      · rw [decide_eq_true q1, decide_eq_false q2]
        go_enter Try.func61, Try.ntmps61
        go_wp2
        go_ret
        exact ⟨rfl, rfl⟩
    · rw [decide_eq_false q1]
      go_enter Try.func61, Try.ntmps61
      go_wp2
      go_ret
      exact ⟨rfl, rfl⟩
def nA (l : List Nd) (i : Nat) : Bool := (nAt l i).2.2.1
/-- Is k entered because the one that it lies right in is? -/
def foB (l : List Nd) (k : Nat) (i : Int) : Bool :=
  if nA l (nP l k).toNat then true else if nP l k ≠ i ∧ hoB l (nP l k) i = true then hoB l k i else decide ((k : Int) = nP l k + 1)
set_option maxHeartbeats 2000000 in
theorem follows_any {ok : Nat → Prop} {w : World} {l : List Nd} {v : Value} (h : RdNd ok w l v) (k : Nat) (i : Int) (hk : k < l.length) (hp0 : 0 ≤ nP l k) (hp1 : nP l k < l.length) (h40 : l.length ≤ 40) :
    Calls Try.prog 63 #[v, .int .i64 (k : Int), .int .i64 i] w fun e w' => e = .returned (.bool (foB l k i)) ∧ w = w' := by
  obtain ⟨a, cap, rfl, hlc, hcm⟩ := h.form
  unfold maxLen at hcm
  obtain ⟨p, hp⟩ : ∃ p : Nat, nP l k = p := ⟨(nP l k).toNat, by omega⟩
  obtain ⟨b, off, rfl, hbl, c0, c1, c2, c3, c4, c5, c6⟩ := nd_at h k hk
  obtain ⟨b', off', hbb, hbl', d0, d1, d2, d3, d4, d5, d6⟩ := nd_at h p (by omega)
  simp only [Option.some.injEq, Addr.mk.injEq, and_true] at hbb
  obtain ⟨rfl, rfl⟩ := hbb
  have h1 := fun x y hx => holds_any h x y hx
  rw [hp] at c1
  have eF : foB l k i = if nA l p then true else if (p : Int) ≠ i ∧ hoB l p i = true then hoB l k i else decide ((k : Int) = p + 1) := by unfold foB; rw [hp, Int.toNat_natCast]
  rw [eF]
  have hA : (nAt l p).2.2.1 = nA l p := rfl
  rw [hA] at d4
  have hhp := h1 p i (.inr ⟨by omega, by omega⟩)
  have hhk := h1 k i (.inr ⟨by omega, by omega⟩)
  clear h eF c0 c2 c3 c4 c5 c6 d0 d1 d2 d3 d5 d6 hA h1
  generalize nA l p = xa at *
  generalize hoB l p i = xp at *
  generalize hoB l k i = xk at *
  obtain ⟨n, hn⟩ : ∃ n, l.length = n := ⟨_, rfl⟩
  have i1 : (k : Int) < n := by omega
  have i2 : (0 : Int) ≤ (k : Int) := by omega
  have i3 : (p : Int) < n := by omega
  have i4 : (0 : Int) ≤ (p : Int) := by omega
  rw [hn] at hlc hhp hhk hk h40 ⊢
  clear hn hp
  have w1 : IntKind.i64.wrap ((p : Int) + 1) = (p : Int) + 1 := by rw [wrap_small] <;> omega
  cases xa with
  | true =>
    simp only [if_true]
    go_enter Try.func63, Try.ntmps63
    go_wp2
    go_ret
    exact ⟨rfl, rfl⟩
  | false =>
    simp only [Bool.false_eq_true, if_false]
    by_cases q1 : (p : Int) = i
    · rw [if_neg (fun h => h.1 q1)]
      have q1' : ((p : Int) != i) = false := by simp [q1]
      clear q1
      go_enter Try.func63, Try.ntmps63
      go_wp2
      go_ret
      refine ⟨?_, rfl⟩
      simp [Bool.beq_eq_decide_eq]
    · have q1' : ((p : Int) != i) = true := by simp [q1]
      cases xp with
      | true =>
        rw [if_pos ⟨q1, rfl⟩]
        clear q1
        go_enter Try.func63, Try.ntmps63
        go_wp2_with (first
          | (go_at_call 61; refine hhp.mono ?_; clear hhp; rintro e w2 ⟨rfl, rfl⟩)
          | (go_at_call 61; refine hhk.mono ?_; rintro e w3 ⟨rfl, rfl⟩)
          | fail)
        go_ret
        exact ⟨rfl, rfl⟩
      | false =>
        rw [if_neg (fun h => by cases h.2)]
        clear q1
        go_enter Try.func63, Try.ntmps63
        go_wp2_with (first
          | (go_at_call 61; refine hhp.mono ?_; rintro e w2 ⟨rfl, rfl⟩)
          | fail)
        go_ret
        refine ⟨?_, rfl⟩
        simp [Bool.beq_eq_decide_eq]

theorem wpList_pushK {α : Type} {P : Program} (w : World) {ops : Array Oper} {rest : List Oper} {o : Oper} {a : Act} {Q : Exit → Act → World → Prop} (hgd : o.guard = none) (s x : Operand) (t : TypeId)
    (ho : o.op = .call { callee := .builtin .append, args := #[s, x], argTypes := #[t, t] })
    (base : Nat) (e : TypeId) (i : TypeInfo) (z : Value) (k bytes : Nat) (ht : P.underlying t = some (.slice e)) (hi : P.info? e = some i) (hz : i.zero = some z)
    (hsize : i.size = k) (hby : i.bytes = bytes) (hzs : z.cells.size = k) {R : (Nat → Prop) → World → α → List Value → Prop} (hR : Kp R)
    (v : Value) (l : List α) (p : α) (cs : List Value) (lo : Nat) (hs : a.eval s = v) (hx : a.eval x = .slice (some ⟨w.heap.size, 0, none⟩) 1 1) (hk : cs.length = k) (h1 : ∀ u ∈ cs, u.oneCell' = true)
    (hown : OwnK w base e k R v l) (hp : R (fun b => lo ≤ b) w p cs) (hlo : base ≤ lo) (hv : ∀ x, v.ownBlock = some x → x < lo) (hroom : (l.length + 1 + (l.length + 1) / 4 + 192) * bytes ≤ 281474976710656)
    (h63 : l.length + 1 ≤ maxLen) (hbase : base ≤ w.heap.size)
    (h : ∀ v' w', OwnK w' base e k R v' (l ++ [p]) → (w.alloc (.cells cs.toArray e)).grownBy w' v.ownBlock → Below base w w' → wpList P ops Q rest (a.put o.dst v') w') :
    wpList P ops Q (o :: rest) a (w.alloc (.cells cs.toArray e)) := by
  have hal : Below w.heap.size w (w.alloc (.cells cs.toArray e)) := (Below.refl _ _).alloc (Nat.le_refl _) _
  obtain ⟨qs, ho1, hl1, hr1⟩ := hown.on hR hal
  refine wpList_append_at _ hgd s x t t ho base e i z k bytes ht hi hz hsize hby hzs v l.length qs.flatten hs ho1 _ 1 cs hx (src_row ht w cs hk h1) 1 (.inr hroom) (Nat.le_refl _) h63 (Nat.le_trans hbase hal.size) ?_
  intro v' w' hown' hg hat
  refine h v' w' (OwnK.snoc hR hk rfl ho1 hl1 hr1 hown' hg hat (hR hp (fun b hb hlt => ⟨hb, hal.block b hlt⟩)) hlo hv) hg ?_
  exact ((Below.refl base w).alloc hbase _).grown hg (Nat.le_trans hbase hal.size) (fun k hk => (World.ownsRow.lt ho1 k hk).1)
theorem OwnK.blk {α : Type} {w : World} {base e k : Nat} {R : (Nat → Prop) → World → α → List Value → Prop} {v : Value} {l : List α} (h : OwnK w base e k R v l) : ∀ x, v.ownBlock = some x → base ≤ x ∧ x < w.heap.size := by
  obtain ⟨qs, ho, _⟩ := h
  exact ownsRow_lt ho
/-- A number in a row of them. -/
def rInt (ok : Nat → Prop) (w : World) (x : Int) (cs : List Value) : Prop := cs = [.int .i64 x]
theorem kp_int : Kp rInt := fun _ _ _ _ _ _ h _ => h
abbrev RdZs (ok : Nat → Prop) (w : World) (l : List Int) (v : Value) : Prop := RdK ok w 1 (rInt ok w) l v
theorem Try.infoIntT : (Try.prog.info? 3).map (fun i => (i.zero, i.size, i.bytes)) = some (some (.int .i64 0), 1, 8) := by kernel_rfl
theorem Try.infoNdP : (Try.prog.info? 72).map (fun i => (i.zero, i.size, i.bytes)) = some (some (.agg #[.string ⟨#[]⟩, .int .i64 0, .int .i64 0, .int .i64 0, .bool false, .bool false, .bool false]), 7, 48) := by kernel_rfl
theorem fm_40 {l : List Nd} (h : fmB l = true) : l.length ≤ 40 := (fmB_fm h).1
end Go.Proofs.Ytbccdkhbplmknaa
