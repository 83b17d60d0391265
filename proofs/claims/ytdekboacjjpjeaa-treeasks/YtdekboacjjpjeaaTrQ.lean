
/- What the program's placed answers. -/
import Derived.Test.YtdekboacjjpjeaaTrP
import Derived.Test.YtdekboacjjpjeaaCdZ
namespace Go.Proofs.Ytdekboacjjpjeaa
open Go.RowKit Go.Lib
set_option linter.unusedSimpArgs false
set_option linter.unusedVariables false
attribute [local go_sem ↓] Go.wp_at_zero Go.wp_at_succ

def pc0 (w : World) (X k : Nat) : Int := match w.cell? ⟨X, k, none⟩ with | some (.int _ n) => n | _ => 0
theorem pc0_of {w : World} {X k : Nat} {n : Int} (h : w.cell? ⟨X, k, none⟩ = some (.int .i64 n)) : pc0 w X k = n := by unfold pc0; rw [h]
theorem lf_same (j i : Nat) : decide (j = i + 1) = ((j : Int) == (i : Int) + 1) := by
  rw [Bool.eq_iff_iff, decide_eq_true_eq, beq_iff_eq]
  constructor
  · intro h; rw [h]; rfl
  · intro h; omega
theorem placed_res {w4 : World} {R : Nat} {a b c d e f g : Value} {tmps : Array Value} (hR : Bn w4 R [a, b, c, d, e, f, g]) (ht : tmps.getD 4 undef = .pointer (some ⟨R, 0, none⟩)) : (results Try.f31 tmps).run Try.prog w4 = .ok (.agg #[a, b, c, d, e, f, g]) w4 := by
  have ht' : tmps[4]?.getD undef = .pointer (some ⟨R, 0, none⟩) := by simpa using ht
  have c0 := (hR 0 _ rfl).1
  have c1 := (hR 1 _ rfl).1
  have c2 := (hR 2 _ rfl).1
  have c3 := (hR 3 _ rfl).1
  have c4 := (hR 4 _ rfl).1
  have c5 := (hR 5 _ rfl).1
  have c6 := (hR 6 _ rfl).1
  simp [results, Try.results31, go_sem, ht', c0, c1, c2, c3, c4, c5, c6]
set_option maxRecDepth 100000 in
set_option maxHeartbeats 8000000 in
theorem placed_any {ok : Nat → Prop} {w : World} {l : List Nd} {v : Value} {i : Nat} (h : RdNd ok w l v) (h40 : l.length ≤ 40) (hi : i < l.length) :
    Calls Try.prog 31 #[v, .int .i64 (i : Int)] w fun e w' => e = .returned (.agg (ndV (plN l i)).toArray) ∧ Below w.heap.size w w' := by
  obtain ⟨a, cap, rfl, hlc, hcm⟩ := h.form
  unfold maxLen at hcm
  obtain ⟨b, off, rfl, hbl, c0, c1, c2, c3, c4, c5, c6⟩ := nd_at h i hi
  have HC := hidOf h
  obtain ⟨D, hD⟩ : ∃ D, nD l = D := ⟨_, rfl⟩
  obtain ⟨n, hn⟩ : ∃ n, l.length = n := ⟨_, rfl⟩
  obtain ⟨d, hd⟩ : ∃ d, D i = d := ⟨_, rfl⟩
  obtain ⟨pp, hpp⟩ : ∃ p, ppar D d i = p := ⟨_, rfl⟩
  obtain ⟨bb, hbb⟩ : ∃ p, pbeh D d (n - (i + 1)) (i + 1) = p := ⟨_, rfl⟩
  have hpl : ndV (plN l i) = [.string (nAt l i).1, .int .i64 pp, .int .i64 d, .int .i64 (bb : Int), .bool (nAt l i).2.2.1, .bool (nAt l i).2.2.2.1, .bool (decide (bb = i + 1))] := by
    unfold plN ndV
    simp only [hD, hn, hd, hpp, hbb]
  have hbl2 := pbeh_le D d (n - (i + 1)) (i + 1)
  have hplt := ppar_lt D d i
  rw [hbb] at hbl2
  rw [hpp] at hplt
  rw [hpl]
  rw [hn] at hlc h40 hi ⊢
  rw [hD] at c2
  rw [hd] at c2
  have HN : Hid (l.length = n) := hn
  have HD : Hid (nD l = D) := hD
  have HPP : Hid (ppar D d i = pp) := hpp
  have HBB : Hid (pbeh D d (n - (i + 1)) (i + 1) = bb) := hbb
  have HDI : Hid (D i = d) := hd
  generalize (nAt l i).1 = x0 at *
  generalize nP l i = x1 at c1
  generalize nB l i = x3 at c3
  generalize (nAt l i).2.2.1 = x4 at *
  generalize (nAt l i).2.2.2.1 = x5 at *
  generalize nL l i = x6 at c6
  clear hpl h hD hn hd hpp hbb
  have HCE : Hid (∀ (w1 : World) (j : Nat), Below w.heap.size w w1 → j < n → w1.cell? ⟨b, off + j * 7 + 2, none⟩ = some (.int .i64 (D j))) := fun w1 j b1 hj => by
    obtain ⟨b', off', he, hbl', _, _, k2, _⟩ := nd_at HC.out j (by rw [HN.out]; exact hj)
    simp only [Option.some.injEq, Addr.mk.injEq, and_true] at he
    obtain ⟨rfl, rfl⟩ := he
    rw [HD.out] at k2
    exact (b1.cell (p := ⟨b, off + j * 7 + 2, none⟩) hbl').trans k2
  have i1 : (i : Int) < (n : Int) := by omega
  have i2 : (0 : Int) ≤ (i : Int) := by omega
  go_enter Try.func31, Try.ntmps31
  go_upto_region 2 with fail
  have hb0 := ((Below.refl w.heap.size w).alloc (Nat.le_refl _) (.cells #[.string ⟨#[]⟩, .int .i64 0, .int .i64 0, .int .i64 0, .bool false, .bool false, .bool false] 70)).alloc (by simp) (.cells #[.string x0, .int .i64 x1, .int .i64 d, .int .i64 x3, .bool x4, .bool x5, .bool x6] 70)
  have hR0 : Bn ((w.alloc (.cells #[.string ⟨#[]⟩, .int .i64 0, .int .i64 0, .int .i64 0, .bool false, .bool false, .bool false] 70)).alloc (.cells #[.string x0, .int .i64 x1, .int .i64 d, .int .i64 x3, .bool x4, .bool x5, .bool x6] 70)) w.heap.size [.string ⟨#[]⟩, .int .i64 0, .int .i64 0, .int .i64 0, .bool false, .bool false, .bool false] := (Bn.new w [.string ⟨#[]⟩, .int .i64 0, .int .i64 0, .int .i64 0, .bool false, .bool false, .bool false] 70 _ rfl).on ((Below.refl _ _).alloc (Nat.le_refl _) _)
  have hY0 : Bn ((w.alloc (.cells #[.string ⟨#[]⟩, .int .i64 0, .int .i64 0, .int .i64 0, .bool false, .bool false, .bool false] 70)).alloc (.cells #[.string x0, .int .i64 x1, .int .i64 d, .int .i64 x3, .bool x4, .bool x5, .bool x6] 70)) (w.heap.size + 1) [.string x0, .int .i64 x1, .int .i64 d, .int .i64 x3, .bool x4, .bool x5, .bool x6] := Bn.new (w.alloc (.cells #[.string ⟨#[]⟩, .int .i64 0, .int .i64 0, .int .i64 0, .bool false, .bool false, .bool false] 70)) [.string x0, .int .i64 x1, .int .i64 d, .int .i64 x3, .bool x4, .bool x5, .bool x6] 70 _ (by simp)
  generalize ((w.alloc (.cells #[.string ⟨#[]⟩, .int .i64 0, .int .i64 0, .int .i64 0, .bool false, .bool false, .bool false] 70)).alloc (.cells #[.string x0, .int .i64 x1, .int .i64 d, .int .i64 x3, .bool x4, .bool x5, .bool x6] 70)) = w0 at *
  have hY1 := hY0.set (i := 1) (by simp) (.int .i64 ((i : Int) - 1))
  have hR1 := hR0.far (X := w.heap.size + 1) (i := 1) (by omega) (.int .i64 ((i : Int) - 1))
  have hb1 := hb0.setCell (p := ⟨w.heap.size + 1, 1, none⟩) (by simp) (.int .i64 ((i : Int) - 1))
  simp only [List.set_cons_succ, List.set_cons_zero] at hY1
  obtain ⟨g1, f1⟩ := hY0 1 _ rfl
  have hi1 : (0 : Int) ≤ (i : Int) - 1 + 1 := by omega
  clear c0 c1 c2 c3 c4 c5 c6
  go_wp2
  clear g1 f1 hb0 hR0 hY0
  go_loopw [] (fun wr => ∃ k : Nat, k ≤ i ∧ Hid (ppar D d k = pp) ∧ Bn wr (w.heap.size + 1) [.string x0, .int .i64 ((k : Int) - 1), .int .i64 d, .int .i64 x3, .bool x4, .bool x5, .bool x6] ∧ Bn wr w.heap.size [.string ⟨#[]⟩, .int .i64 0, .int .i64 0, .int .i64 0, .bool false, .bool false, .bool false] ∧ Below w.heap.size w wr) (fun wr => (pc0 wr (w.heap.size + 1) 1 + 1).toNat)
  case atStart => exact ⟨i, Nat.le_refl _, HPP, hY1, hR1, hb1⟩
  case round =>
    clear hY1 hR1 hb1
    obtain ⟨k, hk, HK, hY, hR, hb⟩ := hrel
    have hx : (k = 0) ∨ (∃ k', k = k' + 1 ∧ D k' < d) ∨ (∃ k', k = k' + 1 ∧ d ≤ D k') := by
      cases k with
      | zero => exact .inl rfl
      | succ k' =>
        rcases Int.lt_or_le (D k') d with h | h
        · exact .inr (.inl ⟨k', rfl, h⟩)
        · exact .inr (.inr ⟨k', rfl, h⟩)
    rcases hx with rfl | ⟨k', rfl, hlt⟩ | ⟨k', rfl, hge⟩
    · have HP : Hid ((-1 : Int) = pp) := HK
      have hw : ((0 : Nat) : Int) - 1 = (-1 : Int) := by omega
      rw [hw] at hY
      clear HK
      obtain ⟨p, hp⟩ : ∃ p : Int, -1 = p := ⟨_, rfl⟩
      rw [hp] at hY HP
      have i5 : ¬ (0 : Int) ≤ p := by omega
      clear hw hp hk
      obtain ⟨g1, f1⟩ := hY 1 _ rfl
      go_upto_region 3 with fail
      go_quiet (fail)
      have hY : Bn (wr.drewN nq) (w.heap.size + 1) _ := hY
      have hR : Bn (wr.drewN nq) w.heap.size _ := hR
      have hb : Below w.heap.size w (wr.drewN nq) := hb.trans ⟨rfl, rfl, rfl, Nat.le_refl _, fun _ _ => rfl⟩
      clear g1 f1 i5
      generalize wr.drewN nq = wq at *
      obtain ⟨g3, f3⟩ := hY 3 _ rfl
      have hY2 := hY.set (i := 3) (by simp) (.int .i64 ((i : Int) + 1))
      have hR2 := hR.far (X := w.heap.size + 1) (i := 3) (by omega) (.int .i64 ((i : Int) + 1))
      have hb2 := hb.setCell (p := ⟨w.heap.size + 1, 3, none⟩) (by simp) (.int .i64 ((i : Int) + 1))
      simp only [List.set_cons_succ, List.set_cons_zero] at hY2
      go_wp2
      clear g3 f3 hY hR hb
      have ei : ((i + 1 : Nat) : Int) = (i : Int) + 1 := by omega
      go_loopw [] (fun wr => ∃ j : Nat, i + 1 ≤ j ∧ j ≤ n ∧ Hid (pbeh D d (n - j) j = bb) ∧ Bn wr (w.heap.size + 1) [.string x0, .int .i64 p, .int .i64 d, .int .i64 (j : Int), .bool x4, .bool x5, .bool x6] ∧ Bn wr w.heap.size [.string ⟨#[]⟩, .int .i64 0, .int .i64 0, .int .i64 0, .bool false, .bool false, .bool false] ∧ Below w.heap.size w wr) (fun wr => ((n : Int) - pc0 wr (w.heap.size + 1) 3).toNat)
      case atStart => exact ⟨i + 1, Nat.le_refl _, by omega, HBB, by rw [ei]; exact hY2, hR2, hb2⟩
      case round =>
        clear hY2 hR2 hb2 ei
        obtain ⟨j, hj1, hj2, HJ, hY, hR, hb⟩ := hrel
        have hx : (j = n) ∨ (j < n ∧ D j ≤ d) ∨ (j < n ∧ d < D j) := by omega
        rcases hx with hjn | ⟨hjn, hd⟩ | ⟨hjn, hd⟩
        · replace HJ : Hid (j = bb) := by
            have := HJ.out
            rw [hjn, Nat.sub_self] at this
            rw [hjn]; exact this
          have i3 : ¬ (j : Int) < (n : Int) := by omega
          clear hjn
          obtain ⟨g3, f3⟩ := hY 3 _ rfl
          go_upto_region 6 with fail
          go_quiet (fail)
          have hY : Bn (wr.drewN nq) (w.heap.size + 1) _ := hY
          have hR : Bn (wr.drewN nq) w.heap.size _ := hR
          have hb : Below w.heap.size w (wr.drewN nq) := hb.trans ⟨rfl, rfl, rfl, Nat.le_refl _, fun _ _ => rfl⟩
          clear g3 f3
          generalize wr.drewN nq = wq at *
          obtain ⟨g0, f0⟩ := hY 0 _ rfl
          obtain ⟨g1, f1⟩ := hY 1 _ rfl
          obtain ⟨g2, f2⟩ := hY 2 _ rfl
          obtain ⟨g3, f3⟩ := hY 3 _ rfl
          obtain ⟨g4, f4⟩ := hY 4 _ rfl
          obtain ⟨g5, f5⟩ := hY 5 _ rfl
          obtain ⟨g6, f6⟩ := hY 6 _ rfl
          obtain ⟨L, hL⟩ : ∃ L, ((j : Int) == (i : Int) + 1) = L := ⟨_, rfl⟩
          have HL : Hid (decide (bb = i + 1) = L) := by
            rw [← hL, ← HJ.out]
            exact lf_same j i
          go_upto_region 9 with fail
          have hY3 := hY.set (i := 6) (by simp) (.bool L)
          have hR3 := hR.far (X := w.heap.size + 1) (i := 6) (by omega) (.bool L)
          have hb3 := hb.setCell (p := ⟨w.heap.size + 1, 6, none⟩) (by simp) (.bool L)
          simp only [List.set_cons_succ, List.set_cons_zero] at hY3
          clear g0 f0 g1 f1 g2 f2 g3 f3 g4 f4 g5 f5 g6 f6 hY hR hb hL
          generalize wq.setCell ⟨w.heap.size + 1, 6, none⟩ (.bool L) = wz at *
          obtain ⟨g0, f0⟩ := hY3 0 _ rfl
          obtain ⟨g1, f1⟩ := hY3 1 _ rfl
          obtain ⟨g2, f2⟩ := hY3 2 _ rfl
          obtain ⟨g3, f3⟩ := hY3 3 _ rfl
          obtain ⟨g4, f4⟩ := hY3 4 _ rfl
          obtain ⟨g5, f5⟩ := hY3 5 _ rfl
          obtain ⟨g6, f6⟩ := hY3 6 _ rfl
          obtain ⟨r0, q0⟩ := hR3 0 _ rfl
          obtain ⟨r1, q1⟩ := hR3 1 _ rfl
          obtain ⟨r2, q2⟩ := hR3 2 _ rfl
          obtain ⟨r3, q3⟩ := hR3 3 _ rfl
          obtain ⟨r4, q4⟩ := hR3 4 _ rfl
          obtain ⟨r5, q5⟩ := hR3 5 _ rfl
          obtain ⟨r6, q6⟩ := hR3 6 _ rfl
          have hR2 := ((((((hR3.set (i := 0) (by simp) (.string x0)).set (i := 1) (by simp) (.int .i64 p)).set (i := 2) (by simp) (.int .i64 d)).set (i := 3) (by simp) (.int .i64 (j : Int))).set (i := 4) (by simp) (.bool x4)).set (i := 5) (by simp) (.bool x5)).set (i := 6) (by simp) (.bool L)
          have hb2 := putL_below [.string x0, .int .i64 p, .int .i64 d, .int .i64 (j : Int), .bool x4, .bool x5, .bool L] wz w.heap.size 0 hb3 (Nat.le_refl _)
          go_wp2
          exact bodyPost_ret (placed_res hR2 rfl) rfl ⟨by rw [HL.out, ← HJ.out, ← HP.out], hb2⟩

        · have e := HCE.out wr j hb hjn
          replace HJ : Hid (j = bb) := by
            have := HJ.out
            have h1 : n - j = (n - j - 1) + 1 := by omega
            rw [h1, pbeh, if_neg (by omega)] at this
            exact this
          have i3 : (j : Int) < (n : Int) := by omega
          have i4 : (0 : Int) ≤ (j : Int) := by omega
          obtain ⟨g3, f3⟩ := hY 3 _ rfl
          obtain ⟨g2, _⟩ := hY 2 _ rfl
          obtain ⟨q, hq⟩ : ∃ q, D j = q := ⟨_, rfl⟩
          rw [hq] at e hd
          have i5 : ¬ d < q := by omega
          clear hq
          go_upto_region 6 with fail
          go_quiet (fail)
          have hY : Bn (wr.drewN nq) (w.heap.size + 1) _ := hY
          have hR : Bn (wr.drewN nq) w.heap.size _ := hR
          have hb : Below w.heap.size w (wr.drewN nq) := hb.trans ⟨rfl, rfl, rfl, Nat.le_refl _, fun _ _ => rfl⟩
          clear g3 f3 e g2
          generalize wr.drewN nq = wq at *
          obtain ⟨g0, f0⟩ := hY 0 _ rfl
          obtain ⟨g1, f1⟩ := hY 1 _ rfl
          obtain ⟨g2, f2⟩ := hY 2 _ rfl
          obtain ⟨g3, f3⟩ := hY 3 _ rfl
          obtain ⟨g4, f4⟩ := hY 4 _ rfl
          obtain ⟨g5, f5⟩ := hY 5 _ rfl
          obtain ⟨g6, f6⟩ := hY 6 _ rfl
          obtain ⟨L, hL⟩ : ∃ L, ((j : Int) == (i : Int) + 1) = L := ⟨_, rfl⟩
          have HL : Hid (decide (bb = i + 1) = L) := by
            rw [← hL, ← HJ.out]
            exact lf_same j i
          go_upto_region 9 with fail
          have hY3 := hY.set (i := 6) (by simp) (.bool L)
          have hR3 := hR.far (X := w.heap.size + 1) (i := 6) (by omega) (.bool L)
          have hb3 := hb.setCell (p := ⟨w.heap.size + 1, 6, none⟩) (by simp) (.bool L)
          simp only [List.set_cons_succ, List.set_cons_zero] at hY3
          clear g0 f0 g1 f1 g2 f2 g3 f3 g4 f4 g5 f5 g6 f6 hY hR hb hL
          generalize wq.setCell ⟨w.heap.size + 1, 6, none⟩ (.bool L) = wz at *
          obtain ⟨g0, f0⟩ := hY3 0 _ rfl
          obtain ⟨g1, f1⟩ := hY3 1 _ rfl
          obtain ⟨g2, f2⟩ := hY3 2 _ rfl
          obtain ⟨g3, f3⟩ := hY3 3 _ rfl
          obtain ⟨g4, f4⟩ := hY3 4 _ rfl
          obtain ⟨g5, f5⟩ := hY3 5 _ rfl
          obtain ⟨g6, f6⟩ := hY3 6 _ rfl
          obtain ⟨r0, q0⟩ := hR3 0 _ rfl
          obtain ⟨r1, q1⟩ := hR3 1 _ rfl
          obtain ⟨r2, q2⟩ := hR3 2 _ rfl
          obtain ⟨r3, q3⟩ := hR3 3 _ rfl
          obtain ⟨r4, q4⟩ := hR3 4 _ rfl
          obtain ⟨r5, q5⟩ := hR3 5 _ rfl
          obtain ⟨r6, q6⟩ := hR3 6 _ rfl
          have hR2 := ((((((hR3.set (i := 0) (by simp) (.string x0)).set (i := 1) (by simp) (.int .i64 p)).set (i := 2) (by simp) (.int .i64 d)).set (i := 3) (by simp) (.int .i64 (j : Int))).set (i := 4) (by simp) (.bool x4)).set (i := 5) (by simp) (.bool x5)).set (i := 6) (by simp) (.bool L)
          have hb2 := putL_below [.string x0, .int .i64 p, .int .i64 d, .int .i64 (j : Int), .bool x4, .bool x5, .bool L] wz w.heap.size 0 hb3 (Nat.le_refl _)
          go_wp2
          exact bodyPost_ret (placed_res hR2 rfl) rfl ⟨by rw [HL.out, ← HJ.out, ← HP.out], hb2⟩

        · have e := HCE.out wr j hb hjn
          replace HJ : Hid (pbeh D d (n - (j + 1)) (j + 1) = bb) := by
            have := HJ.out
            have h1 : n - j = (n - (j + 1)) + 1 := by omega
            rw [h1, pbeh, if_pos hd] at this
            exact this
          have i3 : (j : Int) < (n : Int) := by omega
          have i4 : (0 : Int) ≤ (j : Int) := by omega
          obtain ⟨g3, f3⟩ := hY 3 _ rfl
          obtain ⟨g2, _⟩ := hY 2 _ rfl
          obtain ⟨q, hq⟩ : ∃ q, D j = q := ⟨_, rfl⟩
          rw [hq] at e hd
          have hm := pc0_of g3
          clear hq
          go_upto_region 6 with fail
          go_quiet (fail)
          have hY : Bn (wr.drewN nq) (w.heap.size + 1) _ := hY
          have hR : Bn (wr.drewN nq) w.heap.size _ := hR
          have hb : Below w.heap.size w (wr.drewN nq) := hb.trans ⟨rfl, rfl, rfl, Nat.le_refl _, fun _ _ => rfl⟩
          have g3 : (wr.drewN nq).cell? ⟨w.heap.size + 1, 3, none⟩ = some (.int .i64 (j : Int)) := g3
          have f3 : (wr.drewN nq).frozen? ⟨w.heap.size + 1, 3, none⟩ = false := f3
          clear e g2
          generalize wr.drewN nq = wq at *
          have hY2 := hY.set (i := 3) (by simp) (.int .i64 ((j : Int) + 1))
          have hR2 := hR.far (X := w.heap.size + 1) (i := 3) (by omega) (.int .i64 ((j : Int) + 1))
          have hb2 := hb.setCell (p := ⟨w.heap.size + 1, 3, none⟩) (by simp) (.int .i64 ((j : Int) + 1))
          simp only [List.set_cons_succ, List.set_cons_zero] at hY2
          have hm2 := pc0_of (hY2 3 _ rfl).1
          have ej : ((j + 1 : Nat) : Int) = (j : Int) + 1 := by omega
          have HEJ : Hid (((j + 1 : Nat) : Int) = (j : Int) + 1) := ej
          clear ej
          go_wp2
          go_roundw
          case rel => exact ⟨j + 1, by omega, hjn, HJ, by rw [HEJ.out]; exact hY2, hR2, hb2⟩
          case measure => rw [hm, hm2]; omega

    · have hw : ((k' + 1 : Nat) : Int) - 1 = (k' : Int) := by omega
      rw [hw] at hY
      have e := HCE.out wr k' hb (by omega)
      have HP : Hid ((k' : Int) = pp) := by rw [← HK.out]; show _ = ppar D d (k' + 1); unfold ppar; rw [if_pos hlt]
      clear HK
      obtain ⟨g1, f1⟩ := hY 1 _ rfl
      obtain ⟨g2, _⟩ := hY 2 _ rfl
      have i3 : (k' : Int) < (n : Int) := by omega
      have i4 : (0 : Int) ≤ (k' : Int) := by omega
      obtain ⟨q, hq⟩ : ∃ q, D k' = q := ⟨_, rfl⟩
      have i5 : ¬ d ≤ q := by omega
      rw [hq] at e
      clear hq hlt hw
      go_upto_region 3 with fail
      go_quiet (fail)
      have hY : Bn (wr.drewN nq) (w.heap.size + 1) _ := hY
      have hR : Bn (wr.drewN nq) w.heap.size _ := hR
      have hb : Below w.heap.size w (wr.drewN nq) := hb.trans ⟨rfl, rfl, rfl, Nat.le_refl _, fun _ _ => rfl⟩
      clear e g1 f1 g2 i3 i4 i5 hk
      generalize wr.drewN nq = wq at *
      generalize (k' : Int) = p at *
      obtain ⟨g3, f3⟩ := hY 3 _ rfl
      have hY2 := hY.set (i := 3) (by simp) (.int .i64 ((i : Int) + 1))
      have hR2 := hR.far (X := w.heap.size + 1) (i := 3) (by omega) (.int .i64 ((i : Int) + 1))
      have hb2 := hb.setCell (p := ⟨w.heap.size + 1, 3, none⟩) (by simp) (.int .i64 ((i : Int) + 1))
      simp only [List.set_cons_succ, List.set_cons_zero] at hY2
      go_wp2
      clear g3 f3 hY hR hb
      have ei : ((i + 1 : Nat) : Int) = (i : Int) + 1 := by omega
      go_loopw [] (fun wr => ∃ j : Nat, i + 1 ≤ j ∧ j ≤ n ∧ Hid (pbeh D d (n - j) j = bb) ∧ Bn wr (w.heap.size + 1) [.string x0, .int .i64 p, .int .i64 d, .int .i64 (j : Int), .bool x4, .bool x5, .bool x6] ∧ Bn wr w.heap.size [.string ⟨#[]⟩, .int .i64 0, .int .i64 0, .int .i64 0, .bool false, .bool false, .bool false] ∧ Below w.heap.size w wr) (fun wr => ((n : Int) - pc0 wr (w.heap.size + 1) 3).toNat)
      case atStart => exact ⟨i + 1, Nat.le_refl _, by omega, HBB, by rw [ei]; exact hY2, hR2, hb2⟩
      case round =>
        clear hY2 hR2 hb2 ei
        obtain ⟨j, hj1, hj2, HJ, hY, hR, hb⟩ := hrel
        have hx : (j = n) ∨ (j < n ∧ D j ≤ d) ∨ (j < n ∧ d < D j) := by omega
        rcases hx with hjn | ⟨hjn, hd⟩ | ⟨hjn, hd⟩
        · replace HJ : Hid (j = bb) := by
            have := HJ.out
            rw [hjn, Nat.sub_self] at this
            rw [hjn]; exact this
          have i3 : ¬ (j : Int) < (n : Int) := by omega
          clear hjn
          obtain ⟨g3, f3⟩ := hY 3 _ rfl
          go_upto_region 6 with fail
          go_quiet (fail)
          have hY : Bn (wr.drewN nq) (w.heap.size + 1) _ := hY
          have hR : Bn (wr.drewN nq) w.heap.size _ := hR
          have hb : Below w.heap.size w (wr.drewN nq) := hb.trans ⟨rfl, rfl, rfl, Nat.le_refl _, fun _ _ => rfl⟩
          clear g3 f3
          generalize wr.drewN nq = wq at *
          obtain ⟨g0, f0⟩ := hY 0 _ rfl
          obtain ⟨g1, f1⟩ := hY 1 _ rfl
          obtain ⟨g2, f2⟩ := hY 2 _ rfl
          obtain ⟨g3, f3⟩ := hY 3 _ rfl
          obtain ⟨g4, f4⟩ := hY 4 _ rfl
          obtain ⟨g5, f5⟩ := hY 5 _ rfl
          obtain ⟨g6, f6⟩ := hY 6 _ rfl
          obtain ⟨L, hL⟩ : ∃ L, ((j : Int) == (i : Int) + 1) = L := ⟨_, rfl⟩
          have HL : Hid (decide (bb = i + 1) = L) := by
            rw [← hL, ← HJ.out]
            exact lf_same j i
          go_upto_region 9 with fail
          have hY3 := hY.set (i := 6) (by simp) (.bool L)
          have hR3 := hR.far (X := w.heap.size + 1) (i := 6) (by omega) (.bool L)
          have hb3 := hb.setCell (p := ⟨w.heap.size + 1, 6, none⟩) (by simp) (.bool L)
          simp only [List.set_cons_succ, List.set_cons_zero] at hY3
          clear g0 f0 g1 f1 g2 f2 g3 f3 g4 f4 g5 f5 g6 f6 hY hR hb hL
          generalize wq.setCell ⟨w.heap.size + 1, 6, none⟩ (.bool L) = wz at *
          obtain ⟨g0, f0⟩ := hY3 0 _ rfl
          obtain ⟨g1, f1⟩ := hY3 1 _ rfl
          obtain ⟨g2, f2⟩ := hY3 2 _ rfl
          obtain ⟨g3, f3⟩ := hY3 3 _ rfl
          obtain ⟨g4, f4⟩ := hY3 4 _ rfl
          obtain ⟨g5, f5⟩ := hY3 5 _ rfl
          obtain ⟨g6, f6⟩ := hY3 6 _ rfl
          obtain ⟨r0, q0⟩ := hR3 0 _ rfl
          obtain ⟨r1, q1⟩ := hR3 1 _ rfl
          obtain ⟨r2, q2⟩ := hR3 2 _ rfl
          obtain ⟨r3, q3⟩ := hR3 3 _ rfl
          obtain ⟨r4, q4⟩ := hR3 4 _ rfl
          obtain ⟨r5, q5⟩ := hR3 5 _ rfl
          obtain ⟨r6, q6⟩ := hR3 6 _ rfl
          have hR2 := ((((((hR3.set (i := 0) (by simp) (.string x0)).set (i := 1) (by simp) (.int .i64 p)).set (i := 2) (by simp) (.int .i64 d)).set (i := 3) (by simp) (.int .i64 (j : Int))).set (i := 4) (by simp) (.bool x4)).set (i := 5) (by simp) (.bool x5)).set (i := 6) (by simp) (.bool L)
          have hb2 := putL_below [.string x0, .int .i64 p, .int .i64 d, .int .i64 (j : Int), .bool x4, .bool x5, .bool L] wz w.heap.size 0 hb3 (Nat.le_refl _)
          go_wp2
          exact bodyPost_ret (placed_res hR2 rfl) rfl ⟨by rw [HL.out, ← HJ.out, ← HP.out], hb2⟩

        · have e := HCE.out wr j hb hjn
          replace HJ : Hid (j = bb) := by
            have := HJ.out
            have h1 : n - j = (n - j - 1) + 1 := by omega
            rw [h1, pbeh, if_neg (by omega)] at this
            exact this
          have i3 : (j : Int) < (n : Int) := by omega
          have i4 : (0 : Int) ≤ (j : Int) := by omega
          obtain ⟨g3, f3⟩ := hY 3 _ rfl
          obtain ⟨g2, _⟩ := hY 2 _ rfl
          obtain ⟨q, hq⟩ : ∃ q, D j = q := ⟨_, rfl⟩
          rw [hq] at e hd
          have i5 : ¬ d < q := by omega
          clear hq
          go_upto_region 6 with fail
          go_quiet (fail)
          have hY : Bn (wr.drewN nq) (w.heap.size + 1) _ := hY
          have hR : Bn (wr.drewN nq) w.heap.size _ := hR
          have hb : Below w.heap.size w (wr.drewN nq) := hb.trans ⟨rfl, rfl, rfl, Nat.le_refl _, fun _ _ => rfl⟩
          clear g3 f3 e g2
          generalize wr.drewN nq = wq at *
          obtain ⟨g0, f0⟩ := hY 0 _ rfl
          obtain ⟨g1, f1⟩ := hY 1 _ rfl
          obtain ⟨g2, f2⟩ := hY 2 _ rfl
          obtain ⟨g3, f3⟩ := hY 3 _ rfl
          obtain ⟨g4, f4⟩ := hY 4 _ rfl
          obtain ⟨g5, f5⟩ := hY 5 _ rfl
          obtain ⟨g6, f6⟩ := hY 6 _ rfl
          obtain ⟨L, hL⟩ : ∃ L, ((j : Int) == (i : Int) + 1) = L := ⟨_, rfl⟩
          have HL : Hid (decide (bb = i + 1) = L) := by
            rw [← hL, ← HJ.out]
            exact lf_same j i
          go_upto_region 9 with fail
          have hY3 := hY.set (i := 6) (by simp) (.bool L)
          have hR3 := hR.far (X := w.heap.size + 1) (i := 6) (by omega) (.bool L)
          have hb3 := hb.setCell (p := ⟨w.heap.size + 1, 6, none⟩) (by simp) (.bool L)
          simp only [List.set_cons_succ, List.set_cons_zero] at hY3
          clear g0 f0 g1 f1 g2 f2 g3 f3 g4 f4 g5 f5 g6 f6 hY hR hb hL
          generalize wq.setCell ⟨w.heap.size + 1, 6, none⟩ (.bool L) = wz at *
          obtain ⟨g0, f0⟩ := hY3 0 _ rfl
          obtain ⟨g1, f1⟩ := hY3 1 _ rfl
          obtain ⟨g2, f2⟩ := hY3 2 _ rfl
          obtain ⟨g3, f3⟩ := hY3 3 _ rfl
          obtain ⟨g4, f4⟩ := hY3 4 _ rfl
          obtain ⟨g5, f5⟩ := hY3 5 _ rfl
          obtain ⟨g6, f6⟩ := hY3 6 _ rfl
          obtain ⟨r0, q0⟩ := hR3 0 _ rfl
          obtain ⟨r1, q1⟩ := hR3 1 _ rfl
          obtain ⟨r2, q2⟩ := hR3 2 _ rfl
          obtain ⟨r3, q3⟩ := hR3 3 _ rfl
          obtain ⟨r4, q4⟩ := hR3 4 _ rfl
          obtain ⟨r5, q5⟩ := hR3 5 _ rfl
          obtain ⟨r6, q6⟩ := hR3 6 _ rfl
          have hR2 := ((((((hR3.set (i := 0) (by simp) (.string x0)).set (i := 1) (by simp) (.int .i64 p)).set (i := 2) (by simp) (.int .i64 d)).set (i := 3) (by simp) (.int .i64 (j : Int))).set (i := 4) (by simp) (.bool x4)).set (i := 5) (by simp) (.bool x5)).set (i := 6) (by simp) (.bool L)
          have hb2 := putL_below [.string x0, .int .i64 p, .int .i64 d, .int .i64 (j : Int), .bool x4, .bool x5, .bool L] wz w.heap.size 0 hb3 (Nat.le_refl _)
          go_wp2
          exact bodyPost_ret (placed_res hR2 rfl) rfl ⟨by rw [HL.out, ← HJ.out, ← HP.out], hb2⟩

        · have e := HCE.out wr j hb hjn
          replace HJ : Hid (pbeh D d (n - (j + 1)) (j + 1) = bb) := by
            have := HJ.out
            have h1 : n - j = (n - (j + 1)) + 1 := by omega
            rw [h1, pbeh, if_pos hd] at this
            exact this
          have i3 : (j : Int) < (n : Int) := by omega
          have i4 : (0 : Int) ≤ (j : Int) := by omega
          obtain ⟨g3, f3⟩ := hY 3 _ rfl
          obtain ⟨g2, _⟩ := hY 2 _ rfl
          obtain ⟨q, hq⟩ : ∃ q, D j = q := ⟨_, rfl⟩
          rw [hq] at e hd
          have hm := pc0_of g3
          clear hq
          go_upto_region 6 with fail
          go_quiet (fail)
          have hY : Bn (wr.drewN nq) (w.heap.size + 1) _ := hY
          have hR : Bn (wr.drewN nq) w.heap.size _ := hR
          have hb : Below w.heap.size w (wr.drewN nq) := hb.trans ⟨rfl, rfl, rfl, Nat.le_refl _, fun _ _ => rfl⟩
          have g3 : (wr.drewN nq).cell? ⟨w.heap.size + 1, 3, none⟩ = some (.int .i64 (j : Int)) := g3
          have f3 : (wr.drewN nq).frozen? ⟨w.heap.size + 1, 3, none⟩ = false := f3
          clear e g2
          generalize wr.drewN nq = wq at *
          have hY2 := hY.set (i := 3) (by simp) (.int .i64 ((j : Int) + 1))
          have hR2 := hR.far (X := w.heap.size + 1) (i := 3) (by omega) (.int .i64 ((j : Int) + 1))
          have hb2 := hb.setCell (p := ⟨w.heap.size + 1, 3, none⟩) (by simp) (.int .i64 ((j : Int) + 1))
          simp only [List.set_cons_succ, List.set_cons_zero] at hY2
          have hm2 := pc0_of (hY2 3 _ rfl).1
          have ej : ((j + 1 : Nat) : Int) = (j : Int) + 1 := by omega
          have HEJ : Hid (((j + 1 : Nat) : Int) = (j : Int) + 1) := ej
          clear ej
          go_wp2
          go_roundw
          case rel => exact ⟨j + 1, by omega, hjn, HJ, by rw [HEJ.out]; exact hY2, hR2, hb2⟩
          case measure => rw [hm, hm2]; omega

    · have hw : ((k' + 1 : Nat) : Int) - 1 = (k' : Int) := by omega
      rw [hw] at hY
      have e := HCE.out wr k' hb (by omega)
      have HP : Hid (ppar D d k' = pp) := by rw [← HK.out]; show _ = ppar D d (k' + 1); rw [ppar, if_neg (by omega)]
      clear HK
      obtain ⟨g1, f1⟩ := hY 1 _ rfl
      obtain ⟨g2, _⟩ := hY 2 _ rfl
      have i3 : (k' : Int) < (n : Int) := by omega
      have i4 : (0 : Int) ≤ (k' : Int) := by omega
      obtain ⟨q, hq⟩ : ∃ q, D k' = q := ⟨_, rfl⟩
      rw [hq] at e hge
      have hm := pc0_of g1
      clear hq hw
      go_upto_region 3 with fail
      go_quiet (fail)
      have hY : Bn (wr.drewN nq) (w.heap.size + 1) _ := hY
      have hR : Bn (wr.drewN nq) w.heap.size _ := hR
      have hb : Below w.heap.size w (wr.drewN nq) := hb.trans ⟨rfl, rfl, rfl, Nat.le_refl _, fun _ _ => rfl⟩
      have g1 : (wr.drewN nq).cell? ⟨w.heap.size + 1, 1, none⟩ = some (.int .i64 (k' : Int)) := g1
      have f1 : (wr.drewN nq).frozen? ⟨w.heap.size + 1, 1, none⟩ = false := f1
      clear e g2 i3 hge
      generalize wr.drewN nq = wq at *
      have hY2 := hY.set (i := 1) (by simp) (.int .i64 ((k' : Int) - 1))
      have hR2 := hR.far (X := w.heap.size + 1) (i := 1) (by omega) (.int .i64 ((k' : Int) - 1))
      have hb2 := hb.setCell (p := ⟨w.heap.size + 1, 1, none⟩) (by simp) (.int .i64 ((k' : Int) - 1))
      simp only [List.set_cons_succ, List.set_cons_zero] at hY2
      have hm2 := pc0_of (hY2 1 _ rfl).1
      go_wp2
      go_roundw
      case rel => exact ⟨k', by omega, HP, hY2, hR2, hb2⟩
      case measure => rw [hm, hm2]; omega
end Go.Proofs.Ytdekboacjjpjeaa
