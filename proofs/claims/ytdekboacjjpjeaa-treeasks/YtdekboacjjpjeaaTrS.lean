
/- What the program's Formed, numbered, liesIn answer. -/
import Derived.Test.YtdekboacjjpjeaaTrQ
namespace Go.Proofs.Ytdekboacjjpjeaa
open Go.RowKit Go.Lib
set_option linter.unusedSimpArgs false
set_option linter.unusedVariables false
attribute [local go_sem ↓] Go.wp_at_zero Go.wp_at_succ

theorem nd_ext {n m : Nd} (h1 : n.1 = m.1) (h2 : n.2.1.1 = m.2.1.1) (h3 : n.2.1.2.1 = m.2.1.2.1) (h4 : n.2.1.2.2 = m.2.1.2.2) (h5 : n.2.2.1 = m.2.2.1) (h6 : n.2.2.2.1 = m.2.2.2.1) (h7 : n.2.2.2.2 = m.2.2.2.2) : n = m := by
  obtain ⟨a, ⟨b, c, d⟩, e, f, g⟩ := n
  obtain ⟨a', ⟨b', c', d'⟩, e', f', g'⟩ := m
  simp only at h1 h2 h3 h4 h5 h6 h7
  subst h1 h2 h3 h4 h5 h6 h7
  rfl
theorem fm_placed (l : List Nd) : FmP l.length (nD l) (nP l) (nB l) (nL l) ↔ (l.length ≤ 40 ∧ nst (nD l) l.length ∧ ∀ i < l.length, nAt l i = plN l i) := by
  unfold FmP
  refine and_congr Iff.rfl (and_congr Iff.rfl ⟨fun h i hi => ?_, fun h i hi => ?_⟩)
  · obtain ⟨h1, h2, h3⟩ := h i hi
    refine nd_ext rfl h1 rfl h2 rfl rfl ?_
    show nL l i = decide (pbeh (nD l) (nD l i) (l.length - (i + 1)) (i + 1) = i + 1)
    rw [h3, h2, lf_same, Bool.eq_iff_iff, decide_eq_true_eq, beq_iff_eq]
  · have e := h i hi
    have h1 : nP l i = (plN l i).2.1.1 := by unfold nP; rw [e]
    have h2 : nB l i = (plN l i).2.1.2.2 := by unfold nB; rw [e]
    have h3 : nL l i = (plN l i).2.2.2.2 := by unfold nL; rw [e]
    refine ⟨h1, h2, h3.trans ?_⟩
    show decide (pbeh (nD l) (nD l i) (l.length - (i + 1)) (i + 1) = i + 1) = _
    rw [h2]
    show _ = decide (((pbeh (nD l) (nD l i) (l.length - (i + 1)) (i + 1) : Nat) : Int) = (i : Int) + 1)
    rw [lf_same, Bool.eq_iff_iff, decide_eq_true_eq, beq_iff_eq]
set_option maxRecDepth 100000 in
set_option maxHeartbeats 8000000 in
theorem formed_any {ok : Nat → Prop} {w : World} {l : List Nd} {v : Value} (h : RdNd ok w l v) :
    Calls Try.prog 13 #[v] w fun e w' => e = .returned (.bool (fmB l)) ∧ Below w.heap.size w w' := by
  obtain ⟨a, cap, rfl, hlc, hcm⟩ := h.form
  unfold maxLen at hcm
  obtain ⟨V, hV⟩ : ∃ V, fmB l = V := ⟨_, rfl⟩
  rw [hV]
  have HV : Hid (fmB l = V) := hV
  have HC := hidOf h
  have hF : ¬ (l.length ≤ 40 ∧ nst (nD l) l.length ∧ ∀ i < l.length, nAt l i = plN l i) → V = false := fun h => by
    rw [← HV.out]
    unfold fmB
    rw [decide_eq_false]
    exact fun h2 => h ((fm_placed l).1 h2)
  have hT : (l.length ≤ 40 ∧ nst (nD l) l.length ∧ ∀ i < l.length, nAt l i = plN l i) → V = true := fun h => by
    rw [← HV.out]
    unfold fmB
    rw [decide_eq_true]
    exact (fm_placed l).2 h
  have hne := fun (h40 : l.length ≤ 40) w1 (b1 : Below w.heap.size w w1) => nested_any (h.stay kp_nd (ok' := ok) (w' := w1) (fun k hk hl => ⟨hk, b1.block k hl⟩)) h40
  obtain ⟨n, hn⟩ : ∃ n, l.length = n := ⟨_, rfl⟩
  rw [hn] at hlc hF hT hne ⊢
  have HN : Hid (l.length = n) := hn
  have HT := hidOf hT
  have HF := hidOf hF
  clear h hV hn hT hF
  by_cases h40 : 40 < n
  · have hF := HF.out (fun h => by omega)
    subst hF
    have i0 : (40 : Int) < (n : Int) := by omega
    clear hne
    go_enter Try.func13, Try.ntmps13
    go_wp2
    go_ret
    exact ⟨rfl, Below.refl _ _⟩
  have i0 : ¬ (40 : Int) < (n : Int) := by omega
  have hne := fun w1 b1 => hne (by omega) w1 b1
  obtain ⟨NS, hNS⟩ : ∃ x, nsB l = x := ⟨_, rfl⟩
  rw [hNS] at hne
  cases NS with
  | false =>
    have hF := HF.out (fun h => by
      unfold nsB at hNS
      rw [HN.out] at hNS
      exact absurd h.2.1 (of_decide_eq_false hNS))
    subst hF
    clear hNS
    go_enter Try.func13, Try.ntmps13
    go_wp2_with (first | (go_at_call 33; refine (hne _ (Below.refl _ _)).mono ?_; rintro e w1 ⟨rfl, b1⟩) | fail)
    go_ret
    exact ⟨rfl, b1⟩
  | true =>
    have hns2 : nst (nD l) n := by
      unfold nsB at hNS
      rw [HN.out] at hNS
      exact of_decide_eq_true hNS
    have HNS := hidOf hns2
    clear hns2
    clear hNS
    go_enter Try.func13, Try.ntmps13
    go_wp2_with (first | (go_at_call 33; refine (hne _ (Below.refl _ _)).mono ?_; rintro e w1 ⟨rfl, b1⟩) | fail)
    clear hne
    go_loopw [14] (fun ix wr => ∃ (j : Nat), j ≤ n ∧ ix = .int .i64 (j : Int) ∧ Hid (∀ i < j, nAt l i = plN l i) ∧ Below w.heap.size w wr) (fun ix _ => n - (RowKit.intOf ix).toNat)
    case atStart => exact ⟨0, Nat.zero_le _, rfl, fun i hi => by omega, b1⟩
    case round =>
      clear b1
      obtain ⟨j, hj, rfl, HI, hb⟩ := hrel
      by_cases hlt : j < n
      · have hpl := fun w1 (b1 : Below wr.heap.size wr w1) => placed_any (HC.out.stay kp_nd (ok' := ok) (w' := w1) (fun k hk hl => ⟨hk, (b1.block k (Nat.lt_of_lt_of_le hl hb.size)).trans (hb.block k hl)⟩)) (by rw [HN.out]; omega) (i := j) (by rw [HN.out]; exact hlt)
        obtain ⟨b, off, rfl, hbl, c0, c1, c2, c3, c4, c5, c6⟩ := nd_at HC.out j (by rw [HN.out]; exact hlt)
        rw [HN.out] at hpl
        have hcx : ∀ (w1 : World) (p : Addr), Below wr.heap.size wr w1 → p.block = b → w1.cell? p = w.cell? p := fun w1 p h1 hp => ((h1.cell (p := p) (by rw [hp]; exact Nat.lt_of_lt_of_le hbl hb.size)).trans (hb.cell (p := p) (by rw [hp]; exact hbl)))
        have HCX := hidOf hcx
        replace c0 := (hb.cell (p := ⟨b, off + j * 7, none⟩) hbl).trans c0
        replace c1 := (hb.cell (p := ⟨b, off + j * 7 + 1, none⟩) hbl).trans c1
        replace c2 := (hb.cell (p := ⟨b, off + j * 7 + 2, none⟩) hbl).trans c2
        replace c3 := (hb.cell (p := ⟨b, off + j * 7 + 3, none⟩) hbl).trans c3
        replace c4 := (hb.cell (p := ⟨b, off + j * 7 + 4, none⟩) hbl).trans c4
        replace c5 := (hb.cell (p := ⟨b, off + j * 7 + 5, none⟩) hbl).trans c5
        replace c6 := (hb.cell (p := ⟨b, off + j * 7 + 6, none⟩) hbl).trans c6
        have e0 : (plN l j).1 = (nAt l j).1 := rfl
        have e2 : (plN l j).2.1.2.1 = nD l j := rfl
        have e4 : (plN l j).2.2.1 = (nAt l j).2.2.1 := rfl
        have e5 : (plN l j).2.2.2.1 = (nAt l j).2.2.2.1 := rfl
        have hpv : ndV (plN l j) = [.string (nAt l j).1, .int .i64 (plN l j).2.1.1, .int .i64 (nD l j), .int .i64 (plN l j).2.1.2.2, .bool (nAt l j).2.2.1, .bool (nAt l j).2.2.2.1, .bool (plN l j).2.2.2.2] := rfl
        rw [hpv] at hpl
        have HE : Hid ((nAt l j = plN l j) ↔ (nP l j = (plN l j).2.1.1 ∧ nB l j = (plN l j).2.1.2.2 ∧ nL l j = (plN l j).2.2.2.2)) := by
          constructor
          · intro h
            unfold nP nB nL
            rw [← h]
            exact ⟨rfl, rfl, rfl⟩
          · rintro ⟨h1, h2, h3⟩
            exact nd_ext rfl h1 rfl h2 rfl rfl h3
        have hcases : ((nP l j == (plN l j).2.1.1) = false ∧ ¬ (nAt l j = plN l j)) ∨ (nP l j = (plN l j).2.1.1 ∧ (nB l j == (plN l j).2.1.2.2) = false ∧ ¬ (nAt l j = plN l j)) ∨ (nP l j = (plN l j).2.1.1 ∧ nB l j = (plN l j).2.1.2.2 ∧ (nL l j == (plN l j).2.2.2.2) = false ∧ ¬ (nAt l j = plN l j)) ∨ (nP l j = (plN l j).2.1.1 ∧ nB l j = (plN l j).2.1.2.2 ∧ nL l j = (plN l j).2.2.2.2 ∧ (nAt l j = plN l j)) := by
          by_cases h1 : nP l j = (plN l j).2.1.1
          · by_cases h2 : nB l j = (plN l j).2.1.2.2
            · by_cases h3 : nL l j = (plN l j).2.2.2.2
              · exact .inr (.inr (.inr ⟨h1, h2, h3, HE.out.2 ⟨h1, h2, h3⟩⟩))
              · exact .inr (.inr (.inl ⟨h1, h2, beq_eq_false_iff_ne.2 h3, fun h => h3 (HE.out.1 h).2.2⟩))
            · exact .inr (.inl ⟨h1, beq_eq_false_iff_ne.2 h2, fun h => h2 (HE.out.1 h).2.1⟩)
          · exact .inl ⟨beq_eq_false_iff_ne.2 h1, fun h => h1 (HE.out.1 h).1⟩
        have HEQ : Hid (∀ (x : Prop), x → x) := fun _ h => h
        generalize (nAt l j).1 = x0 at c0 hpl
        generalize nP l j = x1 at c1 hcases
        generalize nD l j = x2 at c2 hpl
        generalize nB l j = x3 at c3 hcases
        generalize (nAt l j).2.2.1 = x4 at c4 hpl
        generalize (nAt l j).2.2.2.1 = x5 at c5 hpl
        generalize nL l j = x6 at c6 hcases
        generalize (plN l j).2.1.1 = y1 at hpl hcases
        generalize (plN l j).2.1.2.2 = y3 at hpl hcases
        generalize (plN l j).2.2.2.2 = y6 at hpl hcases
        clear e0 e2 e4 e5 hpv HE hcx HEQ
        have i1 : (j : Int) < (n : Int) := by omega
        have i2 : (0 : Int) ≤ (j : Int) := by omega
        have hB : Below wr.heap.size wr wr := Below.refl _ _
        rcases hcases with ⟨u1, hne⟩ | ⟨rfl, u1, hne⟩ | ⟨rfl, rfl, u1, hne⟩ | ⟨rfl, rfl, rfl, he⟩
        · skip
          have hbr : b < wr.heap.size := Nat.lt_of_lt_of_le hbl hb.size
          go_upto_region 6 with fail
          have y0 := c0
          have y1 := c1
          have y2 := c2
          have y3 := c3
          have y4 := c4
          have y5 := c5
          have y6 := c6
          go_region_held_law (fun w' => w'.cell? ⟨b, off + j * 7, none⟩ = some (.string x0) ∧ w'.cell? ⟨b, off + j * 7 + 1, none⟩ = some (.int .i64 x1) ∧ w'.cell? ⟨b, off + j * 7 + 2, none⟩ = some (.int .i64 x2) ∧ w'.cell? ⟨b, off + j * 7 + 3, none⟩ = some (.int .i64 x3) ∧ w'.cell? ⟨b, off + j * 7 + 4, none⟩ = some (.bool x4) ∧ w'.cell? ⟨b, off + j * 7 + 5, none⟩ = some (.bool x5) ∧ w'.cell? ⟨b, off + j * 7 + 6, none⟩ = some (.bool x6))
            ((refine ⟨?_, ?_, ?_, ?_, ?_, ?_, ?_⟩ <;> (repeat (first | (with_reducible exact y0) | (with_reducible exact y1) | (with_reducible exact y2) | (with_reducible exact y3) | (with_reducible exact y4) | (with_reducible exact y5) | (with_reducible exact y6) | (with_reducible refine cell_drw ?_))) <;> done))
            (first
              | (go_at_call 31; (first | (with_reducible refine (hpl _ hB).mono ?_) | (with_reducible refine (hpl _ hB.drew).mono ?_)); rintro e w1 ⟨rfl, b1⟩; (first | have hB := Below.nxtd hB b1 | have hB := Below.nxt hB b1); have y0 := (hB.cell (p := ⟨b, off + j * 7, none⟩) hbr).trans c0; have y1 := (hB.cell (p := ⟨b, off + j * 7 + 1, none⟩) hbr).trans c1; have y2 := (hB.cell (p := ⟨b, off + j * 7 + 2, none⟩) hbr).trans c2; have y3 := (hB.cell (p := ⟨b, off + j * 7 + 3, none⟩) hbr).trans c3; have y4 := (hB.cell (p := ⟨b, off + j * 7 + 4, none⟩) hbr).trans c4; have y5 := (hB.cell (p := ⟨b, off + j * 7 + 5, none⟩) hbr).trans c5; have y6 := (hB.cell (p := ⟨b, off + j * 7 + 6, none⟩) hbr).trans c6))
          all_goals (
            have hbw := hb.trans (hB.mono hb.size)
            have hF := HF.out (fun h => hne (h.2.2 j hlt))
            subst hF
            go_wp2
            go_ret
            exact ⟨rfl, hbw⟩)
        · skip
          have hbr : b < wr.heap.size := Nat.lt_of_lt_of_le hbl hb.size
          go_upto_region 6 with fail
          have y0 := c0
          have y1 := c1
          have y2 := c2
          have y3 := c3
          have y4 := c4
          have y5 := c5
          have y6 := c6
          go_region_held_law (fun w' => w'.cell? ⟨b, off + j * 7, none⟩ = some (.string x0) ∧ w'.cell? ⟨b, off + j * 7 + 1, none⟩ = some (.int .i64 x1) ∧ w'.cell? ⟨b, off + j * 7 + 2, none⟩ = some (.int .i64 x2) ∧ w'.cell? ⟨b, off + j * 7 + 3, none⟩ = some (.int .i64 x3) ∧ w'.cell? ⟨b, off + j * 7 + 4, none⟩ = some (.bool x4) ∧ w'.cell? ⟨b, off + j * 7 + 5, none⟩ = some (.bool x5) ∧ w'.cell? ⟨b, off + j * 7 + 6, none⟩ = some (.bool x6))
            ((refine ⟨?_, ?_, ?_, ?_, ?_, ?_, ?_⟩ <;> (repeat (first | (with_reducible exact y0) | (with_reducible exact y1) | (with_reducible exact y2) | (with_reducible exact y3) | (with_reducible exact y4) | (with_reducible exact y5) | (with_reducible exact y6) | (with_reducible refine cell_drw ?_))) <;> done))
            (first
              | (go_at_call 31; (first | (with_reducible refine (hpl _ hB).mono ?_) | (with_reducible refine (hpl _ hB.drew).mono ?_)); rintro e w1 ⟨rfl, b1⟩; (first | have hB := Below.nxtd hB b1 | have hB := Below.nxt hB b1); have y0 := (hB.cell (p := ⟨b, off + j * 7, none⟩) hbr).trans c0; have y1 := (hB.cell (p := ⟨b, off + j * 7 + 1, none⟩) hbr).trans c1; have y2 := (hB.cell (p := ⟨b, off + j * 7 + 2, none⟩) hbr).trans c2; have y3 := (hB.cell (p := ⟨b, off + j * 7 + 3, none⟩) hbr).trans c3; have y4 := (hB.cell (p := ⟨b, off + j * 7 + 4, none⟩) hbr).trans c4; have y5 := (hB.cell (p := ⟨b, off + j * 7 + 5, none⟩) hbr).trans c5; have y6 := (hB.cell (p := ⟨b, off + j * 7 + 6, none⟩) hbr).trans c6))
          all_goals (
            have hbw := hb.trans (hB.mono hb.size)
            have hF := HF.out (fun h => hne (h.2.2 j hlt))
            subst hF
            go_wp2
            go_ret
            exact ⟨rfl, hbw⟩)
        · skip
          have hbr : b < wr.heap.size := Nat.lt_of_lt_of_le hbl hb.size
          go_upto_region 6 with fail
          have y0 := c0
          have y1 := c1
          have y2 := c2
          have y3 := c3
          have y4 := c4
          have y5 := c5
          have y6 := c6
          go_region_held_law (fun w' => w'.cell? ⟨b, off + j * 7, none⟩ = some (.string x0) ∧ w'.cell? ⟨b, off + j * 7 + 1, none⟩ = some (.int .i64 x1) ∧ w'.cell? ⟨b, off + j * 7 + 2, none⟩ = some (.int .i64 x2) ∧ w'.cell? ⟨b, off + j * 7 + 3, none⟩ = some (.int .i64 x3) ∧ w'.cell? ⟨b, off + j * 7 + 4, none⟩ = some (.bool x4) ∧ w'.cell? ⟨b, off + j * 7 + 5, none⟩ = some (.bool x5) ∧ w'.cell? ⟨b, off + j * 7 + 6, none⟩ = some (.bool x6))
            ((refine ⟨?_, ?_, ?_, ?_, ?_, ?_, ?_⟩ <;> (repeat (first | (with_reducible exact y0) | (with_reducible exact y1) | (with_reducible exact y2) | (with_reducible exact y3) | (with_reducible exact y4) | (with_reducible exact y5) | (with_reducible exact y6) | (with_reducible refine cell_drw ?_))) <;> done))
            (first
              | (go_at_call 31; (first | (with_reducible refine (hpl _ hB).mono ?_) | (with_reducible refine (hpl _ hB.drew).mono ?_)); rintro e w1 ⟨rfl, b1⟩; (first | have hB := Below.nxtd hB b1 | have hB := Below.nxt hB b1); have y0 := (hB.cell (p := ⟨b, off + j * 7, none⟩) hbr).trans c0; have y1 := (hB.cell (p := ⟨b, off + j * 7 + 1, none⟩) hbr).trans c1; have y2 := (hB.cell (p := ⟨b, off + j * 7 + 2, none⟩) hbr).trans c2; have y3 := (hB.cell (p := ⟨b, off + j * 7 + 3, none⟩) hbr).trans c3; have y4 := (hB.cell (p := ⟨b, off + j * 7 + 4, none⟩) hbr).trans c4; have y5 := (hB.cell (p := ⟨b, off + j * 7 + 5, none⟩) hbr).trans c5; have y6 := (hB.cell (p := ⟨b, off + j * 7 + 6, none⟩) hbr).trans c6))
          all_goals (
            have hbw := hb.trans (hB.mono hb.size)
            have hF := HF.out (fun h => hne (h.2.2 j hlt))
            subst hF
            go_wp2
            go_ret
            exact ⟨rfl, hbw⟩)
        · skip
          have hbr : b < wr.heap.size := Nat.lt_of_lt_of_le hbl hb.size
          go_upto_region 6 with fail
          have y0 := c0
          have y1 := c1
          have y2 := c2
          have y3 := c3
          have y4 := c4
          have y5 := c5
          have y6 := c6
          go_region_held_law (fun w' => w'.cell? ⟨b, off + j * 7, none⟩ = some (.string x0) ∧ w'.cell? ⟨b, off + j * 7 + 1, none⟩ = some (.int .i64 x1) ∧ w'.cell? ⟨b, off + j * 7 + 2, none⟩ = some (.int .i64 x2) ∧ w'.cell? ⟨b, off + j * 7 + 3, none⟩ = some (.int .i64 x3) ∧ w'.cell? ⟨b, off + j * 7 + 4, none⟩ = some (.bool x4) ∧ w'.cell? ⟨b, off + j * 7 + 5, none⟩ = some (.bool x5) ∧ w'.cell? ⟨b, off + j * 7 + 6, none⟩ = some (.bool x6))
            ((refine ⟨?_, ?_, ?_, ?_, ?_, ?_, ?_⟩ <;> (repeat (first | (with_reducible exact y0) | (with_reducible exact y1) | (with_reducible exact y2) | (with_reducible exact y3) | (with_reducible exact y4) | (with_reducible exact y5) | (with_reducible exact y6) | (with_reducible refine cell_drw ?_))) <;> done))
            (first
              | (go_at_call 31; (first | (with_reducible refine (hpl _ hB).mono ?_) | (with_reducible refine (hpl _ hB.drew).mono ?_)); rintro e w1 ⟨rfl, b1⟩; (first | have hB := Below.nxtd hB b1 | have hB := Below.nxt hB b1); have y0 := (hB.cell (p := ⟨b, off + j * 7, none⟩) hbr).trans c0; have y1 := (hB.cell (p := ⟨b, off + j * 7 + 1, none⟩) hbr).trans c1; have y2 := (hB.cell (p := ⟨b, off + j * 7 + 2, none⟩) hbr).trans c2; have y3 := (hB.cell (p := ⟨b, off + j * 7 + 3, none⟩) hbr).trans c3; have y4 := (hB.cell (p := ⟨b, off + j * 7 + 4, none⟩) hbr).trans c4; have y5 := (hB.cell (p := ⟨b, off + j * 7 + 5, none⟩) hbr).trans c5; have y6 := (hB.cell (p := ⟨b, off + j * 7 + 6, none⟩) hbr).trans c6))
          all_goals (
            have hbw := hb.trans (hB.mono hb.size)
            go_wp2
            go_roundw
            case rel => exact ⟨j + 1, hlt, by go_num, (fun i hi => by
              rcases Nat.lt_or_ge i j with h2 | h2
              · exact HI.out i h2
              · have h3 : i = j := by omega
                rw [h3]; exact he), hbw⟩
            case measure => simp [RowKit.intOf]; omega)
      · have i1 : ¬ (j : Int) < (n : Int) := by omega
        have hT := HT.out ⟨by omega, HNS.out, fun i hi => HI.out i (by omega)⟩
        subst hT
        go_wp2
        go_ret
        exact ⟨rfl, hb⟩
end Go.Proofs.Ytdekboacjjpjeaa
