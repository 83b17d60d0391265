import Derived.Test.YtoankfbccofllaaWqc04

/- What the program's Formed, numbered, liesIn answer. -/
namespace Go.Proofs.Ytoankfbccofllaa
open Go.RowKit Go.Lib
set_option linter.unusedSimpArgs false
set_option linter.unusedVariables false
attribute [local go_sem ↓] Go.wp_at_zero Go.wp_at_succ

theorem nd_ext {n m : Nd} (h1 : n.1 = m.1) (h2 : n.2.1.1 = m.2.1.1) (h3 : n.2.1.2.1 = m.2.1.2.1) (h4 : n.2.1.2.2 = m.2.1.2.2) (h5 : n.2.2.1 = m.2.2.1) (h6 : n.2.2.2.1 = m.2.2.2.1) (h7 : n.2.2.2.2 = m.2.2.2.2) : n = m := by
  obtain ⟨a, ⟨b, c, d⟩, e, f, g⟩ := n
  obtain ⟨a', ⟨b', c', d'⟩, e', f', g'⟩ := m
  simp only at h1 h2 h3 h4 h5 h6 h7
  subst h1 h2 h3 h4 h5 h6 h7
  rfl
theorem fm_placed (l : List Nd) : FmP l.length (nD l) (nP l) (nB l) (nL l) ↔ (l.length ≤ 40 ∧ nst (nD l) l.length ∧ ∀ i < l.length, nAt l i = plN l i) := by
  unfold FmP
  refine and_congr Iff.rfl (and_congr Iff.rfl ⟨fun h i hi => ?_, fun h i hi => ?_⟩)
  · obtain ⟨h1, h2, h3⟩ := h i hi
    refine nd_ext rfl h1 rfl h2 rfl rfl ?_
    show nL l i = decide (pbeh (nD l) (nD l i) (l.length - (i + 1)) (i + 1) = i + 1)
    rw [h3, h2, lf_same, Bool.eq_iff_iff, decide_eq_true_eq, beq_iff_eq]
  · have e := h i hi
    have h1 : nP l i = (plN l i).2.1.1 := by unfold nP; rw [e]
    have h2 : nB l i = (plN l i).2.1.2.2 := by unfold nB; rw [e]
    have h3 : nL l i = (plN l i).2.2.2.2 := by unfold nL; rw [e]
    refine ⟨h1, h2, h3.trans ?_⟩
    show decide (pbeh (nD l) (nD l i) (l.length - (i + 1)) (i + 1) = i + 1) = _
    rw [h2]
    show _ = decide (((pbeh (nD l) (nD l i) (l.length - (i + 1)) (i + 1) : Nat) : Int) = (i : Int) + 1)
    rw [lf_same, Bool.eq_iff_iff, decide_eq_true_eq, beq_iff_eq]
set_option maxRecDepth 100000 in
set_option maxHeartbeats 8000000 in
theorem tformed_any {ok : Nat → Prop} {w : World} {l : List Nd} {v : Value} (h : RdNd ok w l v) :
    Calls Try.prog 11 #[v] w fun e w' => e = .returned (.bool (fmB l)) ∧ Below w.heap.size w w' := by
  obtain ⟨a, cap, rfl, hlc, hcm⟩ := h.form
  unfold maxLen at hcm
  obtain ⟨V, hV⟩ : ∃ V, fmB l = V := ⟨_, rfl⟩
  rw [hV]
  have HV : Hid (fmB l = V) := hV
  have HC := hidOf h
  have hF : ¬ (l.length ≤ 40 ∧ nst (nD l) l.length ∧ ∀ i < l.length, nAt l i = plN l i) → V = false := fun h => by
    rw [← HV.out]
    unfold fmB
    rw [decide_eq_false]
    exact fun h2 => h ((fm_placed l).1 h2)
  have hT : (l.length ≤ 40 ∧ nst (nD l) l.length ∧ ∀ i < l.length, nAt l i = plN l i) → V = true := fun h => by
    rw [← HV.out]
    unfold fmB
    rw [decide_eq_true]
    exact (fm_placed l).2 h
  have hne := fun (h40 : l.length ≤ 40) w1 (b1 : Below w.heap.size w w1) => nested_any (h.stay kp_nd (ok' := ok) (w' := w1) (fun k hk hl => ⟨hk, b1.block k hl⟩)) h40
  obtain ⟨n, hn⟩ : ∃ n, l.length = n := ⟨_, rfl⟩
  rw [hn] at hlc hF hT hne ⊢
  have HN : Hid (l.length = n) := hn
  have HT := hidOf hT
  have HF := hidOf hF
  clear h hV hn hT hF
  by_cases h40 : 40 < n
  · have hF := HF.out (fun h => by omega)
    subst hF
    have i0 : (40 : Int) < (n : Int) := by omega
    clear hne
    go_enter Try.func11, Try.ntmps11
    go_wp2
    go_ret
    exact ⟨rfl, Below.refl _ _⟩
  have i0 : ¬ (40 : Int) < (n : Int) := by omega
  have hne := fun w1 b1 => hne (by omega) w1 b1
  obtain ⟨NS, hNS⟩ : ∃ x, nsB l = x := ⟨_, rfl⟩
  rw [hNS] at hne
  cases NS with
  | false =>
    have hF := HF.out (fun h => by
      unfold nsB at hNS
      rw [HN.out] at hNS
      exact absurd h.2.1 (of_decide_eq_false hNS))
    subst hF
    clear hNS
    go_enter Try.func11, Try.ntmps11
    go_wp2_with (first | (go_at_call 22; refine (hne _ (Below.refl _ _)).mono ?_; rintro e w1 ⟨rfl, b1⟩) | fail)
    go_ret
    exact ⟨rfl, b1⟩
  | true =>
    have hns2 : nst (nD l) n := by
      unfold nsB at hNS
      rw [HN.out] at hNS
      exact of_decide_eq_true hNS
    have HNS := hidOf hns2
    clear hns2
    clear hNS
    go_enter Try.func11, Try.ntmps11
    go_wp2_with (first | (go_at_call 22; refine (hne _ (Below.refl _ _)).mono ?_; rintro e w1 ⟨rfl, b1⟩) | fail)
    clear hne
    go_loopw [14] (fun ix wr => ∃ (j : Nat), j ≤ n ∧ ix = .int .i64 (j : Int) ∧ Hid (∀ i < j, nAt l i = plN l i) ∧ Below w.heap.size w wr) (fun ix _ => n - (RowKit.intOf ix).toNat)
    case atStart => exact ⟨0, Nat.zero_le _, rfl, fun i hi => by omega, b1⟩
    case round =>
      clear b1
      obtain ⟨j, hj, rfl, HI, hb⟩ := hrel
      by_cases hlt : j < n
      · have hpl := fun w1 (b1 : Below wr.heap.size wr w1) => placed_any (HC.out.stay kp_nd (ok' := ok) (w' := w1) (fun k hk hl => ⟨hk, (b1.block k (Nat.lt_of_lt_of_le hl hb.size)).trans (hb.block k hl)⟩)) (by rw [HN.out]; omega) (i := j) (by rw [HN.out]; exact hlt)
        obtain ⟨b, off, rfl, hbl, c0, c1, c2, c3, c4, c5, c6⟩ := nd_at HC.out j (by rw [HN.out]; exact hlt)
        rw [HN.out] at hpl
        have hcx : ∀ (w1 : World) (p : Addr), Below wr.heap.size wr w1 → p.block = b → w1.cell? p = w.cell? p := fun w1 p h1 hp => ((h1.cell (p := p) (by rw [hp]; exact Nat.lt_of_lt_of_le hbl hb.size)).trans (hb.cell (p := p) (by rw [hp]; exact hbl)))
        have HCX := hidOf hcx
        replace c0 := (hb.cell (p := ⟨b, off + j * 7, none⟩) hbl).trans c0
        replace c1 := (hb.cell (p := ⟨b, off + j * 7 + 1, none⟩) hbl).trans c1
        replace c2 := (hb.cell (p := ⟨b, off + j * 7 + 2, none⟩) hbl).trans c2
        replace c3 := (hb.cell (p := ⟨b, off + j * 7 + 3, none⟩) hbl).trans c3
        replace c4 := (hb.cell (p := ⟨b, off + j * 7 + 4, none⟩) hbl).trans c4
        replace c5 := (hb.cell (p := ⟨b, off + j * 7 + 5, none⟩) hbl).trans c5
        replace c6 := (hb.cell (p := ⟨b, off + j * 7 + 6, none⟩) hbl).trans c6
        have e0 : (plN l j).1 = (nAt l j).1 := rfl
        have e2 : (plN l j).2.1.2.1 = nD l j := rfl
        have e4 : (plN l j).2.2.1 = (nAt l j).2.2.1 := rfl
        have e5 : (plN l j).2.2.2.1 = (nAt l j).2.2.2.1 := rfl
        have hpv : ndV (plN l j) = [.string (nAt l j).1, .int .i64 (plN l j).2.1.1, .int .i64 (nD l j), .int .i64 (plN l j).2.1.2.2, .bool (nAt l j).2.2.1, .bool (nAt l j).2.2.2.1, .bool (plN l j).2.2.2.2] := rfl
        rw [hpv] at hpl
        have HE : Hid ((nAt l j = plN l j) ↔ (nP l j = (plN l j).2.1.1 ∧ nB l j = (plN l j).2.1.2.2 ∧ nL l j = (plN l j).2.2.2.2)) := by
          constructor
          · intro h
            unfold nP nB nL
            rw [← h]
            exact ⟨rfl, rfl, rfl⟩
          · rintro ⟨h1, h2, h3⟩
            exact nd_ext rfl h1 rfl h2 rfl rfl h3
        have hcases : ((nP l j == (plN l j).2.1.1) = false ∧ ¬ (nAt l j = plN l j)) ∨ (nP l j = (plN l j).2.1.1 ∧ (nB l j == (plN l j).2.1.2.2) = false ∧ ¬ (nAt l j = plN l j)) ∨ (nP l j = (plN l j).2.1.1 ∧ nB l j = (plN l j).2.1.2.2 ∧ (nL l j == (plN l j).2.2.2.2) = false ∧ ¬ (nAt l j = plN l j)) ∨ (nP l j = (plN l j).2.1.1 ∧ nB l j = (plN l j).2.1.2.2 ∧ nL l j = (plN l j).2.2.2.2 ∧ (nAt l j = plN l j)) := by
          by_cases h1 : nP l j = (plN l j).2.1.1
          · by_cases h2 : nB l j = (plN l j).2.1.2.2
            · by_cases h3 : nL l j = (plN l j).2.2.2.2
              · exact .inr (.inr (.inr ⟨h1, h2, h3, HE.out.2 ⟨h1, h2, h3⟩⟩))
              · exact .inr (.inr (.inl ⟨h1, h2, beq_eq_false_iff_ne.2 h3, fun h => h3 (HE.out.1 h).2.2⟩))
            · exact .inr (.inl ⟨h1, beq_eq_false_iff_ne.2 h2, fun h => h2 (HE.out.1 h).2.1⟩)
          · exact .inl ⟨beq_eq_false_iff_ne.2 h1, fun h => h1 (HE.out.1 h).1⟩
        have HEQ : Hid (∀ (x : Prop), x → x) := fun _ h => h
        generalize (nAt l j).1 = x0 at c0 hpl
        generalize nP l j = x1 at c1 hcases
        generalize nD l j = x2 at c2 hpl
        generalize nB l j = x3 at c3 hcases
        generalize (nAt l j).2.2.1 = x4 at c4 hpl
        generalize (nAt l j).2.2.2.1 = x5 at c5 hpl
        generalize nL l j = x6 at c6 hcases
        generalize (plN l j).2.1.1 = y1 at hpl hcases
        generalize (plN l j).2.1.2.2 = y3 at hpl hcases
        generalize (plN l j).2.2.2.2 = y6 at hpl hcases
        clear e0 e2 e4 e5 hpv HE hcx HEQ
        have i1 : (j : Int) < (n : Int) := by omega
        have i2 : (0 : Int) ≤ (j : Int) := by omega
        have hB : Below wr.heap.size wr wr := Below.refl _ _
        rcases hcases with ⟨u1, hne⟩ | ⟨rfl, u1, hne⟩ | ⟨rfl, rfl, u1, hne⟩ | ⟨rfl, rfl, rfl, he⟩
        · skip
          have hbr : b < wr.heap.size := Nat.lt_of_lt_of_le hbl hb.size
          go_upto_region 6 with fail
          have y0 := c0
          have y1 := c1
          have y2 := c2
          have y3 := c3
          have y4 := c4
          have y5 := c5
          have y6 := c6
          go_region_held_law (fun w' => w'.cell? ⟨b, off + j * 7, none⟩ = some (.string x0) ∧ w'.cell? ⟨b, off + j * 7 + 1, none⟩ = some (.int .i64 x1) ∧ w'.cell? ⟨b, off + j * 7 + 2, none⟩ = some (.int .i64 x2) ∧ w'.cell? ⟨b, off + j * 7 + 3, none⟩ = some (.int .i64 x3) ∧ w'.cell? ⟨b, off + j * 7 + 4, none⟩ = some (.bool x4) ∧ w'.cell? ⟨b, off + j * 7 + 5, none⟩ = some (.bool x5) ∧ w'.cell? ⟨b, off + j * 7 + 6, none⟩ = some (.bool x6))
            ((refine ⟨?_, ?_, ?_, ?_, ?_, ?_, ?_⟩ <;> (repeat (first | (with_reducible exact y0) | (with_reducible exact y1) | (with_reducible exact y2) | (with_reducible exact y3) | (with_reducible exact y4) | (with_reducible exact y5) | (with_reducible exact y6) | (with_reducible refine cell_drw ?_))) <;> done))
            (first
              | (go_at_call 20; (first | (with_reducible refine (hpl _ hB).mono ?_) | (with_reducible refine (hpl _ hB.drew).mono ?_)); rintro e w1 ⟨rfl, b1⟩; (first | have hB := Below.nxtd hB b1 | have hB := Below.nxt hB b1); have y0 := (hB.cell (p := ⟨b, off + j * 7, none⟩) hbr).trans c0; have y1 := (hB.cell (p := ⟨b, off + j * 7 + 1, none⟩) hbr).trans c1; have y2 := (hB.cell (p := ⟨b, off + j * 7 + 2, none⟩) hbr).trans c2; have y3 := (hB.cell (p := ⟨b, off + j * 7 + 3, none⟩) hbr).trans c3; have y4 := (hB.cell (p := ⟨b, off + j * 7 + 4, none⟩) hbr).trans c4; have y5 := (hB.cell (p := ⟨b, off + j * 7 + 5, none⟩) hbr).trans c5; have y6 := (hB.cell (p := ⟨b, off + j * 7 + 6, none⟩) hbr).trans c6))
          all_goals (
            have hbw := hb.trans (hB.mono hb.size)
            have hF := HF.out (fun h => hne (h.2.2 j hlt))
            subst hF
            go_wp2
            go_ret
            exact ⟨rfl, hbw⟩)
        · skip
          have hbr : b < wr.heap.size := Nat.lt_of_lt_of_le hbl hb.size
          go_upto_region 6 with fail
          have y0 := c0
          have y1 := c1
          have y2 := c2
          have y3 := c3
          have y4 := c4
          have y5 := c5
          have y6 := c6
          go_region_held_law (fun w' => w'.cell? ⟨b, off + j * 7, none⟩ = some (.string x0) ∧ w'.cell? ⟨b, off + j * 7 + 1, none⟩ = some (.int .i64 x1) ∧ w'.cell? ⟨b, off + j * 7 + 2, none⟩ = some (.int .i64 x2) ∧ w'.cell? ⟨b, off + j * 7 + 3, none⟩ = some (.int .i64 x3) ∧ w'.cell? ⟨b, off + j * 7 + 4, none⟩ = some (.bool x4) ∧ w'.cell? ⟨b, off + j * 7 + 5, none⟩ = some (.bool x5) ∧ w'.cell? ⟨b, off + j * 7 + 6, none⟩ = some (.bool x6))
            ((refine ⟨?_, ?_, ?_, ?_, ?_, ?_, ?_⟩ <;> (repeat (first | (with_reducible exact y0) | (with_reducible exact y1) | (with_reducible exact y2) | (with_reducible exact y3) | (with_reducible exact y4) | (with_reducible exact y5) | (with_reducible exact y6) | (with_reducible refine cell_drw ?_))) <;> done))
            (first
              | (go_at_call 20; (first | (with_reducible refine (hpl _ hB).mono ?_) | (with_reducible refine (hpl _ hB.drew).mono ?_)); rintro e w1 ⟨rfl, b1⟩; (first | have hB := Below.nxtd hB b1 | have hB := Below.nxt hB b1); have y0 := (hB.cell (p := ⟨b, off + j * 7, none⟩) hbr).trans c0; have y1 := (hB.cell (p := ⟨b, off + j * 7 + 1, none⟩) hbr).trans c1; have y2 := (hB.cell (p := ⟨b, off + j * 7 + 2, none⟩) hbr).trans c2; have y3 := (hB.cell (p := ⟨b, off + j * 7 + 3, none⟩) hbr).trans c3; have y4 := (hB.cell (p := ⟨b, off + j * 7 + 4, none⟩) hbr).trans c4; have y5 := (hB.cell (p := ⟨b, off + j * 7 + 5, none⟩) hbr).trans c5; have y6 := (hB.cell (p := ⟨b, off + j * 7 + 6, none⟩) hbr).trans c6))
          all_goals (
            have hbw := hb.trans (hB.mono hb.size)
            have hF := HF.out (fun h => hne (h.2.2 j hlt))
            subst hF
            go_wp2
            go_ret
            exact ⟨rfl, hbw⟩)
        · skip
          have hbr : b < wr.heap.size := Nat.lt_of_lt_of_le hbl hb.size
          go_upto_region 6 with fail
          have y0 := c0
          have y1 := c1
          have y2 := c2
          have y3 := c3
          have y4 := c4
          have y5 := c5
          have y6 := c6
          go_region_held_law (fun w' => w'.cell? ⟨b, off + j * 7, none⟩ = some (.string x0) ∧ w'.cell? ⟨b, off + j * 7 + 1, none⟩ = some (.int .i64 x1) ∧ w'.cell? ⟨b, off + j * 7 + 2, none⟩ = some (.int .i64 x2) ∧ w'.cell? ⟨b, off + j * 7 + 3, none⟩ = some (.int .i64 x3) ∧ w'.cell? ⟨b, off + j * 7 + 4, none⟩ = some (.bool x4) ∧ w'.cell? ⟨b, off + j * 7 + 5, none⟩ = some (.bool x5) ∧ w'.cell? ⟨b, off + j * 7 + 6, none⟩ = some (.bool x6))
            ((refine ⟨?_, ?_, ?_, ?_, ?_, ?_, ?_⟩ <;> (repeat (first | (with_reducible exact y0) | (with_reducible exact y1) | (with_reducible exact y2) | (with_reducible exact y3) | (with_reducible exact y4) | (with_reducible exact y5) | (with_reducible exact y6) | (with_reducible refine cell_drw ?_))) <;> done))
            (first
              | (go_at_call 20; (first | (with_reducible refine (hpl _ hB).mono ?_) | (with_reducible refine (hpl _ hB.drew).mono ?_)); rintro e w1 ⟨rfl, b1⟩; (first | have hB := Below.nxtd hB b1 | have hB := Below.nxt hB b1); have y0 := (hB.cell (p := ⟨b, off + j * 7, none⟩) hbr).trans c0; have y1 := (hB.cell (p := ⟨b, off + j * 7 + 1, none⟩) hbr).trans c1; have y2 := (hB.cell (p := ⟨b, off + j * 7 + 2, none⟩) hbr).trans c2; have y3 := (hB.cell (p := ⟨b, off + j * 7 + 3, none⟩) hbr).trans c3; have y4 := (hB.cell (p := ⟨b, off + j * 7 + 4, none⟩) hbr).trans c4; have y5 := (hB.cell (p := ⟨b, off + j * 7 + 5, none⟩) hbr).trans c5; have y6 := (hB.cell (p := ⟨b, off + j * 7 + 6, none⟩) hbr).trans c6))
          all_goals (
            have hbw := hb.trans (hB.mono hb.size)
            have hF := HF.out (fun h => hne (h.2.2 j hlt))
            subst hF
            go_wp2
            go_ret
            exact ⟨rfl, hbw⟩)
        · skip
          have hbr : b < wr.heap.size := Nat.lt_of_lt_of_le hbl hb.size
          go_upto_region 6 with fail
          have y0 := c0
          have y1 := c1
          have y2 := c2
          have y3 := c3
          have y4 := c4
          have y5 := c5
          have y6 := c6
          go_region_held_law (fun w' => w'.cell? ⟨b, off + j * 7, none⟩ = some (.string x0) ∧ w'.cell? ⟨b, off + j * 7 + 1, none⟩ = some (.int .i64 x1) ∧ w'.cell? ⟨b, off + j * 7 + 2, none⟩ = some (.int .i64 x2) ∧ w'.cell? ⟨b, off + j * 7 + 3, none⟩ = some (.int .i64 x3) ∧ w'.cell? ⟨b, off + j * 7 + 4, none⟩ = some (.bool x4) ∧ w'.cell? ⟨b, off + j * 7 + 5, none⟩ = some (.bool x5) ∧ w'.cell? ⟨b, off + j * 7 + 6, none⟩ = some (.bool x6))
            ((refine ⟨?_, ?_, ?_, ?_, ?_, ?_, ?_⟩ <;> (repeat (first | (with_reducible exact y0) | (with_reducible exact y1) | (with_reducible exact y2) | (with_reducible exact y3) | (with_reducible exact y4) | (with_reducible exact y5) | (with_reducible exact y6) | (with_reducible refine cell_drw ?_))) <;> done))
            (first
              | (go_at_call 20; (first | (with_reducible refine (hpl _ hB).mono ?_) | (with_reducible refine (hpl _ hB.drew).mono ?_)); rintro e w1 ⟨rfl, b1⟩; (first | have hB := Below.nxtd hB b1 | have hB := Below.nxt hB b1); have y0 := (hB.cell (p := ⟨b, off + j * 7, none⟩) hbr).trans c0; have y1 := (hB.cell (p := ⟨b, off + j * 7 + 1, none⟩) hbr).trans c1; have y2 := (hB.cell (p := ⟨b, off + j * 7 + 2, none⟩) hbr).trans c2; have y3 := (hB.cell (p := ⟨b, off + j * 7 + 3, none⟩) hbr).trans c3; have y4 := (hB.cell (p := ⟨b, off + j * 7 + 4, none⟩) hbr).trans c4; have y5 := (hB.cell (p := ⟨b, off + j * 7 + 5, none⟩) hbr).trans c5; have y6 := (hB.cell (p := ⟨b, off + j * 7 + 6, none⟩) hbr).trans c6))
          all_goals (
            have hbw := hb.trans (hB.mono hb.size)
            go_wp2
            go_roundw
            case rel => exact ⟨j + 1, hlt, by go_num, (fun i hi => by
              rcases Nat.lt_or_ge i j with h2 | h2
              · exact HI.out i h2
              · have h3 : i = j := by omega
                rw [h3]; exact he), hbw⟩
            case measure => simp [RowKit.intOf]; omega)
      · have i1 : ¬ (j : Int) < (n : Int) := by omega
        have hT := HT.out ⟨by omega, HNS.out, fun i hi => HI.out i (by omega)⟩
        subst hT
        go_wp2
        go_ret
        exact ⟨rfl, hb⟩

/-- Is it a state's number? -/
def nmB (n : Nat) (i : Int) : Bool := decide (0 ≤ i) && decide (i < n)
theorem nmB_true {n : Nat} {i : Int} (h : nmB n i = true) : ∃ k : Nat, i = k ∧ k < n := by
  unfold nmB at h
  simp only [Bool.and_eq_true, decide_eq_true_eq] at h
  exact ⟨i.toNat, by omega, by omega⟩
theorem nmB_no {n : Nat} {i : Int} (h : ¬ (0 ≤ i ∧ i < n)) : nmB n i = false := by
  unfold nmB
  rw [Bool.eq_false_iff]
  simp only [ne_eq, Bool.and_eq_true, decide_eq_true_eq]
  exact h
set_option maxHeartbeats 1000000 in
theorem numbered_any {w : World} {a : Option Addr} {n cap : Nat} (i : Int) (hlc : n ≤ cap) (hcm : cap ≤ maxLen) :
    Calls Try.prog 27 #[.slice a n cap, .int .i64 i] w fun e w' => e = .returned (.bool (nmB n i)) ∧ w = w' := by
  unfold maxLen at hcm
  by_cases h0 : 0 ≤ i
  · by_cases h1 : i < n
    · have e : nmB n i = true := by unfold nmB; simp [h0, h1]
      rw [e]
      clear e
      go_enter Try.func27, Try.ntmps27
      go_wp2
      go_ret
      exact ⟨rfl, rfl⟩
    · have e : nmB n i = false := nmB_no (fun h => h1 h.2)
      rw [e]
      clear e
      go_enter Try.func27, Try.ntmps27
      go_wp2
      go_ret
      exact ⟨rfl, rfl⟩
  · have e : nmB n i = false := nmB_no (fun h => h0 h.1)
    rw [e]
    clear e
    go_enter Try.func27, Try.ntmps27
    go_wp2
    go_ret
    exact ⟨rfl, rfl⟩
set_option maxHeartbeats 1000000 in
theorem liesIn_any {ok : Nat → Prop} {w : World} {l : List Nd} {v : Value} (h : RdNd ok w l v) (i : Int) (j : Nat) (hj : j < l.length) :
    Calls Try.prog 28 #[v, .int .i64 i, .int .i64 (j : Int)] w fun e w' => e = .returned (.bool (lsP (nB l) i j)) ∧ w = w' := by
  obtain ⟨a, cap, rfl, hlc, hcm⟩ := h.form
  unfold maxLen at hcm
  obtain ⟨b, off, rfl, hbl, c0, c1, c2, c3, c4, c5, c6⟩ := nd_at h j hj
  have i1 : (j : Int) < (l.length : Int) := by omega
  have i2 : (0 : Int) ≤ (j : Int) := by omega
  have eP : lsP (nB l) i j = (decide ((j : Int) < i) && decide (i < nB l j)) := by unfold lsP; rw [Int.toNat_natCast]
  rw [eP]
  generalize nB l j = q at *
  generalize l.length = n at *
  clear h c0 c1 c2 c4 c5 c6 eP
  by_cases h1 : (j : Int) < i
  · by_cases h2 : i < q
    · have e : (decide ((j : Int) < i) && decide (i < q)) = true := by simp [h1, h2]
      rw [e]
      clear e
      go_enter Try.func28, Try.ntmps28
      go_wp2
      go_ret
      exact ⟨rfl, rfl⟩
    · have e : (decide ((j : Int) < i) && decide (i < q)) = false := by simp [h2]
      rw [e]
      clear e
      go_enter Try.func28, Try.ntmps28
      go_wp2
      go_ret
      exact ⟨rfl, rfl⟩
  · have e : (decide ((j : Int) < i) && decide (i < q)) = false := by simp [h1]
    rw [e]
    clear e
    go_enter Try.func28, Try.ntmps28
    go_wp2
    go_ret
    exact ⟨rfl, rfl⟩
/-- Does i lie in j, or is it? -/
def wiB (l : List Nd) (i j : Int) : Bool := fmB l && (if j = -1 then (decide (i = -1) || nmB l.length i) else nmB l.length i && nmB l.length j && (decide (i = j) || lsP (nB l) i j))
set_option maxRecDepth 100000 in
set_option maxHeartbeats 4000000 in
theorem twithin_any {ok : Nat → Prop} {w : World} {l : List Nd} {v : Value} (h : RdNd ok w l v) (i j : Int) :
    Calls Try.prog 16 #[v, .int .i64 i, .int .i64 j] w fun e w' => e = .returned (.bool (wiB l i j)) ∧ Below w.heap.size w w' := by
  obtain ⟨a, cap, rfl, hlc, hcm⟩ := h.form
  have hfm := tformed_any h
  have hnm := fun w1 i => numbered_any (w := w1) (a := a) i hlc hcm
  have hli := fun w1 (b1 : Below w.heap.size w w1) i k (hk : k < l.length) => liesIn_any (h.stay kp_nd (ok' := ok) (w' := w1) (fun k hk hl => ⟨hk, b1.block k hl⟩)) i k hk
  unfold maxLen at hcm
  unfold wiB
  cases hf : fmB l with
  | false =>
    rw [hf] at hfm
    rw [Bool.false_and]
    clear hf hli hnm
    go_enter Try.func16, Try.ntmps16
    go_wp2_with (first | (go_at_call 11; refine hfm.mono ?_; rintro e w1 ⟨rfl, b1⟩) | fail)
    go_ret
    exact ⟨rfl, b1⟩
  | true =>
    rw [Bool.true_and]
    rw [hf] at hfm
    clear hf
    by_cases hj : j = -1
    · rw [if_pos hj]
      subst hj
      clear hli
      by_cases hi : i = -1
      · subst hi
        go_enter Try.func16, Try.ntmps16
        go_wp2_with (first | (go_at_call 11; refine hfm.mono ?_; rintro e w1 ⟨rfl, b1⟩) | (go_at_call 27; refine (hnm _ _).mono ?_; rintro e w2 ⟨rfl, rfl⟩) | fail)
        go_ret
        exact ⟨rfl, b1⟩
      · have hi2 : (i == -1) = false := beq_eq_false_iff_ne.2 hi
        have e : decide (i = -1) = false := decide_eq_false hi
        rw [e, Bool.false_or]
        clear e hi
        go_enter Try.func16, Try.ntmps16
        go_wp2_with (first | (go_at_call 11; refine hfm.mono ?_; rintro e w1 ⟨rfl, b1⟩) | (go_at_call 27; refine (hnm _ _).mono ?_; rintro e w2 ⟨rfl, rfl⟩) | fail)
        go_ret
        exact ⟨rfl, b1⟩
    · rw [if_neg hj]
      have hj2 : (j == -1) = false := beq_eq_false_iff_ne.2 hj
      clear hj
      cases h1 : nmB l.length i with
      | false =>
        have hn1 := fun w1 => hnm w1 i
        rw [h1] at hn1
        rw [Bool.false_and, Bool.false_and]
        clear h1 hnm hli
        go_enter Try.func16, Try.ntmps16
        go_wp2_with (first | (go_at_call 11; refine hfm.mono ?_; rintro e w1 ⟨rfl, b1⟩) | (go_at_call 27; refine (hn1 _).mono ?_; rintro e w2 ⟨rfl, rfl⟩) | fail)
        go_ret
        exact ⟨rfl, b1⟩
      | true =>
        rw [Bool.true_and]
        cases h2 : nmB l.length j with
        | false =>
          rw [Bool.false_and]
          have hn1 := fun w1 => hnm w1 i
          have hn2 := fun w1 => hnm w1 j
          rw [h1] at hn1
          rw [h2] at hn2
          clear h1 h2 hnm hli
          go_enter Try.func16, Try.ntmps16
          go_wp2_with (first | (go_at_call 11; refine hfm.mono ?_; rintro e w1 ⟨rfl, b1⟩) | (go_at_call 27; refine (hn1 _).mono ?_; clear hn1; rintro e w2 ⟨rfl, rfl⟩) | (go_at_call 27; refine (hn2 _).mono ?_; rintro e w2 ⟨rfl, rfl⟩) | fail)
          go_ret
          exact ⟨rfl, b1⟩
        | true =>
          rw [Bool.true_and]
          have hn1 := fun w1 => hnm w1 i
          have hn2 := fun w1 => hnm w1 j
          rw [h1] at hn1
          rw [h2] at hn2
          obtain ⟨j, rfl, hjl⟩ := nmB_true h2
          clear h1 h2 hnm
          by_cases hij : i = (j : Int)
          · rw [decide_eq_true hij, Bool.true_or]
            clear hli
            subst hij
            go_enter Try.func16, Try.ntmps16
            go_wp2_with (first | (go_at_call 11; refine hfm.mono ?_; rintro e w1 ⟨rfl, b1⟩) | (go_at_call 27; refine (hn1 _).mono ?_; rintro e w2 ⟨rfl, rfl⟩) | fail)
            go_ret
            exact ⟨rfl, b1⟩
          · rw [decide_eq_false hij, Bool.false_or]
            have hi2 : (i == (j : Int)) = false := beq_eq_false_iff_ne.2 hij
            have hl := fun w1 (b1 : Below w.heap.size w w1) => hli w1 b1 i j hjl
            generalize lsP (nB l) i j = V at *
            clear hij hli
            go_enter Try.func16, Try.ntmps16
            go_wp2_with (first | (go_at_call 11; refine hfm.mono ?_; rintro e w1 ⟨rfl, b1⟩) | (go_at_call 27; refine (hn1 _).mono ?_; clear hn1; rintro e w2 ⟨rfl, rfl⟩) | (go_at_call 27; refine (hn2 _).mono ?_; rintro e w2 ⟨rfl, rfl⟩) | (go_at_call 28; refine (hl _ b1).mono ?_; rintro e w2 ⟨rfl, rfl⟩) | fail)
            go_ret
            exact ⟨rfl, b1⟩
theorem fmB_fm {l : List Nd} (h : fmB l = true) : FmP l.length (nD l) (nP l) (nB l) (nL l) := of_decide_eq_true h

theorem wpList_pushK {α : Type} {P : Program} (w : World) {ops : Array Oper} {rest : List Oper} {o : Oper} {a : Act} {Q : Exit → Act → World → Prop} (hgd : o.guard = none) (s x : Operand) (t : TypeId)
    (ho : o.op = .call { callee := .builtin .append, args := #[s, x], argTypes := #[t, t] })
    (base : Nat) (e : TypeId) (i : TypeInfo) (z : Value) (k bytes : Nat) (ht : P.underlying t = some (.slice e)) (hi : P.info? e = some i) (hz : i.zero = some z)
    (hsize : i.size = k) (hby : i.bytes = bytes) (hzs : z.cells.size = k) {R : (Nat → Prop) → World → α → List Value → Prop} (hR : Kp R)
    (v : Value) (l : List α) (p : α) (cs : List Value) (lo : Nat) (hs : a.eval s = v) (hx : a.eval x = .slice (some ⟨w.heap.size, 0, none⟩) 1 1) (hk : cs.length = k) (h1 : ∀ u ∈ cs, u.oneCell' = true)
    (hown : OwnK w base e k R v l) (hp : R (fun b => lo ≤ b) w p cs) (hlo : base ≤ lo) (hv : ∀ x, v.ownBlock = some x → x < lo) (hroom : (l.length + 1 + (l.length + 1) / 4 + 192) * bytes ≤ 281474976710656)
    (h63 : l.length + 1 ≤ maxLen) (hbase : base ≤ w.heap.size)
    (h : ∀ v' w', OwnK w' base e k R v' (l ++ [p]) → (w.alloc (.cells cs.toArray e)).grownBy w' v.ownBlock → Below base w w' → wpList P ops Q rest (a.put o.dst v') w') :
    wpList P ops Q (o :: rest) a (w.alloc (.cells cs.toArray e)) := by
  have hal : Below w.heap.size w (w.alloc (.cells cs.toArray e)) := (Below.refl _ _).alloc (Nat.le_refl _) _
  obtain ⟨qs, ho1, hl1, hr1⟩ := hown.on hR hal
  refine wpList_append_at _ hgd s x t t ho base e i z k bytes ht hi hz hsize hby hzs v l.length qs.flatten hs ho1 _ 1 cs hx (src_row ht w cs hk h1) 1 (.inr hroom) (Nat.le_refl _) h63 (Nat.le_trans hbase hal.size) ?_
  intro v' w' hown' hg hat
  refine h v' w' (OwnK.snoc hR hk rfl ho1 hl1 hr1 hown' hg hat (hR hp (fun b hb hlt => ⟨hb, hal.block b hlt⟩)) hlo hv) hg ?_
  exact ((Below.refl base w).alloc hbase _).grown hg (Nat.le_trans hbase hal.size) (fun k hk => (World.ownsRow.lt ho1 k hk).1)
theorem OwnK.blk {α : Type} {w : World} {base e k : Nat} {R : (Nat → Prop) → World → α → List Value → Prop} {v : Value} {l : List α} (h : OwnK w base e k R v l) : ∀ x, v.ownBlock = some x → base ≤ x ∧ x < w.heap.size := by
  obtain ⟨qs, ho, _⟩ := h
  exact ownsRow_lt ho
theorem Try.infoNdP : (Try.prog.info? 58).map (fun i => (i.zero, i.size, i.bytes)) = some (some (.agg #[.string ⟨#[]⟩, .int .i64 0, .int .i64 0, .int .i64 0, .bool false, .bool false, .bool false]), 7, 48) := by kernel_rfl
/-- The first one of that name, of f from j on. -/
def fdF (l : List Nd) (s : ByteArray) : Nat → Nat → Int
  | 0, _ => -1
  | f + 1, j => if (nAt l j).1 = s then (j : Int) else fdF l s f (j + 1)
def fdB (l : List Nd) (s : ByteArray) : Int := if fmB l then fdF l s l.length 0 else -1
set_option maxHeartbeats 1000000 in
theorem find1_any {w : World} {X : Nat} (n s : ByteArray) (x1 x2 x3 : Int) (x4 x5 x6 : Bool) (h : w.cell? ⟨X, 0, none⟩ = some (.string s)) :
    Calls Try.prog 26 #[.agg #[.string n, .int .i64 x1, .int .i64 x2, .int .i64 x3, .bool x4, .bool x5, .bool x6], .pointer (some ⟨X, 0, none⟩)] w fun e w' => e = .returned (.bool (decide (n = s))) ∧ Below w.heap.size w w' := by
  have hlt := World.block_lt_of_cell? w _ h
  have hlt' : X < w.heap.size := hlt
  have hb := (Below.refl w.heap.size w).alloc (Nat.le_refl _) (.cells #[.string n, .int .i64 x1, .int .i64 x2, .int .i64 x3, .bool x4, .bool x5, .bool x6] 58)
  have h2 := (hb.cell (p := ⟨X, 0, none⟩) hlt').trans h
  have e : decide (n = s) = (n.toList == s.toList) := by
    rw [Bool.eq_iff_iff, decide_eq_true_eq, beq_iff_eq]
    constructor
    · intro h; rw [h]
    · intro h
      have h' : n.data.toList = s.data.toList := by rw [← ByteArray.toList_eq, ← ByteArray.toList_eq]; exact h
      exact ByteArray.ext (Array.toList_inj.1 h')
  rw [e]
  go_enter Try.func26, Try.ntmps26
  go_wp2
  go_ret
  exact ⟨rfl, hb⟩
set_option maxRecDepth 100000 in
set_option maxHeartbeats 4000000 in
theorem idxN_any {ok : Nat → Prop} {w : World} {l : List Nd} {v : Value} {X : Nat} {s : ByteArray} (h : RdNd ok w l v) (h40 : l.length ≤ 40) (hX : w.cell? ⟨X, 0, none⟩ = some (.string s)) :
    Calls Try.prog 25 #[v, .func (.func 26) #[] #[.pointer (some ⟨X, 0, none⟩)]] w fun e w' => e = .returned (.int .i64 (fdF l s l.length 0)) ∧ Below w.heap.size w w' := by
  obtain ⟨a, cap, rfl, hlc, hcm⟩ := h.form
  unfold maxLen at hcm
  have hXl : X < w.heap.size := World.block_lt_of_cell? w _ hX
  have HC := hidOf h
  have HX := hidOf hX
  obtain ⟨V, hV⟩ : ∃ V, fdF l s l.length 0 = V := ⟨_, rfl⟩
  rw [hV]
  obtain ⟨n, hn⟩ : ∃ n, l.length = n := ⟨_, rfl⟩
  rw [hn] at hlc h40 hV ⊢
  have HN := hidOf hn
  have HV : Hid (fdF l s (n - 0) 0 = V) := hV
  clear h hX hn hV
  go_enter Try.func25, Try.ntmps25
  go_wp2
  go_loopw [8] (fun ix wr => ∃ (j : Nat), j ≤ n ∧ ix = .int .i64 (j : Int) ∧ Hid (fdF l s (n - j) j = V) ∧ Below w.heap.size w wr) (fun ix _ => n - (RowKit.intOf ix).toNat)
  case atStart => exact ⟨0, Nat.zero_le _, rfl, HV, Below.refl _ _⟩
  case round =>
    obtain ⟨j, hj, rfl, HI, hb⟩ := hrel
    by_cases hlt : j < n
    · obtain ⟨b, off, rfl, hbl, c0, c1, c2, c3, c4, c5, c6⟩ := nd_at HC.out j (by rw [HN.out]; exact hlt)
      replace c0 := (hb.cell (p := ⟨b, off + j * 7, none⟩) hbl).trans c0
      replace c1 := (hb.cell (p := ⟨b, off + j * 7 + 1, none⟩) hbl).trans c1
      replace c2 := (hb.cell (p := ⟨b, off + j * 7 + 2, none⟩) hbl).trans c2
      replace c3 := (hb.cell (p := ⟨b, off + j * 7 + 3, none⟩) hbl).trans c3
      replace c4 := (hb.cell (p := ⟨b, off + j * 7 + 4, none⟩) hbl).trans c4
      replace c5 := (hb.cell (p := ⟨b, off + j * 7 + 5, none⟩) hbl).trans c5
      replace c6 := (hb.cell (p := ⟨b, off + j * 7 + 6, none⟩) hbl).trans c6
      have HI2 : Hid ((if (nAt l j).1 = s then (j : Int) else fdF l s (n - (j + 1)) (j + 1)) = V) := by
        have := HI.out
        have e : n - j = (n - (j + 1)) + 1 := by omega
        rw [e, fdF] at this
        exact this
      have hcall := find1_any (nAt l j).1 s (nP l j) (nD l j) (nB l j) (nAt l j).2.2.1 (nAt l j).2.2.2.1 (nL l j) ((hb.cell (p := ⟨X, 0, none⟩) hXl).trans HX.out)
      generalize (nAt l j).1 = x0 at *
      generalize nP l j = x1 at *
      generalize nD l j = x2 at *
      generalize nB l j = x3 at *
      generalize (nAt l j).2.2.1 = x4 at *
      generalize (nAt l j).2.2.2.1 = x5 at *
      generalize nL l j = x6 at *
      have i1 : (j : Int) < (n : Int) := by omega
      have i2 : (0 : Int) ≤ (j : Int) := by omega
      by_cases he : x0 = s
      · rw [decide_eq_true he] at hcall
        have hVj : V = (j : Int) := by rw [← HI2.out, if_pos he]
        clear he
        subst hVj
        go_wp2_with (first | (go_at_call 26; refine hcall.mono ?_; rintro e w1 ⟨rfl, b1⟩) | fail)
        go_ret
        exact ⟨rfl, hb.trans (b1.mono hb.size)⟩
      · rw [decide_eq_false he] at hcall
        have HV2 : Hid (fdF l s (n - (j + 1)) (j + 1) = V) := by have := HI2.out; rw [if_neg he] at this; exact this
        clear he
        go_wp2_with (first | (go_at_call 26; refine hcall.mono ?_; rintro e w1 ⟨rfl, b1⟩) | fail)
        go_roundw
        case rel => exact ⟨j + 1, hlt, by go_num, HV2, hb.trans (b1.mono hb.size)⟩
        case measure => simp [RowKit.intOf]; omega
    · have i1 : ¬ (j : Int) < (n : Int) := by omega
      have hV : V = -1 := by
        rw [← HI.out]
        have : n - j = 0 := by omega
        rw [this]; rfl
      subst hV
      go_wp2
      go_ret
      exact ⟨rfl, hb⟩
theorem fm_40 {l : List Nd} (h : fmB l = true) : l.length ≤ 40 := (fmB_fm h).1
set_option maxRecDepth 100000 in
set_option maxHeartbeats 4000000 in
theorem find_any {ok : Nat → Prop} {w : World} {l : List Nd} {v : Value} (h : RdNd ok w l v) (s : ByteArray) :
    Calls Try.prog 15 #[v, .string s] w fun e w' => e = .returned (.int .i64 (fdB l s)) ∧ Below w.heap.size w w' := by
  obtain ⟨a, cap, rfl, hlc, hcm⟩ := h.form
  have hb0 := (Below.refl w.heap.size w).alloc (Nat.le_refl _) (.cells #[.string s] 9)
  have hfm := tformed_any (h.stay kp_nd (ok' := ok) (fun k hk hl => ⟨hk, hb0.block k hl⟩))
  have hs0 := (Bn.new w [.string s] 9 _ rfl 0 _ rfl).1
  unfold fdB
  cases hf : fmB l with
  | false =>
    rw [hf] at hfm
    rw [if_neg (by simp)]
    clear hf
    go_enter Try.func15, Try.ntmps15
    go_wp2_with (first | (go_at_call 11; refine hfm.mono ?_; rintro e w1 ⟨rfl, b1⟩) | fail)
    go_ret
    exact ⟨rfl, hb0.trans (b1.mono hb0.size)⟩
  | true =>
    have h40 := fm_40 hf
    rw [hf] at hfm
    rw [if_pos rfl]
    clear hf
    have hix := fun w1 (b1 : Below (w.alloc (.cells #[.string s] 9)).heap.size (w.alloc (.cells #[.string s] 9)) w1) => idxN_any (w := w1) (X := w.heap.size) (s := s) (h.stay kp_nd (ok' := ok) (w' := w1) (fun k hk hl => ⟨hk, (b1.block k (Nat.lt_of_lt_of_le hl hb0.size)).trans (hb0.block k hl)⟩)) h40 ((b1.cell (p := ⟨w.heap.size, 0, none⟩) (by simp)).trans hs0)
    go_enter Try.func15, Try.ntmps15
    go_wp2_with (first | (go_at_call 11; refine hfm.mono ?_; rintro e w1 ⟨rfl, b1⟩) | (go_at_call 25; refine (hix _ b1).mono ?_; rintro e w2 ⟨rfl, b2⟩) | fail)
    go_ret
    exact ⟨rfl, (hb0.trans (b1.mono hb0.size)).trans (b2.mono (Nat.le_trans hb0.size b1.size))⟩
end Go.Proofs.Ytoankfbccofllaa
