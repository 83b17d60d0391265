import Derived.Test.YtiddccohldjjcaaGreatDoorWh10
import Derived.Test.YtiddccohldjjcaaGreatDoorWh05
import Derived.Test.YtiddccohldjjcaaGreatDoorWh02
import Derived.Test.YtiddccohldjjcaaGreatDoorWh11
import Derived.Test.YtiddccohldjjcaaGreatDoorRows
import Derived.Shelf.Unicode.DecodeAny
import Derived.Lib.LaidU8
import Derived.PinnedBridge
import Derived.Lay
import Derived.LaidMore
import Derived.MakeChecks

/- What the program's Same does: one of four. -/
namespace Go.Proofs.YtiddccohldjjcaaGreatDoor
open Go.RowKit Go.Lib
set_option linter.unusedSimpArgs false
set_option linter.unusedVariables false
attribute [local go_sem ↓] Go.wp_at_zero Go.wp_at_succ

set_option maxRecDepth 100000 in
set_option maxHeartbeats 8000000 in
theorem same_d {u1 u2 : Nat} {y1 y2 : Value} {V : Bool} {w : World} (hs1 : Hid (Start w (.iface u1 y1) (.iface u2 y2) V)) : Calls Tryz.prog 15 #[(.iface u1 y1), (.iface u2 y2)] w fun r w' => r = .returned (.bool V) ∧ Below w.heap.size w w' := by
  obtain ⟨i0, hi, hz0, hz1, hz2⟩ := info_parts Tryz.infoE
  go_enter Tryz.func15, Tryz.ntmps15
  go_wp2
  go_loopg [5, 6] 2000 (fun gn p q wr => ∃ (st su : List Sg), Stk wr w.heap.size p st ∧ Stk wr w.heap.size q su ∧ Hid (oneB p q) ∧ Hid (st.length = su.length) ∧ Hid (∀ y ∈ st, ClS y) ∧ Hid (∀ y ∈ su, ClS y) ∧ Hid (allz samS st su = V) ∧ Hid ((st.map cntS).sum ≤ gn) ∧ Hid (gn ≤ 2000 ∧ (su.map cntS).sum ≤ 2000) ∧ Below w.heap.size w wr)
  case atStart =>
    obtain ⟨S, S', h1, h2, h3, h4, h5, h6, h7, h8⟩ := hs1.out
    exact ⟨S, S', h1, h2, fun g hg hg' => by simp [Value.ownBlock] at hg hg'; omega, h3, h4, h5, h6, h7, ⟨Nat.le_refl _, h8⟩, ((Below.refl _ _).alloc (Nat.le_refl _) _).alloc (by simp) _⟩
  case round =>
    clear hs1
    obtain ⟨st, su, hS, hS', hO, hL, hC, hC', hV, hM, hM', hb⟩ := hrel
    by_cases he : st = []
    · subst he
      obtain ⟨a, cap, rfl⟩ := hS.nil
      have hF : V = true := by
        have h1 := hL.out
        have h2 : su = [] := List.eq_nil_of_length_eq_zero (by simpa using h1.symm)
        rw [← hV.out, h2]; rfl
      subst hF
      go_wp2
      go_ret
      exact ⟨rfl, hb⟩
    obtain ⟨st', x, rfl⟩ := last_of he
    have hne : su ≠ [] := by
      intro e; have h1 := hL.out; rw [e] at h1; simp at h1
    obtain ⟨su', y, rfl⟩ := last_of hne
    obtain ⟨g, cap, rfl, hcap, hcm, hgb, hgl, hcell, hP⟩ := hS.pop
    obtain ⟨g', cap', rfl, hcap', hcm', hgb', hgl', hcell', hP'⟩ := hS'.pop
    have hlen : Hid (su'.length = st'.length) := by have h1 := hL.out; show _ = _; simp at h1; exact h1.symm
    have hm := hM.out
    have hm' := hM'.out
    rw [List.map_append, List.sum_append, List.map_singleton, List.sum_singleton] at hm hm'
    have hcl1 := hC.out x (by simp)
    have hcl2 := hC'.out y (by simp)
    obtain ⟨e1, t1⟩ := x
    obtain ⟨e2, t2⟩ := y
    cases e1 with
    | zero => exact Empty.elim t1
    | succ e1 =>
    cases e2 with
    | zero => exact Empty.elim t2
    | succ e2 =>
    obtain ⟨k, n, s, ps, rfl, htop⟩ := topN_any (d := e1) (t := t1) hcl1
    obtain ⟨k', n', s', qs, rfl, htop'⟩ := topN_any (d := e2) (t := t2) hcl2
    obtain ⟨L, hLL⟩ : ∃ L, ps.map (exV e1) = L := ⟨_, rfl⟩
    obtain ⟨M, hMM⟩ : ∃ M, qs.map (exV e2) = M := ⟨_, rfl⟩
    obtain ⟨z, hz⟩ : ∃ z, exS ⟨e1 + 1, mkT k n s ps⟩ = z := ⟨_, rfl⟩
    obtain ⟨z', hz'⟩ : ∃ z, exS ⟨e2 + 1, mkT k' n' s' qs⟩ = z := ⟨_, rfl⟩
    have s1 : ∀ w1, Calls Tryz.prog 27 #[z] w1 fun e w' => ∃ sl, e = .returned (.agg #[.int .i64 k, .int .i64 n, .string s, sl]) ∧ KidsN w1.heap.size w' sl L ∧ Below w1.heap.size w1 w' := by rw [← hz, ← hLL]; exact htop
    have h2 : Hid (∀ w1, Calls Tryz.prog 27 #[z'] w1 fun e w' => ∃ sl, e = .returned (.agg #[.int .i64 k', .int .i64 n', .string s', sl]) ∧ KidsN w1.heap.size w' sl M ∧ Below w1.heap.size w1 w') := by rw [← hz', ← hMM]; exact htop'
    have hTI : Hid ((∀ v ∈ L, Ifc v) ∧ (∀ v ∈ M, Ifc v)) := by rw [← hLL, ← hMM]; exact ⟨ifc_map ps, ifc_map qs⟩
    have hLH : Hid (ps.map (exV e1) = L) := hLL
    have hMH : Hid (qs.map (exV e2) = M) := hMM
    rw [hz] at hcell
    rw [hz', hlen.out] at hcell'
    rw [hlen.out] at hP'
    have hsl : st'.length ≤ 2000 := by
      have q1 := stk_len st'
      have q2 := hM'.out.1
      omega
    have i1 : ((st'.length : Int) + 1 > 0) := by omega
    have i3 : (0 : Int) ≤ (st'.length : Int) := by omega
    have i4 : (st'.length : Int) ≤ (cap : Int) := by omega
    have i4' : (st'.length : Int) ≤ (cap' : Int) := by have := hlen.out; omega
    have i5 : (st'.length : Int) < (st'.length : Int) + 1 := by omega
    have HP : Hid (Stk wr w.heap.size (.slice (some ⟨g, 0, none⟩) st'.length cap) st') := hP
    have HP' : Hid (Stk wr w.heap.size (.slice (some ⟨g', 0, none⟩) st'.length cap') su') := hP'
    rw [hlen.out]
    clear hLL hMM hz hz' htop htop' hP hP' hS hS'
    go_wp2
    go_cut [5, 6, 7, 8, 9] (fun p5 p6 p7 p8 p9 wc => p5 = .slice (some ⟨g, 0, none⟩) (st'.length + 1) cap ∧ p6 = .slice (some ⟨g', 0, none⟩) (st'.length + 1) cap' ∧ p7 = .int .i64 (st'.length : Int) ∧
      ∃ X Y a a', p8 = .pointer (some ⟨X, 0, none⟩) ∧ p9 = .pointer (some ⟨Y, 0, none⟩) ∧ Both wr wc X Y (.int .i64 k) (.int .i64 n) (.string s) (.slice a L.length L.length) (.int .i64 k') (.int .i64 n') (.string s') (.slice a' M.length M.length) L M)
    case first =>
      clear hO hL hC hC' hV hM hM' hLH hMH HP HP' hlen hm hm' hcl1 hcl2 hi hz0 hz1 hz2 hne he
      have n1 : g ≠ wr.heap.size := by omega
      have n2 : g' ≠ wr.heap.size := by omega
      have n3 : g ≠ wr.heap.size + 1 := by omega
      have n4 : g' ≠ wr.heap.size + 1 := by omega
      go_region_held_law (fun w' => w'.cell? ⟨g, st'.length, none⟩ = some z ∧ w'.cell? ⟨g', st'.length, none⟩ = some z')
        ((refine ⟨?_, ?_⟩ <;> (repeat (first | (with_reducible exact hcell) | (with_reducible exact hcell') | (with_reducible exact c1) | (with_reducible exact c1') | (with_reducible exact c2) | (with_reducible exact c2') | (with_reducible refine cell_al ?_) | (with_reducible refine cell_dr ?_) | (with_reducible refine cell_far4 (ne_pt n1) ?_) | (with_reducible refine cell_far4 (ne_pt n2) ?_) | (with_reducible refine cell_far4 (ne_pt n3) ?_) | (with_reducible refine cell_far4 (ne_pt n4) ?_) | (with_reducible refine cell_far4 (ne_pt n5) ?_) | (with_reducible refine cell_far4 (ne_pt n6) ?_) | (with_reducible refine cell_far4 (ne_pt n7) ?_) | (with_reducible refine cell_far4 (ne_pt n8) ?_) | (with_reducible refine cell_far4 (ne_pt n9) ?_) | (with_reducible refine cell_far4 (ne_pt m1) ?_) | (with_reducible refine cell_far4 (ne_pt m2) ?_) | (with_reducible refine cell_far4 (ne_pt m3) ?_))) <;> done))
        ((first
        | (have s1' := s1; go_at_call 27; refine (s1' _).mono ?_; rintro e w1 ⟨sl, rfl, hk1, b1⟩; obtain ⟨a1, rfl⟩ := hk1.1.form; have s2 := h2.out; clear s1 s1' h2;
           have bw : Below wr.heap.size wr w1 := (by first | (with_reducible exact bw0 b1) | (with_reducible exact bw1 b1) | (with_reducible exact bw2 b1));
           have r1 : wr.heap.size ≤ w1.heap.size := bw.size; have k1 : ∀ gg, (Value.slice a1 L.length L.length).ownBlock = some gg → wr.heap.size ≤ gg := fun gg hgg => Nat.le_trans (by first | omega | (simp <;> omega)) (hk1.2 gg hgg);
           have n5 : g ≠ w1.heap.size := Nat.ne_of_lt (Nat.lt_of_lt_of_le hgl r1); have n6 : g' ≠ w1.heap.size := Nat.ne_of_lt (Nat.lt_of_lt_of_le hgl' r1); have n7 : g ≠ w1.heap.size + 1 := Nat.ne_of_lt (Nat.lt_succ_of_lt (Nat.lt_of_lt_of_le hgl r1)); have n8 : g' ≠ w1.heap.size + 1 := Nat.ne_of_lt (Nat.lt_succ_of_lt (Nat.lt_of_lt_of_le hgl' r1));
           have c1 := (bw.cell (p := ⟨g, st'.length, none⟩) hgl).trans hcell; have c1' := (bw.cell (p := ⟨g', st'.length, none⟩) hgl').trans hcell';
           (try with_reducible have pA : z4 w1 wr.heap.size := zA1 b1);
           (try with_reducible have pA : z4 w1 wr.heap.size := zA2 b1);
           (try with_reducible have pB : z4 w1 (wr.heap.size + 1) := zB2 b1))
        | (have s2' := s2; go_at_call 27; refine (s2' _).mono ?_; rintro e w2 ⟨sl, rfl, hk2, b2⟩; obtain ⟨a2, rfl⟩ := hk2.1.form; clear s2 s2';
           have bx : Below w1.heap.size w1 w2 := (by first | (with_reducible exact b2) | (with_reducible exact bx1 b2) | (with_reducible exact bx2 b2));
           have bv : Below wr.heap.size wr w2 := bw.trans (bx.mono r1);
           have r2 : w1.heap.size ≤ w2.heap.size := bx.size;
           have r3 : wr.heap.size ≤ w2.heap.size := bv.size; have K2 : KidsN wr.heap.size w2 (.slice a2 M.length M.length) M := ⟨hk2.1, fun gg hgg => Nat.le_trans (by first | omega | (simp <;> omega)) (hk2.2 gg hgg)⟩; have K1 : KidsN wr.heap.size w2 (.slice a1 L.length L.length) L := ⟨hk1.1.below bx (Nat.le_refl _), k1⟩;
           have n9 : g ≠ w2.heap.size := Nat.ne_of_lt (Nat.lt_of_lt_of_le hgl r3); have m1 : g' ≠ w2.heap.size := Nat.ne_of_lt (Nat.lt_of_lt_of_le hgl' r3); have m2 : g ≠ w2.heap.size + 1 := Nat.ne_of_lt (Nat.lt_succ_of_lt (Nat.lt_of_lt_of_le hgl r3)); have m3 : g' ≠ w2.heap.size + 1 := Nat.ne_of_lt (Nat.lt_succ_of_lt (Nat.lt_of_lt_of_le hgl' r3));
           have c2 := (bv.cell (p := ⟨g, st'.length, none⟩) hgl).trans hcell; have c2' := (bv.cell (p := ⟨g', st'.length, none⟩) hgl').trans hcell';
           (try with_reducible have qA : z4 w2 wr.heap.size := B4.keep' bx pA);
           (try with_reducible have qB : z4 w2 (wr.heap.size + 1) := B4.keep' bx pB);
           (try with_reducible have rA : z4 w2 w1.heap.size := zC1 b2);
           (try with_reducible have rA : z4 w2 w1.heap.size := zC2 b2);
           (try with_reducible have rB : z4 w2 (w1.heap.size + 1) := zD2 b2);
           (try obtain ⟨qa0, qa1, qa2, qa3, qa4, qa5, qa6, qa7⟩ := id qA);
           (try have qax := z4_al qA);
           (try have qan := Nat.ne_of_lt qA.lt);
           (try have qam := (Nat.ne_of_lt qA.lt).symm);
           (try obtain ⟨qb0, qb1, qb2, qb3, qb4, qb5, qb6, qb7⟩ := id qB);
           (try have qbx := z4_al qB);
           (try have qbn := Nat.ne_of_lt qB.lt);
           (try have qbm := (Nat.ne_of_lt qB.lt).symm);
           (try obtain ⟨ra0, ra1, ra2, ra3, ra4, ra5, ra6, ra7⟩ := id rA);
           (try have rax := z4_al rA);
           (try have ran := Nat.ne_of_lt rA.lt);
           (try have ram := (Nat.ne_of_lt rA.lt).symm);
           (try obtain ⟨rb0, rb1, rb2, rb3, rb4, rb5, rb6, rb7⟩ := id rB);
           (try have rbx := z4_al rB);
           (try have rbn := Nat.ne_of_lt rB.lt);
           (try have rbm := (Nat.ne_of_lt rB.lt).symm);
           (try have pan := Nat.ne_of_lt pA.lt);
           (try have pam := (Nat.ne_of_lt pA.lt).symm);
           (try have pbn := Nat.ne_of_lt pB.lt);
           (try have pbm := (Nat.ne_of_lt pB.lt).symm))))
      all_goals (go_wp2_with fail; go_meet; refine ⟨rfl, rfl, rfl, _, _, a1, a2, rfl, rfl, ?_⟩)
      all_goals first
        | (with_reducible exact fin_A bv K1 K2)
        | (with_reducible exact fin_E bv K1 K2)
        | ((with_reducible refine fin_C bv hTI.out K1 K2 ?_ ?_ ?_ ?_ ?_) <;> first | assumption | omega)
        | ((with_reducible refine fin_B bv hTI.out K1 K2 ?_ ?_) <;> first | assumption | omega)
        | ((with_reducible refine fin_D bv hTI.out K1 K2 ?_ ?_) <;> first | assumption | omega)
    case rest =>
      obtain ⟨rfl, rfl, rfl, X, Y, a, a', rfl, rfl, hX, hY, K1, K2, lX, lY, bc⟩ := hcut
      obtain ⟨x0, x1, x2, x3⟩ := id hX
      obtain ⟨y0, y1, y2, y3⟩ := id hY
      have hal := fun w1 => alike_any k n s a L.length k' n' s' a' M.length (cl_n hcl1).1 w1
      have hap := allz_app samS st' su' [⟨e1 + 1, mkT k n s ps⟩] [⟨e2 + 1, mkT k' n' s' qs⟩] hlen.out.symm
      have hap1 : allz samS [⟨e1 + 1, mkT k n s ps⟩] [⟨e2 + 1, mkT k' n' s' qs⟩] = (samS ⟨e1 + 1, mkT k n s ps⟩ ⟨e2 + 1, mkT k' n' s' qs⟩ && true) := rfl
      have hVV := hV.out
      rw [hap, hap1, Bool.and_true] at hVV
      cases hq : alk k n s k' n' s' with
      | false =>
        simp only [hq] at hal
        have hF : V = false := by rw [← hVV, sam_no hq, Bool.and_false]
        subst hF
        clear hVV hap hap1 hV hO hL hC hC' hM hM' hTI hLH hMH HP HP' hlen hm hm' hcl1 hcl2 hq K1 K2 s1 h2 hX hY
        go_wp2_with (first
          | (go_at_call 28; refine (hal _).mono ?_; rintro e w3 ⟨rfl, b3⟩))
        go_ret
        exact ⟨rfl, (hb.trans (bc.mono hb.size)).trans (b3.mono (Nat.le_trans hb.size bc.size))⟩
      | true =>
        simp only [hq] at hal
        obtain ⟨hpq, hsam⟩ := sam_yes hq hcl1 hcl2
        rw [hsam, ← allz_kid] at hVV
        have hV2 : Hid (allz samS (st' ++ kidS ps) (su' ++ kidS qs) = V) := by show _ = _; rw [allz_app samS st' su' _ _ hlen.out.symm]; exact hVV
        clear hVV hap hap1 hV hq s1 h2 hX hY
        have hgg : g ≠ g' := fun e => hO.out g rfl (by rw [e]; rfl)
        have hL2 : L.length ≤ 2 := by rw [← hLH.out]; simpa using (Cl.parts hcl1).1
        have hM2 : M.length ≤ 2 := by rw [← hMH.out]; simpa using (Cl.parts hcl2).1
        have hLn : Hid (L.length = ps.length) := by rw [← hLH.out]; show _ = _; simp
        have hMn : Hid (M.length = qs.length) := by rw [← hMH.out]; show _ = _; simp
        have hcx : cntS ⟨e1 + 1, mkT k n s ps⟩ = (ps.map (cnt e1)).sum + 1 := cnt_mk k n s ps
        have hcy : cntS ⟨e2 + 1, mkT k' n' s' qs⟩ = (qs.map (cnt e2)).sum + 1 := cnt_mk k' n' s' qs
        rw [hcx] at hm
        rw [hcy] at hm'
        have hNC : Hid (∀ y ∈ st' ++ kidS ps, ClS y) := fun y hy => by
          rcases List.mem_append.1 hy with h | h
          · exact hC.out y (by simp [h])
          · obtain ⟨p, hp, rfl⟩ := List.mem_map.1 h
            exact (Cl.parts hcl1).2 p hp
        have hNC' : Hid (∀ y ∈ su' ++ kidS qs, ClS y) := fun y hy => by
          rcases List.mem_append.1 hy with h | h
          · exact hC'.out y (by simp [h])
          · obtain ⟨p, hp, rfl⟩ := List.mem_map.1 h
            exact (Cl.parts hcl2).2 p hp
        have hNM : Hid (((st' ++ kidS ps).map cntS).sum ≤ (st'.map cntS).sum + (ps.map (cnt e1)).sum) := by show _ ≤ _; rw [List.map_append, List.sum_append, kidS_cnt]; exact Nat.le_refl _
        have hNM' : Hid ((st'.map cntS).sum + (ps.map (cnt e1)).sum ≤ 2000 ∧ ((su' ++ kidS qs).map cntS).sum ≤ 2000) := by
          refine ⟨by omega, ?_⟩
          rw [List.map_append, List.sum_append, kidS_cnt]
          omega
        have hNL : Hid ((st' ++ kidS ps).length = (su' ++ kidS qs).length) := by show _ = _; rw [List.length_append, List.length_append, kidS_len, kidS_len, hlen.out, hpq]
        have hgm : (st'.map cntS).sum + (ps.map (cnt e1)).sum < gk := by omega
        have hxg : some X ≠ some g := by simp; omega
        have hyg : some Y ≠ some g := by simp; omega
        have hxg' : some X ≠ some g' := by simp; omega
        have hyg' : some Y ≠ some g' := by simp; omega
        have hqs : Hid (st'.length + M.length = su'.length + qs.length) := by show _ = _; rw [hlen.out, hMn.out]
        clear hm hm' hcx hcy hC hC' hM hM' hL hcl1 hcl2 hsam hpq hO
        go_wp2_with (first
          | (go_at_call 28; refine (hal _).mono ?_; rintro e w3 ⟨rfl, b3⟩))
        have bcw : Below wr.heap.size wr w3 := bc.trans (b3.mono bc.size)
        have hA3 : w3.drew.ownsRow w.heap.size 31 1 (.slice (some ⟨g, 0, none⟩) st'.length cap) st'.length (st'.map exS) := HP.out.on bcw.drew (Nat.le_refl _)
        have hB3 : w3.drew.ownsRow w.heap.size 31 1 (.slice (some ⟨g', 0, none⟩) st'.length cap') st'.length (su'.map exS) := by
          have := HP'.out.on bcw.drew (Nat.le_refl _)
          unfold Stk at this
          rw [hlen.out] at this
          exact this
        have K1' : KidsN wr.heap.size w3.drew (.slice a L.length L.length) L := KidsN.dr ⟨K1.1.below b3 (Nat.le_refl _), K1.2⟩
        have K2' : KidsN wr.heap.size w3.drew (.slice a' M.length M.length) M := KidsN.dr ⟨K2.1.below b3 (Nat.le_refl _), K2.2⟩
        have x4 : w3.cell? ⟨X, 3, none⟩ = some (.slice a L.length L.length) := (b3.cell (p := ⟨X, 3, none⟩) (World.block_lt_of_cell? _ _ x3)).trans x3
        have y4 : w3.cell? ⟨Y, 3, none⟩ = some (.slice a' M.length M.length) := (b3.cell (p := ⟨Y, 3, none⟩) (World.block_lt_of_cell? _ _ y3)).trans y3
        have hs3 : w.heap.size ≤ w3.drew.heap.size := Nat.le_trans hb.size bcw.size
        have hs4 := bcw.size
        have bbw : Below w.heap.size w w3.drew := (hb.trans (bcw.mono hb.size)).drew
        clear HP HP' K1 K2 x0 x1 x2 x3 y0 y1 y2 y3 hal bc b3 hb
        go_region_held_law (fun w' => w'.cell? ⟨X, 3, none⟩ = some (.slice a L.length L.length) ∧ w'.cell? ⟨Y, 3, none⟩ = some (.slice a' M.length M.length))
          (first
            | exact ⟨x4, y4⟩
            | exact ⟨x5, y5⟩
            | exact ⟨x6, y6⟩
            | go_keep)
          ((first
            | (have q1 := hA3; refine step_append_at _ (by rfl) (.tmp 36) (.tmp 38) 64 64 (by rfl) w.heap.size 31 i0 .nilIface 1 16 Tryz.underlying64 hi hz0 hz1 hz2 rfl _ st'.length _ (by rfl) q1 _ L.length L (by rfl) (K1'.1.src hTI.out.1) L.length (.inr (by omega)) (Nat.le_refl _) (by unfold maxLen; omega) hs3 ?_; intro v5 w5 ho5 hg5 hl5; have x5 := hg5.cell (cell_dr x4) hxg; have y5 := hg5.cell (cell_dr y4) hyg; have hB5 := World.ownsRow.kept hB3 hg5 (.inr (fun e => hgg (by simpa [Value.ownBlock] using e.symm))); have K5 := K2'.gr hg5 hgl; clear hA3 q1)
            | (refine step_append_at _ (by rfl) (.tmp 42) (.tmp 44) 64 64 (by rfl) w.heap.size 31 i0 .nilIface 1 16 Tryz.underlying64 hi hz0 hz1 hz2 rfl _ st'.length _ (by rfl) hB5 _ M.length M (by rfl) (K5.1.src hTI.out.2) M.length (.inr (by omega)) (Nat.le_refl _) (by unfold maxLen; omega) (Nat.le_trans hs3 hg5.size) ?_; intro v6 w6 ho6 hg6 hl6; have x6 := hg6.cell x5 hxg'; have y6 := hg6.cell y5 hyg')))
        have hz5 := World.ownsRow.lt ho5
        have hne5 : v5.ownBlock ≠ some g' := fun e => by
          rcases hl5 with q | q
          · rw [e] at q
            exact hgg (by simpa [Value.ownBlock] using q.symm)
          · rw [e] at q
            have q2 : g' = w3.drew.heap.size := by simpa using q
            have q3 : w3.drew.heap.size = w3.heap.size := rfl
            omega
        have hS5 : Stk w6 w.heap.size v5 (st' ++ kidS ps) := Stk.push (n := st'.length + L.length) (by rw [hLn.out]) (by rw [hLH.out]; exact World.ownsRow.kept ho5 hg6 (.inr hne5))
        have hS6 : Stk w6 w.heap.size v6 (su' ++ kidS qs) := Stk.push (n := st'.length + M.length) hqs.out (by rw [hMH.out]; exact ho6)
        have hO6 : Hid (oneB v5 v6) := fun b h1 h2 => by
          rcases hl6 with q | q
          · rw [h2] at q
            have q2 : b = g' := by simpa [Value.ownBlock] using q
            exact hne5 (by rw [h1, q2])
          · rw [h2] at q
            have q2 : b = w5.heap.size := by simpa using q
            have := (hz5 b h1).2
            omega
        have b5 : Below w.heap.size w w5 := bbw.grown hg5 hs3 (fun k hk => by
          have e : g = k := by simpa [Value.ownBlock] using hk
          omega)
        have b6 : Below w.heap.size w w6 := b5.grown hg6 (Nat.le_trans hs3 hg5.size) (fun k hk => by
          have e : g' = k := by simpa [Value.ownBlock] using hk
          omega)
        clear ho5 ho6 hg5 hg6 hl5 hl6 hB5 K5 K1' K2' hB3 x4 y4 x5 y5 x6 y6 hz5 hne5 bbw b5 bcw hcell hcell'
        simp only [List.getElem_toArray, List.getElem_cons_succ, List.getElem_cons_zero, List.set_cons_succ, List.set_cons_zero, List.setIfInBounds_toArray]
        go_wp2
        go_roundg ((st'.map cntS).sum + (ps.map (cnt e1)).sum)
        case measure => exact hgm
        case rel => exact ⟨st' ++ kidS ps, su' ++ kidS qs, hS5, hS6, hO6, hNL, hNC, hNC', hV2, hNM, hNM', b6⟩
end Go.Proofs.YtiddccohldjjcaaGreatDoor

/- What is asked of the program's Same. -/
namespace Go.Proofs.YtiddccohldjjcaaGreatDoor
open Go.RowKit Go.Lib
set_option linter.unusedSimpArgs false
set_option linter.unusedVariables false

/-- The program's Same answers as the document says. -/
def SameP : Prop := ∀ (d e : Nat) (t : T d) (u : T e) (w : World), Cl d t → Cl e u → cnt d t ≤ 2000 → cnt e u ≤ 2000 →
  Calls Tryz.prog 15 #[exV d t, exV e u] w fun r w' => r = .returned (.bool (samC d e t u)) ∧ Below w.heap.size w w'
end Go.Proofs.YtiddccohldjjcaaGreatDoor

/- What the program's Same does. -/
namespace Go.Proofs.YtiddccohldjjcaaGreatDoor
open Go.RowKit Go.Lib
set_option linter.unusedSimpArgs false
set_option linter.unusedVariables false

theorem start_any {d e : Nat} {t : T d} {u : T e} (w : World) (hc : Cl d t) (hc' : Cl e u) (hn : cnt d t ≤ 2000) (hn' : cnt e u ≤ 2000) : Start w (exV d t) (exV e u) (samC d e t u) := by
  refine ⟨[⟨d, t⟩], [⟨e, u⟩], ?_, ?_, rfl, ?_, ?_, ?_, ?_, ?_⟩
  · have := World.ownsRow_lit (e := 31) (base := w.heap.size) (size := 1) w #[exV d t] 1 (Nat.le_refl _) (by simp [maxLen]) (by simp)
    have h2 := World.ownsRow.alloc this (.cells #[exV e u] 31)
    unfold Stk
    simpa [exS] using h2
  · have := World.ownsRow_lit (e := 31) (base := w.heap.size) (size := 1) (w.alloc (.cells #[exV d t] 31)) #[exV e u] 1 (by simp) (by simp [maxLen]) (by simp)
    unfold Stk
    simpa [exS] using this
  · intro z hz; simp at hz; subst hz; exact hc
  · intro z hz; simp at hz; subst hz; exact hc'
  · show (samC d e t u && true) = samC d e t u; simp
  · show cnt d t + 0 ≤ 2000; omega
  · show cnt e u + 0 ≤ 2000; omega
theorem sameP : SameP := by
  intro d e t u w hc hc' hn hn'
  have hs : Hid (Start w (exV d t) (exV e u) (samC d e t u)) := start_any w hc hc' hn hn'
  rcases exV_form d t with h | ⟨u1, y1, h⟩ <;> rcases exV_form e u with h' | ⟨u2, y2, h'⟩ <;> rw [h, h'] at hs ⊢
  · exact same_a hs
  · exact same_b hs
  · exact same_c hs
  · exact same_d hs
end Go.Proofs.YtiddccohldjjcaaGreatDoor

/- What awake answers; what parsing tells of its expression. -/
namespace Go.Proofs.YtiddccohldjjcaaGreatDoor
open Go.RowKit Go.Lib
set_option linter.unusedSimpArgs false
set_option linter.unusedVariables false
attribute [local go_sem ↓] Go.wp_at_zero Go.wp_at_succ
def oneX : Sx := mk2 ⟨#[43]⟩ (mk0 1 1 ⟨#[]⟩) (mk0 1 2 ⟨#[]⟩)
set_option maxRecDepth 100000 in
theorem parse_one : parseC [49, 32, 43, 32, 50] = (oneX, 0) := by kernel_rfl
theorem cl_no : ClX noX := cl_none (d := 0)
theorem cl_one : ClX oneX := cl_mk2 (show Cl 1 (mkT 1 1 ⟨#[]⟩ []) from .inl ⟨rfl, rfl, rfl⟩) (show Cl 1 (mkT 1 2 ⟨#[]⟩ []) from .inl ⟨rfl, rfl, rfl⟩)
theorem take_cl {ws : List Wd} (h : ∀ x ∈ ws, OneW x.1 x.2.1) : ClX (takeC (ws.map tkW)).1 ∧ cntX (takeC (ws.map tkW)).1 ≤ 2000 := by
  have hb : BadOr _ 0 (rdC (ws.map tkW)) := fine_read h _ 1 0 (by omega) (by omega)
  unfold takeC
  rcases hb with ⟨e1, e2⟩ | e1
  · rw [if_neg (by omega)]
    by_cases hq : fmX (rdC (ws.map tkW)).1 = true
    · rw [if_pos hq]
      have := (fm_parts hq).1
      exact ⟨e2.1.cl, by show cnt _ _ ≤ 2000; simp only; omega⟩
    · rw [if_neg hq]; exact ⟨cl_no, (show cntX noX ≤ 2000 by decide)⟩
  · rw [if_pos e1]; exact ⟨cl_no, (show cntX noX ≤ 2000 by decide)⟩
theorem parse_no {s : List UInt8} (h : (parseC s).2 ≠ 0) : (parseC s).1 = noX := by
  unfold parseC at h ⊢
  split
  · rfl
  · split
    · rfl
    · split
      · rfl
      · rename_i h1 h2 h3
        rw [if_neg h1, if_neg h2, if_neg h3] at h
        exact absurd rfl h
theorem parse_cl (s : List UInt8) : ClX (parseC s).1 ∧ cntX (parseC s).1 ≤ 2000 := by
  by_cases h : (parseC s).2 = 0
  · obtain ⟨h1, h2⟩ := parse_fine h
    exact ⟨h1.cl, by have := (fm_parts h2).1; show cnt _ _ ≤ 2000; omega⟩
  · rw [parse_no h]; exact ⟨cl_no, (show cntX noX ≤ 2000 by decide)⟩
set_option maxRecDepth 100000 in
set_option maxHeartbeats 4000000 in
theorem awakeG (w : World) : Calls Tryz.prog 6 #[] w fun e w' => e = .returned (.bool true) ∧ Below w.heap.size w w' := by
  have h1 := pParse_any ⟨#[49, 32, 43, 32, 50]⟩ w (by decide)
  rw [show parseC (bl ⟨#[49, 32, 43, 32, 50]⟩) = (oneX, 0) from parse_one] at h1
  have h2 := fun w1 => sameP oneX.1 oneX.1 oneX.2 oneX.2 w1 cl_one cl_one (by decide) (by decide)
  simp only [samC_refl] at h2
  have e1 : exV oneX.1 oneX.2 = .iface 43 (.agg #[.string ⟨#[43]⟩, .iface 41 (.agg #[.int .i64 1]), .iface 41 (.agg #[.int .i64 2])]) := rfl
  have e2 : exX oneX = .iface 43 (.agg #[.string ⟨#[43]⟩, .iface 41 (.agg #[.int .i64 1]), .iface 41 (.agg #[.int .i64 2])]) := rfl
  simp only [e1] at h2
  simp only [e2] at h1
  clear e1 e2
  go_enter Tryz.func6, Tryz.ntmps6
  go_wp2_with (first
    | (go_at_call 14; refine h1.mono ?_; rintro e w1 ⟨rfl, b1⟩)
    | (go_at_call 15; refine (h2 _).mono ?_; rintro e w2 ⟨rfl, b2⟩))
  go_ret
  exact ⟨rfl, b1.trans (b2.mono b1.size)⟩
end Go.Proofs.YtiddccohldjjcaaGreatDoor

/- What the document's Nodes and deep do. -/
namespace Go.Proofs.YtiddccohldjjcaaGreatDoor
open Go.RowKit
set_option linter.unusedSimpArgs false
set_option linter.unusedVariables false

def NodesC (d : Nat) : Prop := ∀ (ok : Nat → Prop) (t : T d) (v : Value) (w : World), RdT ok w d t v → cnt d t ≤ 1000 →
  Calls Tryz.prog 55 #[v] w fun e w' => e = .returned (.int .i64 (ndC d t : Int)) ∧ Below w.heap.size w w'
def DeepC (d : Nat) : Prop := ∀ (ok : Nat → Prop) (t : T d) (v : Value) (w : World), RdT ok w d t v → cnt d t ≤ 1000 →
  Calls Tryz.prog 56 #[v] w fun e w' => e = .returned (.int .i64 (dpC d t : Int)) ∧ Below w.heap.size w w'

set_option maxRecDepth 100000 in
set_option maxHeartbeats 1000000 in
theorem nodes_step (d : Nat) (IH : NodesC d) : NodesC (d + 1) := by
  intro ok t v w h hcn
  obtain ⟨k, n, s, ps, rfl⟩ := T.open t
  obtain ⟨sl, rfl, hp⟩ := rdT_mk.1 h
  obtain ⟨a, cap, rfl, hlc, hcm, hcell⟩ := hp.form
  rw [cnt_mk] at hcn
  have hpl := cnt_len ps
  rw [ndC_mk]
  have hE : Hid (∀ m : Nat, m = (ps.map (ndC d)).sum → ((min ((ps.map (ndC d)).sum + 1) 41 : Nat) : Int) = min ((m : Int) + 1) 41) := fun m hm => by subst hm; omega
  have HC : Hid (∀ (i : Nat) (hi : i < ps.length), ∃ b off c0 c1 c2 c3, a = some ⟨b, off, none⟩ ∧ b < w.heap.size ∧ RdT ok w d ps[i] (.agg #[c0, c1, c2, c3]) ∧ w.cell? ⟨b, off + i * 4, none⟩ = some c0 ∧ w.cell? ⟨b, off + i * 4 + 1, none⟩ = some c1 ∧ w.cell? ⟨b, off + i * 4 + 2, none⟩ = some c2 ∧ w.cell? ⟨b, off + i * 4 + 3, none⟩ = some c3) := hcell
  have HP : Hid (∀ (i : Nat) (hi : i < ps.length), cnt d ps[i] ≤ 1000) := fun i hi => by have := cnt_part (List.getElem_mem hi); omega
  have hpl' : ps.length ≤ 1000 := by omega
  clear hcell h hp hcn hpl
  go_enter Tryz.func55, Tryz.ntmps55
  go_wp2
  go_loopw [3, 8] (fun l i wr => ∃ (j m : Nat), j ≤ ps.length ∧ i = .int .i64 (j : Int) ∧ l = .int .i64 ((m : Int) + 1) ∧ Hid (m = ((ps.take j).map (ndC d)).sum) ∧ m ≤ 41 * j ∧ At4 wr w.heap.size (.int .i64 k) (.int .i64 n) (.string s) (.slice a ps.length cap) ∧ Below w.heap.size w wr) (fun _ i _ => ps.length - (RowKit.intOf i).toNat)
  case atStart => exact ⟨0, 0, Nat.zero_le _, rfl, rfl, rfl, by omega, At4.new _ _ _ _ _ _, (Below.refl _ _).alloc (Nat.le_refl _) _⟩
  case round =>
    obtain ⟨j, m, hj, rfl, rfl, hm, hmb, hA, hb⟩ := hrel
    obtain ⟨y0, y1, y2, y3⟩ := id hA
    by_cases hlt : j < ps.length
    · obtain ⟨b, off, c0, c1, c2, c3, rfl, hbl, hr, k0, k1, k2, k3⟩ := HC.out j hlt
      have C0 := (hb.cell (p := ⟨b, off + j * 4, none⟩) hbl).trans k0
      have C1 := (hb.cell (p := ⟨b, off + j * 4 + 1, none⟩) hbl).trans k1
      have C2 := (hb.cell (p := ⟨b, off + j * 4 + 2, none⟩) hbl).trans k2
      have C3 := (hb.cell (p := ⟨b, off + j * 4 + 3, none⟩) hbl).trans k3
      have hcall := IH ok ps[j] _ wr (RdT.below hb (Nat.le_refl _) hr) (HP.out j hlt)
      have hst := sum_take_succ (ndC d) ps j hlt
      have hle := ndC_le d ps[j]
      obtain ⟨z, hz⟩ : ∃ z, ndC d ps[j] = z := ⟨_, rfl⟩
      rw [hz] at hcall hst hle
      have hN : Hid (m + z = ((ps.take (j + 1)).map (ndC d)).sum) := by show m + z = _; rw [hst, ← hm.out]
      have i1 : (j : Int) < (ps.length : Int) := by omega
      have i2 : (0 : Int) ≤ (j : Int) := by omega
      clear k0 k1 k2 k3 hr hbl hst hz
      go_wp2_with (first
        | (go_at_call 55; refine hcall.mono ?_; rintro e w1 ⟨rfl, b1⟩))
      go_roundw
      case rel => exact ⟨j + 1, m + z, hlt, by go_num, by go_num, hN, by omega, hA.keepB b1 (World.block_lt_of_cell? wr _ y0), hb.trans (b1.mono hb.size)⟩
      case measure => simp [RowKit.intOf]; omega
    · have i1 : ¬ (j : Int) < (ps.length : Int) := by omega
      have hmm := hm.out
      rw [List.take_of_length_le (by omega)] at hmm
      have hF := hE.out m hmm
      clear hmm
      go_wp2
      all_goals go_ret
      all_goals exact ⟨ret_i64 (by omega), hb⟩
theorem nodes_any : ∀ (d : Nat), NodesC d
  | 0 => fun _ t => Empty.elim t
  | d + 1 => nodes_step d (nodes_any d)

set_option maxRecDepth 100000 in
set_option maxHeartbeats 1000000 in
theorem deep_step (d : Nat) (IH : DeepC d) : DeepC (d + 1) := by
  intro ok t v w h hcn
  obtain ⟨k, n, s, ps, rfl⟩ := T.open t
  obtain ⟨sl, rfl, hp⟩ := rdT_mk.1 h
  obtain ⟨a, cap, rfl, hlc, hcm, hcell⟩ := hp.form
  rw [cnt_mk] at hcn
  have hpl := cnt_len ps
  rw [dpC_mk]
  have HC : Hid (∀ (i : Nat) (hi : i < ps.length), ∃ b off c0 c1 c2 c3, a = some ⟨b, off, none⟩ ∧ b < w.heap.size ∧ RdT ok w d ps[i] (.agg #[c0, c1, c2, c3]) ∧ w.cell? ⟨b, off + i * 4, none⟩ = some c0 ∧ w.cell? ⟨b, off + i * 4 + 1, none⟩ = some c1 ∧ w.cell? ⟨b, off + i * 4 + 2, none⟩ = some c2 ∧ w.cell? ⟨b, off + i * 4 + 3, none⟩ = some c3) := hcell
  have HP : Hid (∀ (i : Nat) (hi : i < ps.length), cnt d ps[i] ≤ 1000) := fun i hi => by have := cnt_part (List.getElem_mem hi); omega
  have hpl' : ps.length ≤ 1000 := by omega
  clear hcell h hp hcn hpl
  go_enter Tryz.func56, Tryz.ntmps56
  go_wp2
  go_loopw [3, 8] (fun l i wr => ∃ (j m : Nat), j ≤ ps.length ∧ i = .int .i64 (j : Int) ∧ l = .int .i64 (m : Int) ∧ Hid (m = ((ps.take j).map (dpC d)).foldl max 0) ∧ m ≤ 1000 ∧ At4 wr w.heap.size (.int .i64 k) (.int .i64 n) (.string s) (.slice a ps.length cap) ∧ Below w.heap.size w wr) (fun _ i _ => ps.length - (RowKit.intOf i).toNat)
  case atStart => exact ⟨0, 0, Nat.zero_le _, rfl, rfl, rfl, by omega, At4.new _ _ _ _ _ _, (Below.refl _ _).alloc (Nat.le_refl _) _⟩
  case round =>
    obtain ⟨j, m, hj, rfl, rfl, hm, hmb, hA, hb⟩ := hrel
    obtain ⟨y0, y1, y2, y3⟩ := id hA
    by_cases hlt : j < ps.length
    · obtain ⟨b, off, c0, c1, c2, c3, rfl, hbl, hr, k0, k1, k2, k3⟩ := HC.out j hlt
      have C0 := (hb.cell (p := ⟨b, off + j * 4, none⟩) hbl).trans k0
      have C1 := (hb.cell (p := ⟨b, off + j * 4 + 1, none⟩) hbl).trans k1
      have C2 := (hb.cell (p := ⟨b, off + j * 4 + 2, none⟩) hbl).trans k2
      have C3 := (hb.cell (p := ⟨b, off + j * 4 + 3, none⟩) hbl).trans k3
      have hcall := IH ok ps[j] _ wr (RdT.below hb (Nat.le_refl _) hr) (HP.out j hlt)
      have hst := max_take_succ (dpC d) ps j hlt
      have hle := Nat.le_trans (dpC_le d ps[j]) (HP.out j hlt)
      obtain ⟨z, hz⟩ : ∃ z, dpC d ps[j] = z := ⟨_, rfl⟩
      rw [hz] at hcall hst hle
      have hN : Hid (max m z = ((ps.take (j + 1)).map (dpC d)).foldl max 0) := by show max m z = _; rw [hst, ← hm.out]
      have i1 : (j : Int) < (ps.length : Int) := by omega
      have i2 : (0 : Int) ≤ (j : Int) := by omega
      clear k0 k1 k2 k3 hr hbl hst hz
      go_wp2_with (first
        | (go_at_call 56; refine hcall.mono ?_; rintro e w1 ⟨rfl, b1⟩))
      go_roundw
      case rel => exact ⟨j + 1, max m z, hlt, by go_num, by first | rw [show (if m < z then (z : Int) else (m : Int)) = ((max m z : Nat) : Int) by split <;> omega] | (refine congrArg _ ?_; omega), hN, by omega, hA.keepB b1 (World.block_lt_of_cell? wr _ y0), hb.trans (b1.mono hb.size)⟩
      case measure => simp [RowKit.intOf]; omega
    · have i1 : ¬ (j : Int) < (ps.length : Int) := by omega
      have hmm := hm.out
      rw [List.take_of_length_le (by omega)] at hmm
      go_wp2
      go_ret
      rw [← hmm]
      exact ⟨by go_num, hb⟩
theorem deep_any : ∀ (d : Nat), DeepC d
  | 0 => fun _ t => Empty.elim t
  | d + 1 => deep_step d (deep_any d)
end Go.Proofs.YtiddccohldjjcaaGreatDoor
/- The decoder of runes at this program, and the two tables that it reads. -/
namespace Go.Proofs.YtiddccohldjjcaaGreatDoor
open Go.Shelf Go.RowKit
set_option linter.unusedVariables false

def renU : Ren := { f := fun x => match x with | 197 => 110 | 260 => 114 | n => n, t := fun x => match x with | 9 => 9 | 21 => 21 | 3 => 3 | 4 => 4 | 5 => 5 | 105 => 143 | 119 => 161 | 0 => 0 | 46 => 100 | 139 => 164 | 138 => 163 | n => n, g := fun x => match x with | 3 => 3 | 4 => 4 | n => n }
theorem laysU : Lays.n197 Tryz.prog renU :=
  { mixed := by kernel_rfl, f197 := Tryz.func110.trans (congrArg some (by kernel_rfl)), f260 := Tryz.func114.trans (congrArg some (by kernel_rfl)), t0 := Tryz.underlying0, a0 := Tryz.isAgg0, z0 := Tryz.sizeOf0, v0 := Tryz.zeroValue0, t3 := Tryz.underlying3, a3 := Tryz.isAgg3, z3 := Tryz.sizeOf3, v3 := Tryz.zeroValue3, t4 := Tryz.underlying4, a4 := Tryz.isAgg4, z4 := Tryz.sizeOf4, v4 := Tryz.zeroValue4, t5 := Tryz.underlying5, a5 := Tryz.isAgg5, z5 := Tryz.sizeOf5, v5 := Tryz.zeroValue5, t9 := Tryz.underlying9, a9 := Tryz.isAgg9, z9 := Tryz.sizeOf9, v9 := Tryz.zeroValue9, t21 := Tryz.underlying21, a21 := Tryz.isAgg21, z21 := Tryz.sizeOf21, v21 := Tryz.zeroValue21, t46 := Tryz.underlying100, a46 := Tryz.isAgg100, z46 := Tryz.sizeOf100, v46 := Tryz.zeroValue100, t105 := Tryz.underlying143, a105 := Tryz.isAgg143, z105 := Tryz.sizeOf143, v105 := Tryz.zeroValue143, t119 := Tryz.underlying161, a119 := Tryz.isAgg161, z119 := Tryz.sizeOf161, t138 := Tryz.underlying163, a138 := Tryz.isAgg163, z138 := Tryz.sizeOf163, v138 := Tryz.zeroValue163, t139 := Tryz.underlying164, a139 := Tryz.isAgg164, z139 := Tryz.sizeOf164, v139 := Tryz.zeroValue164, g3 := by kernel_rfl, g4 := by kernel_rfl }
/-- The tables' cells. -/
def Tabs (w : World) : Prop := Lib.Utf8Tabs 3 4 w
theorem Tabs.below {w w' : World} {B : Nat} (h : Tabs w) (hb : Below B w w') (hB : w.heap.size ≤ B) : Tabs w' := by
  have k : ∀ {p : Addr} {v : Value}, w.cell? p = some v → w'.cell? p = some v := fun {p v} hc => by
    have hlt := World.block_lt_of_cell? w _ hc
    rw [hb.cell (by omega)]
    exact hc
  exact ⟨fun c hc => k (h.1 c hc), fun i hi => ⟨k (h.2 i hi).1, k (h.2 i hi).2⟩⟩
theorem decode_any (s : ByteArray) (w : World) (hT : Tabs w) :
    Calls Tryz.prog 110 #[.string s] w fun e w' => e = .returned (.tuple #[.int .i32 (Lib.decodeGo s).1, .int .i64 (Lib.decodeGo s).2]) ∧ Below w.heap.size w w' :=
  Any.utf8_DecodeRuneInString laysU s w hT
theorem extraU : U8Extra Tryz.prog renU := { n3 := by kernel_rfl, n4 := by kernel_rfl, y3 := by kernel_rfl, y4 := by kernel_rfl, c5 := by kernel_rfl, c119 := by kernel_rfl, c138 := by kernel_rfl }
theorem tabs_of {w : World} {n3 n4 : String} {L : List (String × DataW Unit)} (h : laidMetH Tryz.prog L w) (hp : (L.all fun x => x.2.handleName?.isNone) = true) (m4 : (n4, Rows.laid_unicode_utf8_acceptRanges) ∈ L) (m3 : (n3, Rows.laid_unicode_utf8_first) ∈ L)
    (e3' : Lib.VarReads Tryz.prog w n3 Lib.firstData → Lib.VarReads Tryz.prog w n4 Lib.acceptData → Lib.Utf8Tabs (renU.g 3) (renU.g 4) w) : Tabs w := by
  rw [MakeChecks.laidMetH_plain _ _ _ hp] at h
  have h4 := Lib.laidMet.reads h (n := n4) (d := Rows.laid_unicode_utf8_acceptRanges) m4
  have h3 := Lib.laidMet.reads h (n := n3) (d := Rows.laid_unicode_utf8_first) m3
  have d4 : (Rows.laid_unicode_utf8_acceptRanges : DataW Unit) = Lib.acceptData := by kernel_rfl
  have d3 : Rows.laid_unicode_utf8_first = Lib.firstData := Pinned.utf8First_eq
  rw [d4] at h4
  rw [d3] at h3
  exact e3' h3 h4
end Go.Proofs.YtiddccohldjjcaaGreatDoor

/- What the document's Letter, digit, inside, next, run and Name do. -/
namespace Go.Proofs.YtiddccohldjjcaaGreatDoor
open Go.RowKit Go.Lib
set_option linter.unusedSimpArgs false
set_option linter.unusedVariables false

theorem refLetter_any (r : Int) (w : World) : Calls Tryz.prog 105 #[.int .i32 r] w fun e w' => e = .returned (.bool (letter r)) ∧ w = w' := by
  rw [letter_eq]
  go_enter Tryz.func105, Tryz.ntmps105
  go_wp2
  all_goals go_ret
  all_goals (refine ⟨ret_bool ?_, rfl⟩; first | rfl | (rw [Bool.eq_iff_iff]; simp; omega) | (rw [Bool.eq_iff_iff]; simp [*]; omega))
theorem refDigit_any (r : Int) (w : World) : Calls Tryz.prog 115 #[.int .i32 r] w fun e w' => e = .returned (.bool (dgt r)) ∧ w = w' := by
  rw [dgt_eq]
  go_enter Tryz.func115, Tryz.ntmps115
  go_wp2
  all_goals go_ret
  all_goals (refine ⟨ret_bool ?_, rfl⟩; first | rfl | (rw [Bool.eq_iff_iff]; simp; omega) | (rw [Bool.eq_iff_iff]; simp [*]; omega))
theorem refInside_any (r : Int) (w : World) : Calls Tryz.prog 111 #[.int .i32 r] w fun e w' => e = .returned (.bool (insd r)) ∧ w = w' := by
  have h1 := refLetter_any r w
  have h2 := refDigit_any r w
  have h3 : insd r = (letter r || dgt r || r == 95) := rfl
  rw [h3]
  cases ha : letter r <;> rw [ha] at h1
  · cases hb : dgt r <;> rw [hb] at h2
    · go_enter Tryz.func111, Tryz.ntmps111
      go_wp2_with (first
        | (go_at_call 105; refine h1.mono ?_; rintro e w' ⟨rfl, rfl⟩)
        | (go_at_call 115; refine h2.mono ?_; rintro e w' ⟨rfl, rfl⟩))
      go_ret
      exact ⟨ret_bool (by simp), rfl⟩
    · go_enter Tryz.func111, Tryz.ntmps111
      go_wp2_with (first
        | (go_at_call 105; refine h1.mono ?_; rintro e w' ⟨rfl, rfl⟩)
        | (go_at_call 115; refine h2.mono ?_; rintro e w' ⟨rfl, rfl⟩))
      go_ret
      exact ⟨ret_bool (by simp), rfl⟩
  · go_enter Tryz.func111, Tryz.ntmps111
    go_wp2_with (first
      | (go_at_call 105; refine h1.mono ?_; rintro e w' ⟨rfl, rfl⟩)
      | (go_at_call 115; refine h2.mono ?_; rintro e w' ⟨rfl, rfl⟩))
    go_ret
    exact ⟨ret_bool (by simp), rfl⟩

theorem decodeGo_nil {s : ByteArray} (h : bl s = []) : Lib.decodeGo s = (65533, 0) := by
  unfold Lib.decodeGo
  rw [if_pos]
  rw [← bl_length, h]; rfl
theorem decodeGo_eq {s : ByteArray} (h : bl s ≠ []) : Lib.decodeGo s = decodeL (bl s) := by
  unfold Lib.decodeGo
  rw [if_neg, ← decodeL_drop s 0, List.drop_zero]
  intro e
  exact h (List.eq_nil_of_length_eq_zero (by rw [bl_length]; exact e))

theorem refNext_any (s : ByteArray) (w : World) (hT : Tabs w) :
    Calls Tryz.prog 103 #[.string s] w fun e w' => e = .returned (tup2 (nx (bl s)).1 (nx (bl s)).2) ∧ Below w.heap.size w w' := by
  have h1 := decode_any s w hT
  obtain ⟨a, ha⟩ : ∃ a, (Lib.decodeGo s).1 = a := ⟨_, rfl⟩
  obtain ⟨b, hb⟩ : ∃ b, (Lib.decodeGo s).2 = b := ⟨_, rfl⟩
  rw [ha, hb] at h1
  have hn : nx (bl s) = if a = 65533 ∧ b ≤ 1 then (-1, b) else ((a : Int), b) := by
    by_cases hl : bl s = []
    · have := decodeGo_nil hl
      rw [this] at ha hb
      simp only at ha hb
      subst ha; subst hb
      rw [hl]; rfl
    · unfold nx
      rw [if_neg hl, ← decodeGo_eq hl, ha, hb]
  by_cases h1' : a = 65533
  · by_cases h2' : b ≤ 1
    · rw [hn, if_pos ⟨h1', h2'⟩]
      have e1 : ((a : Int) == 65533) = true := by simp; omega
      have e2 : (b : Int) ≤ 1 := by omega
      clear hn ha hb h1'
      go_enter Tryz.func103, Tryz.ntmps103
      go_wp2_with (first
        | (go_at_call 110; refine h1.mono ?_; rintro e w1 ⟨rfl, b1⟩))
      go_ret2
      exact ⟨rfl, b1⟩
    · rw [hn, if_neg (fun h => h2' h.2)]
      have e1 : ((a : Int) == 65533) = true := by simp; omega
      have e2 : ¬ (b : Int) ≤ 1 := by omega
      clear hn ha hb h1'
      go_enter Tryz.func103, Tryz.ntmps103
      go_wp2_with (first
        | (go_at_call 110; refine h1.mono ?_; rintro e w1 ⟨rfl, b1⟩))
      go_ret2
      exact ⟨rfl, b1⟩
  · rw [hn, if_neg (fun h => h1' h.1)]
    have e1 : ((a : Int) == 65533) = false := by simp; omega
    clear hn ha hb
    go_enter Tryz.func103, Tryz.ntmps103
    go_wp2_with (first
      | (go_at_call 110; refine h1.mono ?_; rintro e w1 ⟨rfl, b1⟩))
    go_ret2
    exact ⟨rfl, b1⟩
end Go.Proofs.YtiddccohldjjcaaGreatDoor

/- What the document's run and Name do. -/
namespace Go.Proofs.YtiddccohldjjcaaGreatDoor
open Go.RowKit Go.Lib
set_option linter.unusedSimpArgs false
set_option linter.unusedVariables false

set_option maxHeartbeats 400000 in
theorem refRun_any (s : ByteArray) (w : World) (hT : Tabs w) (hs : s.size ≤ 140737488351232) :
    Calls Tryz.prog 104 #[.string s] w fun e w' => e = .returned (.tuple #[.int .i64 (spb (bl s) : Int), .int .i64 (spn (runes (bl s)) : Int)]) ∧ Below w.heap.size w w' := by
  go_enter Tryz.func104, Tryz.ntmps104
  go_wp2
  go_loopw [4, 5] (fun a b wr => ∃ (m k : Nat), a = .int .i64 (k : Int) ∧ b = .int .i64 (m : Int) ∧ Hid (Adv (bl s) m k) ∧ Below w.heap.size w wr) (fun a _ _ => s.size - (RowKit.intOf a).toNat)
  case atStart => exact ⟨0, 0, rfl, rfl, Adv.zero _, Below.refl _ _⟩
  case round =>
    obtain ⟨m, k, rfl, rfl, ha, hb⟩ := hrel
    have hle := ha.out.le
    have hfw := ha.out.few
    rw [bl_length] at hle
    have hTr := hT.below hb (Nat.le_refl _)
    by_cases hk : k < s.size
    · have hk' : (k : Int) < (s.size : Int) := by omega
      have hk0 : (0 : Int) ≤ (k : Int) := by omega
      have h20 := refNext_any (s.extract k s.size) _ hTr
      rw [bl_from] at h20
      have hne := drop_ne (l := bl s) (by rw [bl_length]; exact hk)
      have hps := nx_pos hne
      have hnl := nx_le hne
      rw [List.length_drop, bl_length] at hnl
      obtain ⟨r, hr⟩ : ∃ r, (nx ((bl s).drop k)).1 = r := ⟨_, rfl⟩
      obtain ⟨q, hq⟩ : ∃ q, (nx ((bl s).drop k)).2 = q := ⟨_, rfl⟩
      rw [hr, hq] at h20
      rw [hq] at hps hnl
      have hw : IntKind.i64.wrap ((k : Int) + (q : Int)) = (k : Int) + q := by rw [IntKind.wrap_i64]; omega
      have hw1 : IntKind.i64.wrap ((m : Int) + 1) = (m : Int) + 1 := by rw [IntKind.wrap_i64]; omega
      have h26 := fun w1 => refInside_any r w1
      cases hi : insd r with
      | true =>
        rw [hi] at h26
        have hA : Hid (Adv (bl s) (m + 1) (k + q)) := by have := ha.out.step (by rw [bl_length]; exact hk) (by rw [hr]; exact hi); rw [hq] at this; exact this
        clear hr hq hne hi hT hTr
        go_wp2_with (first
          | (go_at_call 103; refine h20.mono ?_; rintro e w1 ⟨rfl, b1⟩)
          | (go_at_call 111; refine (h26 _).mono ?_; rintro e w' ⟨rfl, rfl⟩))
        go_roundw
        case rel => exact ⟨m + 1, k + q, by go_num, by go_num, hA, hb.trans (b1.mono hb.size)⟩
        case measure => simp [RowKit.intOf]; omega
      | false =>
        rw [hi] at h26
        have hE : Hid (spn (runes (bl s)) = m) := ha.out.stop (.inr (by rw [hr]; exact hi))
        have hZ : Hid (spb (bl s) = k) := by show spb (bl s) = k; unfold spb; rw [hE.out]; exact ha.out.size
        clear hr hq hne hi hT hTr
        go_wp2_with (first
          | (go_at_call 103; refine h20.mono ?_; rintro e w1 ⟨rfl, b1⟩)
          | (go_at_call 111; refine (h26 _).mono ?_; rintro e w' ⟨rfl, rfl⟩))
        go_ret2
        rw [hE.out, hZ.out]
        exact ⟨rfl, hb.trans (b1.mono hb.size)⟩
    · have hk' : ¬ (k : Int) < (s.size : Int) := by omega
      have hE : Hid (spn (runes (bl s)) = m) := ha.out.stop (.inl (by rw [bl_length]; omega))
      have hZ : Hid (spb (bl s) = k) := by show spb (bl s) = k; unfold spb; rw [hE.out]; exact ha.out.size
      clear hT hTr
      go_wp2
      go_ret2
      rw [hE.out, hZ.out]
      exact ⟨rfl, hb⟩

set_option maxHeartbeats 400000 in
theorem refName_any (s : ByteArray) (w : World) (hT : Tabs w) (hs : s.size ≤ 140737488351232) :
    Calls Tryz.prog 85 #[.string s] w fun e w' => e = .returned (.bool (nameS (bl s))) ∧ Below w.heap.size w w' := by
  have h1 := refNext_any s w hT
  have h2 := fun w1 (hb : Below w.heap.size w w1) => refRun_any s w1 (hT.below hb (Nat.le_refl _)) hs
  have h3 : nameS (bl s) = (letter (nx (bl s)).1 && ((spb (bl s) : Int) == (s.size : Int)) && decide (spn (runes (bl s)) ≤ 24)) := rfl
  rw [h3]
  have h12 := fun w1 => refLetter_any (nx (bl s)).1 w1
  obtain ⟨r, hr⟩ : ∃ r, (nx (bl s)).1 = r := ⟨_, rfl⟩
  obtain ⟨q, hq⟩ : ∃ q, (nx (bl s)).2 = q := ⟨_, rfl⟩
  obtain ⟨k, hk⟩ : ∃ k, spb (bl s) = k := ⟨_, rfl⟩
  obtain ⟨m, hm⟩ : ∃ m, spn (runes (bl s)) = m := ⟨_, rfl⟩
  rw [hr] at h1 h12 ⊢
  rw [hq] at h1
  simp only [hk, hm] at h2 ⊢
  obtain ⟨a, ha⟩ : ∃ a, letter r = a := ⟨_, rfl⟩
  rw [ha] at h12 ⊢
  have e3 : decide (m ≤ 24) = decide ((m : Int) ≤ 24) := by rw [Bool.eq_iff_iff]; simp; omega
  rw [e3]
  clear h3 hr hq hk hm ha e3
  cases a
  · go_enter Tryz.func85, Tryz.ntmps85
    go_wp2_with (first
      | (go_at_call 103; refine h1.mono ?_; rintro e w1 ⟨rfl, b1⟩; have h2' := h2 w1 b1; clear h1 h2)
      | (go_at_call 104; refine h2'.mono ?_; rintro e w2 ⟨rfl, b2⟩; have b3 := b1.trans (b2.mono b1.size); clear h2' b1 b2)
      | (go_at_call 105; refine (h12 _).mono ?_; rintro e w' ⟨rfl, rfl⟩; clear h12))
    go_ret
    exact ⟨ret_bool (by simp), b3⟩
  · cases hkl : ((k : Int) == (s.size : Int))
    · go_enter Tryz.func85, Tryz.ntmps85
      go_wp2_with (first
        | (go_at_call 103; refine h1.mono ?_; rintro e w1 ⟨rfl, b1⟩; have h2' := h2 w1 b1; clear h1 h2)
        | (go_at_call 104; refine h2'.mono ?_; rintro e w2 ⟨rfl, b2⟩; have b3 := b1.trans (b2.mono b1.size); clear h2' b1 b2)
        | (go_at_call 105; refine (h12 _).mono ?_; rintro e w' ⟨rfl, rfl⟩; clear h12))
      go_ret
      exact ⟨ret_bool (by simp), b3⟩
    · go_enter Tryz.func85, Tryz.ntmps85
      go_wp2_with (first
        | (go_at_call 103; refine h1.mono ?_; rintro e w1 ⟨rfl, b1⟩; have h2' := h2 w1 b1; clear h1 h2)
        | (go_at_call 104; refine h2'.mono ?_; rintro e w2 ⟨rfl, b2⟩; have b3 := b1.trans (b2.mono b1.size); clear h2' b1 b2)
        | (go_at_call 105; refine (h12 _).mono ?_; rintro e w' ⟨rfl, rfl⟩; clear h12))
      all_goals go_ret
      all_goals exact ⟨ret_bool (by simp), b3⟩
end Go.Proofs.YtiddccohldjjcaaGreatDoor

/- What the document's operator, sound and Formed do. -/
namespace Go.Proofs.YtiddccohldjjcaaGreatDoor
open Go.RowKit Go.Lib
set_option linter.unusedSimpArgs false
set_option linter.unusedVariables false

theorem str_is (s : ByteArray) (x : List UInt8) : (s.toList == x) = (bl s == x) := by rw [ByteArray.toList_eq]

set_option maxHeartbeats 1000000 in
theorem operator_any (s : ByteArray) (w : World) : Calls Tryz.prog 86 #[.string s] w fun e w' => e = .returned (.bool (opr s)) ∧ w = w' := by
  have hS := str_is s
  obtain ⟨l, hl⟩ : ∃ l, bl s = l := ⟨_, rfl⟩
  have ho : opr s = ops9.any (fun x => l == x) := by rw [← hl]; rfl
  rw [ho]
  simp only [hl] at hS
  clear hl ho
  obtain ⟨L, hL⟩ : ∃ L, s.toList = L := ⟨_, rfl⟩
  have q0 : (s.toList == [43]) = (l == [43]) := hS _
  have q1 : (s.toList == [45]) = (l == [45]) := hS _
  have q2 : (s.toList == [42]) = (l == [42]) := hS _
  have q3 : (s.toList == [60]) = (l == [60]) := hS _
  have q4 : (s.toList == [60, 61]) = (l == [60, 61]) := hS _
  have q5 : (s.toList == [61, 61]) = (l == [61, 61]) := hS _
  have q6 : (s.toList == [33, 61]) = (l == [33, 61]) := hS _
  have q7 : (s.toList == [38, 38]) = (l == [38, 38]) := hS _
  have q8 : (s.toList == [124, 124]) = (l == [124, 124]) := hS _
  clear hS hL
  simp only [ops9, List.any_cons, List.any_nil, Bool.or_false]
  cases r0 : (l == [43])
  case true => rw [r0] at q0; clear q1 q2 q3 q4 q5 q6 q7 q8; go_enter Tryz.func86, Tryz.ntmps86; go_wp2; go_ret; exact ⟨ret_bool (by simp), rfl⟩
  cases r1 : (l == [45])
  case true => rw [r0] at q0; rw [r1] at q1; clear q2 q3 q4 q5 q6 q7 q8; go_enter Tryz.func86, Tryz.ntmps86; go_wp2; go_ret; exact ⟨ret_bool (by simp), rfl⟩
  rw [r0] at q0; rw [r1] at q1
  cases r2 : (l == [42])
  case true => rw [r2] at q2; clear q3 q4 q5 q6 q7 q8; go_enter Tryz.func86, Tryz.ntmps86; go_wp2; go_ret; exact ⟨ret_bool (by simp), rfl⟩
  rw [r2] at q2
  cases r3 : (l == [60])
  case true => rw [r3] at q3; clear q4 q5 q6 q7 q8; go_enter Tryz.func86, Tryz.ntmps86; go_wp2; go_ret; exact ⟨ret_bool (by simp), rfl⟩
  rw [r3] at q3
  cases r4 : (l == [60, 61])
  case true => rw [r4] at q4; clear q5 q6 q7 q8; go_enter Tryz.func86, Tryz.ntmps86; go_wp2; go_ret; exact ⟨ret_bool (by simp), rfl⟩
  rw [r4] at q4
  cases r5 : (l == [61, 61])
  case true => rw [r5] at q5; clear q6 q7 q8; go_enter Tryz.func86, Tryz.ntmps86; go_wp2; go_ret; exact ⟨ret_bool (by simp), rfl⟩
  rw [r5] at q5
  cases r6 : (l == [33, 61])
  case true => rw [r6] at q6; clear q7 q8; go_enter Tryz.func86, Tryz.ntmps86; go_wp2; go_ret; exact ⟨ret_bool (by simp), rfl⟩
  rw [r6] at q6
  cases r7 : (l == [38, 38])
  case true => rw [r7] at q7; clear q8; go_enter Tryz.func86, Tryz.ntmps86; go_wp2; go_ret; exact ⟨ret_bool (by simp), rfl⟩
  rw [r7] at q7
  cases r8 : (l == [124, 124])
  case true => rw [r8] at q8; go_enter Tryz.func86, Tryz.ntmps86; go_wp2; go_ret; exact ⟨ret_bool (by simp), rfl⟩
  rw [r8] at q8
  go_enter Tryz.func86, Tryz.ntmps86
  go_wp2
  go_ret
  exact ⟨ret_bool (by simp), rfl⟩
end Go.Proofs.YtiddccohldjjcaaGreatDoor
