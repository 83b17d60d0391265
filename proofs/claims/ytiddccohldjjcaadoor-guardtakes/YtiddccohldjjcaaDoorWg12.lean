import Derived.Test.YtiddccohldjjcaaDoorWg10
import Derived.Test.YtiddccohldjjcaaDoorWg05
import Derived.Test.YtiddccohldjjcaaDoorWg02
import Derived.Test.YtiddccohldjjcaaDoorWg11
import Derived.Test.YtiddccohldjjcaaDoorRows
import Derived.Test.YtiddccohldjjcaaDoorWg06
import Derived.BigQuiet
import Derived.Deep.QuietTactic
import Derived.BigRegion
import Derived.Shelf.Unicode.DecodeAny
import Derived.Lib.LaidU8
import Derived.PinnedBridge
import Derived.Lay
import Derived.LaidMore
import Derived.MakeChecks

/- What the program's Same does: one of four. -/
namespace Go.Proofs.YtiddccohldjjcaaDoor
open Go.RowKit Go.Lib
set_option linter.unusedSimpArgs false
set_option linter.unusedVariables false
attribute [local go_sem ↓] Go.wp_at_zero Go.wp_at_succ

set_option maxRecDepth 100000 in
set_option maxHeartbeats 8000000 in
theorem same_d {u1 u2 : Nat} {y1 y2 : Value} {V : Bool} {w : World} (hs1 : Hid (Start w (.iface u1 y1) (.iface u2 y2) V)) : Calls Tryd.prog 14 #[(.iface u1 y1), (.iface u2 y2)] w fun r w' => r = .returned (.bool V) ∧ Below w.heap.size w w' := by
  obtain ⟨i0, hi, hz0, hz1, hz2⟩ := info_parts Tryd.infoE
  go_enter Tryd.func14, Tryd.ntmps14
  go_wp2
  go_loopg [5, 6] 2000 (fun gn p q wr => ∃ (st su : List Sg), Stk wr w.heap.size p st ∧ Stk wr w.heap.size q su ∧ Hid (oneB p q) ∧ Hid (st.length = su.length) ∧ Hid (∀ y ∈ st, ClS y) ∧ Hid (∀ y ∈ su, ClS y) ∧ Hid (allz samS st su = V) ∧ Hid ((st.map cntS).sum ≤ gn) ∧ Hid (gn ≤ 2000 ∧ (su.map cntS).sum ≤ 2000) ∧ Below w.heap.size w wr)
  case atStart =>
    obtain ⟨S, S', h1, h2, h3, h4, h5, h6, h7, h8⟩ := hs1.out
    exact ⟨S, S', h1, h2, fun g hg hg' => by simp [Value.ownBlock] at hg hg'; omega, h3, h4, h5, h6, h7, ⟨Nat.le_refl _, h8⟩, ((Below.refl _ _).alloc (Nat.le_refl _) _).alloc (by simp) _⟩
  case round =>
    clear hs1
    obtain ⟨st, su, hS, hS', hO, hL, hC, hC', hV, hM, hM', hb⟩ := hrel
    by_cases he : st = []
    · subst he
      obtain ⟨a, cap, rfl⟩ := hS.nil
      have hF : V = true := by
        have h1 := hL.out
        have h2 : su = [] := List.eq_nil_of_length_eq_zero (by simpa using h1.symm)
        rw [← hV.out, h2]; rfl
      subst hF
      go_wp2
      go_ret
      exact ⟨rfl, hb⟩
    obtain ⟨st', x, rfl⟩ := last_of he
    have hne : su ≠ [] := by
      intro e; have h1 := hL.out; rw [e] at h1; simp at h1
    obtain ⟨su', y, rfl⟩ := last_of hne
    obtain ⟨g, cap, rfl, hcap, hcm, hgb, hgl, hcell, hP⟩ := hS.pop
    obtain ⟨g', cap', rfl, hcap', hcm', hgb', hgl', hcell', hP'⟩ := hS'.pop
    have hlen : Hid (su'.length = st'.length) := by have h1 := hL.out; show _ = _; simp at h1; exact h1.symm
    have hm := hM.out
    have hm' := hM'.out
    rw [List.map_append, List.sum_append, List.map_singleton, List.sum_singleton] at hm hm'
    have hcl1 := hC.out x (by simp)
    have hcl2 := hC'.out y (by simp)
    obtain ⟨e1, t1⟩ := x
    obtain ⟨e2, t2⟩ := y
    cases e1 with
    | zero => exact Empty.elim t1
    | succ e1 =>
    cases e2 with
    | zero => exact Empty.elim t2
    | succ e2 =>
    obtain ⟨k, n, s, ps, rfl, htop⟩ := topN_any (d := e1) (t := t1) hcl1
    obtain ⟨k', n', s', qs, rfl, htop'⟩ := topN_any (d := e2) (t := t2) hcl2
    obtain ⟨L, hLL⟩ : ∃ L, ps.map (exV e1) = L := ⟨_, rfl⟩
    obtain ⟨M, hMM⟩ : ∃ M, qs.map (exV e2) = M := ⟨_, rfl⟩
    obtain ⟨z, hz⟩ : ∃ z, exS ⟨e1 + 1, mkT k n s ps⟩ = z := ⟨_, rfl⟩
    obtain ⟨z', hz'⟩ : ∃ z, exS ⟨e2 + 1, mkT k' n' s' qs⟩ = z := ⟨_, rfl⟩
    have s1 : ∀ w1, Calls Tryd.prog 24 #[z] w1 fun e w' => ∃ sl, e = .returned (.agg #[.int .i64 k, .int .i64 n, .string s, sl]) ∧ KidsN w1.heap.size w' sl L ∧ Below w1.heap.size w1 w' := by rw [← hz, ← hLL]; exact htop
    have h2 : Hid (∀ w1, Calls Tryd.prog 24 #[z'] w1 fun e w' => ∃ sl, e = .returned (.agg #[.int .i64 k', .int .i64 n', .string s', sl]) ∧ KidsN w1.heap.size w' sl M ∧ Below w1.heap.size w1 w') := by rw [← hz', ← hMM]; exact htop'
    have hTI : Hid ((∀ v ∈ L, Ifc v) ∧ (∀ v ∈ M, Ifc v)) := by rw [← hLL, ← hMM]; exact ⟨ifc_map ps, ifc_map qs⟩
    have hLH : Hid (ps.map (exV e1) = L) := hLL
    have hMH : Hid (qs.map (exV e2) = M) := hMM
    rw [hz] at hcell
    rw [hz', hlen.out] at hcell'
    rw [hlen.out] at hP'
    have hsl : st'.length ≤ 2000 := by
      have q1 := stk_len st'
      have q2 := hM'.out.1
      omega
    have i1 : ((st'.length : Int) + 1 > 0) := by omega
    have i3 : (0 : Int) ≤ (st'.length : Int) := by omega
    have i4 : (st'.length : Int) ≤ (cap : Int) := by omega
    have i4' : (st'.length : Int) ≤ (cap' : Int) := by have := hlen.out; omega
    have i5 : (st'.length : Int) < (st'.length : Int) + 1 := by omega
    have HP : Hid (Stk wr w.heap.size (.slice (some ⟨g, 0, none⟩) st'.length cap) st') := hP
    have HP' : Hid (Stk wr w.heap.size (.slice (some ⟨g', 0, none⟩) st'.length cap') su') := hP'
    rw [hlen.out]
    clear hLL hMM hz hz' htop htop' hP hP' hS hS'
    go_wp2
    go_cut [5, 6, 7, 8, 9] (fun p5 p6 p7 p8 p9 wc => p5 = .slice (some ⟨g, 0, none⟩) (st'.length + 1) cap ∧ p6 = .slice (some ⟨g', 0, none⟩) (st'.length + 1) cap' ∧ p7 = .int .i64 (st'.length : Int) ∧
      ∃ X Y a a', p8 = .pointer (some ⟨X, 0, none⟩) ∧ p9 = .pointer (some ⟨Y, 0, none⟩) ∧ Both wr wc X Y (.int .i64 k) (.int .i64 n) (.string s) (.slice a L.length L.length) (.int .i64 k') (.int .i64 n') (.string s') (.slice a' M.length M.length) L M)
    case first =>
      clear hO hL hC hC' hV hM hM' hLH hMH HP HP' hlen hm hm' hcl1 hcl2 hi hz0 hz1 hz2 hne he
      have n1 : g ≠ wr.heap.size := by omega
      have n2 : g' ≠ wr.heap.size := by omega
      have n3 : g ≠ wr.heap.size + 1 := by omega
      have n4 : g' ≠ wr.heap.size + 1 := by omega
      go_region_held_law (fun w' => w'.cell? ⟨g, st'.length, none⟩ = some z ∧ w'.cell? ⟨g', st'.length, none⟩ = some z')
        ((refine ⟨?_, ?_⟩ <;> (repeat (first | (with_reducible exact hcell) | (with_reducible exact hcell') | (with_reducible exact c1) | (with_reducible exact c1') | (with_reducible exact c2) | (with_reducible exact c2') | (with_reducible refine cell_al ?_) | (with_reducible refine cell_dr ?_) | (with_reducible refine cell_far4 (ne_pt n1) ?_) | (with_reducible refine cell_far4 (ne_pt n2) ?_) | (with_reducible refine cell_far4 (ne_pt n3) ?_) | (with_reducible refine cell_far4 (ne_pt n4) ?_) | (with_reducible refine cell_far4 (ne_pt n5) ?_) | (with_reducible refine cell_far4 (ne_pt n6) ?_) | (with_reducible refine cell_far4 (ne_pt n7) ?_) | (with_reducible refine cell_far4 (ne_pt n8) ?_) | (with_reducible refine cell_far4 (ne_pt n9) ?_) | (with_reducible refine cell_far4 (ne_pt m1) ?_) | (with_reducible refine cell_far4 (ne_pt m2) ?_) | (with_reducible refine cell_far4 (ne_pt m3) ?_))) <;> done))
        ((first
        | (have s1' := s1; go_at_call 24; refine (s1' _).mono ?_; rintro e w1 ⟨sl, rfl, hk1, b1⟩; obtain ⟨a1, rfl⟩ := hk1.1.form; have s2 := h2.out; clear s1 s1' h2;
           have bw : Below wr.heap.size wr w1 := (by first | (with_reducible exact bw0 b1) | (with_reducible exact bw1 b1) | (with_reducible exact bw2 b1));
           have r1 : wr.heap.size ≤ w1.heap.size := bw.size; have k1 : ∀ gg, (Value.slice a1 L.length L.length).ownBlock = some gg → wr.heap.size ≤ gg := fun gg hgg => Nat.le_trans (by first | omega | (simp <;> omega)) (hk1.2 gg hgg);
           have n5 : g ≠ w1.heap.size := Nat.ne_of_lt (Nat.lt_of_lt_of_le hgl r1); have n6 : g' ≠ w1.heap.size := Nat.ne_of_lt (Nat.lt_of_lt_of_le hgl' r1); have n7 : g ≠ w1.heap.size + 1 := Nat.ne_of_lt (Nat.lt_succ_of_lt (Nat.lt_of_lt_of_le hgl r1)); have n8 : g' ≠ w1.heap.size + 1 := Nat.ne_of_lt (Nat.lt_succ_of_lt (Nat.lt_of_lt_of_le hgl' r1));
           have c1 := (bw.cell (p := ⟨g, st'.length, none⟩) hgl).trans hcell; have c1' := (bw.cell (p := ⟨g', st'.length, none⟩) hgl').trans hcell';
           (try with_reducible have pA : z4 w1 wr.heap.size := zA1 b1);
           (try with_reducible have pA : z4 w1 wr.heap.size := zA2 b1);
           (try with_reducible have pB : z4 w1 (wr.heap.size + 1) := zB2 b1))
        | (have s2' := s2; go_at_call 24; refine (s2' _).mono ?_; rintro e w2 ⟨sl, rfl, hk2, b2⟩; obtain ⟨a2, rfl⟩ := hk2.1.form; clear s2 s2';
           have bx : Below w1.heap.size w1 w2 := (by first | (with_reducible exact b2) | (with_reducible exact bx1 b2) | (with_reducible exact bx2 b2));
           have bv : Below wr.heap.size wr w2 := bw.trans (bx.mono r1);
           have r2 : w1.heap.size ≤ w2.heap.size := bx.size;
           have r3 : wr.heap.size ≤ w2.heap.size := bv.size; have K2 : KidsN wr.heap.size w2 (.slice a2 M.length M.length) M := ⟨hk2.1, fun gg hgg => Nat.le_trans (by first | omega | (simp <;> omega)) (hk2.2 gg hgg)⟩; have K1 : KidsN wr.heap.size w2 (.slice a1 L.length L.length) L := ⟨hk1.1.below bx (Nat.le_refl _), k1⟩;
           have n9 : g ≠ w2.heap.size := Nat.ne_of_lt (Nat.lt_of_lt_of_le hgl r3); have m1 : g' ≠ w2.heap.size := Nat.ne_of_lt (Nat.lt_of_lt_of_le hgl' r3); have m2 : g ≠ w2.heap.size + 1 := Nat.ne_of_lt (Nat.lt_succ_of_lt (Nat.lt_of_lt_of_le hgl r3)); have m3 : g' ≠ w2.heap.size + 1 := Nat.ne_of_lt (Nat.lt_succ_of_lt (Nat.lt_of_lt_of_le hgl' r3));
           have c2 := (bv.cell (p := ⟨g, st'.length, none⟩) hgl).trans hcell; have c2' := (bv.cell (p := ⟨g', st'.length, none⟩) hgl').trans hcell';
           (try with_reducible have qA : z4 w2 wr.heap.size := B4.keep' bx pA);
           (try with_reducible have qB : z4 w2 (wr.heap.size + 1) := B4.keep' bx pB);
           (try with_reducible have rA : z4 w2 w1.heap.size := zC1 b2);
           (try with_reducible have rA : z4 w2 w1.heap.size := zC2 b2);
           (try with_reducible have rB : z4 w2 (w1.heap.size + 1) := zD2 b2);
           (try obtain ⟨qa0, qa1, qa2, qa3, qa4, qa5, qa6, qa7⟩ := id qA);
           (try have qax := z4_al qA);
           (try have qan := Nat.ne_of_lt qA.lt);
           (try have qam := (Nat.ne_of_lt qA.lt).symm);
           (try obtain ⟨qb0, qb1, qb2, qb3, qb4, qb5, qb6, qb7⟩ := id qB);
           (try have qbx := z4_al qB);
           (try have qbn := Nat.ne_of_lt qB.lt);
           (try have qbm := (Nat.ne_of_lt qB.lt).symm);
           (try obtain ⟨ra0, ra1, ra2, ra3, ra4, ra5, ra6, ra7⟩ := id rA);
           (try have rax := z4_al rA);
           (try have ran := Nat.ne_of_lt rA.lt);
           (try have ram := (Nat.ne_of_lt rA.lt).symm);
           (try obtain ⟨rb0, rb1, rb2, rb3, rb4, rb5, rb6, rb7⟩ := id rB);
           (try have rbx := z4_al rB);
           (try have rbn := Nat.ne_of_lt rB.lt);
           (try have rbm := (Nat.ne_of_lt rB.lt).symm);
           (try have pan := Nat.ne_of_lt pA.lt);
           (try have pam := (Nat.ne_of_lt pA.lt).symm);
           (try have pbn := Nat.ne_of_lt pB.lt);
           (try have pbm := (Nat.ne_of_lt pB.lt).symm))))
      all_goals (go_wp2_with fail; go_meet; refine ⟨rfl, rfl, rfl, _, _, a1, a2, rfl, rfl, ?_⟩)
      all_goals first
        | (with_reducible exact fin_A bv K1 K2)
        | (with_reducible exact fin_E bv K1 K2)
        | ((with_reducible refine fin_C bv hTI.out K1 K2 ?_ ?_ ?_ ?_ ?_) <;> first | assumption | omega)
        | ((with_reducible refine fin_B bv hTI.out K1 K2 ?_ ?_) <;> first | assumption | omega)
        | ((with_reducible refine fin_D bv hTI.out K1 K2 ?_ ?_) <;> first | assumption | omega)
    case rest =>
      obtain ⟨rfl, rfl, rfl, X, Y, a, a', rfl, rfl, hX, hY, K1, K2, lX, lY, bc⟩ := hcut
      obtain ⟨x0, x1, x2, x3⟩ := id hX
      obtain ⟨y0, y1, y2, y3⟩ := id hY
      have hal := fun w1 => alike_any k n s a L.length k' n' s' a' M.length (cl_n hcl1).1 w1
      have hap := allz_app samS st' su' [⟨e1 + 1, mkT k n s ps⟩] [⟨e2 + 1, mkT k' n' s' qs⟩] hlen.out.symm
      have hap1 : allz samS [⟨e1 + 1, mkT k n s ps⟩] [⟨e2 + 1, mkT k' n' s' qs⟩] = (samS ⟨e1 + 1, mkT k n s ps⟩ ⟨e2 + 1, mkT k' n' s' qs⟩ && true) := rfl
      have hVV := hV.out
      rw [hap, hap1, Bool.and_true] at hVV
      cases hq : alk k n s k' n' s' with
      | false =>
        simp only [hq] at hal
        have hF : V = false := by rw [← hVV, sam_no hq, Bool.and_false]
        subst hF
        clear hVV hap hap1 hV hO hL hC hC' hM hM' hTI hLH hMH HP HP' hlen hm hm' hcl1 hcl2 hq K1 K2 s1 h2 hX hY
        go_wp2_with (first
          | (go_at_call 25; refine (hal _).mono ?_; rintro e w3 ⟨rfl, b3⟩))
        go_ret
        exact ⟨rfl, (hb.trans (bc.mono hb.size)).trans (b3.mono (Nat.le_trans hb.size bc.size))⟩
      | true =>
        simp only [hq] at hal
        obtain ⟨hpq, hsam⟩ := sam_yes hq hcl1 hcl2
        rw [hsam, ← allz_kid] at hVV
        have hV2 : Hid (allz samS (st' ++ kidS ps) (su' ++ kidS qs) = V) := by show _ = _; rw [allz_app samS st' su' _ _ hlen.out.symm]; exact hVV
        clear hVV hap hap1 hV hq s1 h2 hX hY
        have hgg : g ≠ g' := fun e => hO.out g rfl (by rw [e]; rfl)
        have hL2 : L.length ≤ 2 := by rw [← hLH.out]; simpa using (Cl.parts hcl1).1
        have hM2 : M.length ≤ 2 := by rw [← hMH.out]; simpa using (Cl.parts hcl2).1
        have hLn : Hid (L.length = ps.length) := by rw [← hLH.out]; show _ = _; simp
        have hMn : Hid (M.length = qs.length) := by rw [← hMH.out]; show _ = _; simp
        have hcx : cntS ⟨e1 + 1, mkT k n s ps⟩ = (ps.map (cnt e1)).sum + 1 := cnt_mk k n s ps
        have hcy : cntS ⟨e2 + 1, mkT k' n' s' qs⟩ = (qs.map (cnt e2)).sum + 1 := cnt_mk k' n' s' qs
        rw [hcx] at hm
        rw [hcy] at hm'
        have hNC : Hid (∀ y ∈ st' ++ kidS ps, ClS y) := fun y hy => by
          rcases List.mem_append.1 hy with h | h
          · exact hC.out y (by simp [h])
          · obtain ⟨p, hp, rfl⟩ := List.mem_map.1 h
            exact (Cl.parts hcl1).2 p hp
        have hNC' : Hid (∀ y ∈ su' ++ kidS qs, ClS y) := fun y hy => by
          rcases List.mem_append.1 hy with h | h
          · exact hC'.out y (by simp [h])
          · obtain ⟨p, hp, rfl⟩ := List.mem_map.1 h
            exact (Cl.parts hcl2).2 p hp
        have hNM : Hid (((st' ++ kidS ps).map cntS).sum ≤ (st'.map cntS).sum + (ps.map (cnt e1)).sum) := by show _ ≤ _; rw [List.map_append, List.sum_append, kidS_cnt]; exact Nat.le_refl _
        have hNM' : Hid ((st'.map cntS).sum + (ps.map (cnt e1)).sum ≤ 2000 ∧ ((su' ++ kidS qs).map cntS).sum ≤ 2000) := by
          refine ⟨by omega, ?_⟩
          rw [List.map_append, List.sum_append, kidS_cnt]
          omega
        have hNL : Hid ((st' ++ kidS ps).length = (su' ++ kidS qs).length) := by show _ = _; rw [List.length_append, List.length_append, kidS_len, kidS_len, hlen.out, hpq]
        have hgm : (st'.map cntS).sum + (ps.map (cnt e1)).sum < gk := by omega
        have hxg : some X ≠ some g := by simp; omega
        have hyg : some Y ≠ some g := by simp; omega
        have hxg' : some X ≠ some g' := by simp; omega
        have hyg' : some Y ≠ some g' := by simp; omega
        have hqs : Hid (st'.length + M.length = su'.length + qs.length) := by show _ = _; rw [hlen.out, hMn.out]
        clear hm hm' hcx hcy hC hC' hM hM' hL hcl1 hcl2 hsam hpq hO
        go_wp2_with (first
          | (go_at_call 25; refine (hal _).mono ?_; rintro e w3 ⟨rfl, b3⟩))
        have bcw : Below wr.heap.size wr w3 := bc.trans (b3.mono bc.size)
        have hA3 : w3.drew.ownsRow w.heap.size 24 1 (.slice (some ⟨g, 0, none⟩) st'.length cap) st'.length (st'.map exS) := HP.out.on bcw.drew (Nat.le_refl _)
        have hB3 : w3.drew.ownsRow w.heap.size 24 1 (.slice (some ⟨g', 0, none⟩) st'.length cap') st'.length (su'.map exS) := by
          have := HP'.out.on bcw.drew (Nat.le_refl _)
          unfold Stk at this
          rw [hlen.out] at this
          exact this
        have K1' : KidsN wr.heap.size w3.drew (.slice a L.length L.length) L := KidsN.dr ⟨K1.1.below b3 (Nat.le_refl _), K1.2⟩
        have K2' : KidsN wr.heap.size w3.drew (.slice a' M.length M.length) M := KidsN.dr ⟨K2.1.below b3 (Nat.le_refl _), K2.2⟩
        have x4 : w3.cell? ⟨X, 3, none⟩ = some (.slice a L.length L.length) := (b3.cell (p := ⟨X, 3, none⟩) (World.block_lt_of_cell? _ _ x3)).trans x3
        have y4 : w3.cell? ⟨Y, 3, none⟩ = some (.slice a' M.length M.length) := (b3.cell (p := ⟨Y, 3, none⟩) (World.block_lt_of_cell? _ _ y3)).trans y3
        have hs3 : w.heap.size ≤ w3.drew.heap.size := Nat.le_trans hb.size bcw.size
        have hs4 := bcw.size
        have bbw : Below w.heap.size w w3.drew := (hb.trans (bcw.mono hb.size)).drew
        clear HP HP' K1 K2 x0 x1 x2 x3 y0 y1 y2 y3 hal bc b3 hb
        go_region_held_law (fun w' => w'.cell? ⟨X, 3, none⟩ = some (.slice a L.length L.length) ∧ w'.cell? ⟨Y, 3, none⟩ = some (.slice a' M.length M.length))
          (first
            | exact ⟨x4, y4⟩
            | exact ⟨x5, y5⟩
            | exact ⟨x6, y6⟩
            | go_keep)
          ((first
            | (have q1 := hA3; refine step_append_at _ (by rfl) (.tmp 36) (.tmp 38) 65 65 (by rfl) w.heap.size 24 i0 .nilIface 1 16 Tryd.underlying65 hi hz0 hz1 hz2 rfl _ st'.length _ (by rfl) q1 _ L.length L (by rfl) (K1'.1.src hTI.out.1) L.length (.inr (by omega)) (Nat.le_refl _) (by unfold maxLen; omega) hs3 ?_; intro v5 w5 ho5 hg5 hl5; have x5 := hg5.cell (cell_dr x4) hxg; have y5 := hg5.cell (cell_dr y4) hyg; have hB5 := World.ownsRow.kept hB3 hg5 (.inr (fun e => hgg (by simpa [Value.ownBlock] using e.symm))); have K5 := K2'.gr hg5 hgl; clear hA3 q1)
            | (refine step_append_at _ (by rfl) (.tmp 42) (.tmp 44) 65 65 (by rfl) w.heap.size 24 i0 .nilIface 1 16 Tryd.underlying65 hi hz0 hz1 hz2 rfl _ st'.length _ (by rfl) hB5 _ M.length M (by rfl) (K5.1.src hTI.out.2) M.length (.inr (by omega)) (Nat.le_refl _) (by unfold maxLen; omega) (Nat.le_trans hs3 hg5.size) ?_; intro v6 w6 ho6 hg6 hl6; have x6 := hg6.cell x5 hxg'; have y6 := hg6.cell y5 hyg')))
        have hz5 := World.ownsRow.lt ho5
        have hne5 : v5.ownBlock ≠ some g' := fun e => by
          rcases hl5 with q | q
          · rw [e] at q
            exact hgg (by simpa [Value.ownBlock] using q.symm)
          · rw [e] at q
            have q2 : g' = w3.drew.heap.size := by simpa using q
            have q3 : w3.drew.heap.size = w3.heap.size := rfl
            omega
        have hS5 : Stk w6 w.heap.size v5 (st' ++ kidS ps) := Stk.push (n := st'.length + L.length) (by rw [hLn.out]) (by rw [hLH.out]; exact World.ownsRow.kept ho5 hg6 (.inr hne5))
        have hS6 : Stk w6 w.heap.size v6 (su' ++ kidS qs) := Stk.push (n := st'.length + M.length) hqs.out (by rw [hMH.out]; exact ho6)
        have hO6 : Hid (oneB v5 v6) := fun b h1 h2 => by
          rcases hl6 with q | q
          · rw [h2] at q
            have q2 : b = g' := by simpa [Value.ownBlock] using q
            exact hne5 (by rw [h1, q2])
          · rw [h2] at q
            have q2 : b = w5.heap.size := by simpa using q
            have := (hz5 b h1).2
            omega
        have b5 : Below w.heap.size w w5 := bbw.grown hg5 hs3 (fun k hk => by
          have e : g = k := by simpa [Value.ownBlock] using hk
          omega)
        have b6 : Below w.heap.size w w6 := b5.grown hg6 (Nat.le_trans hs3 hg5.size) (fun k hk => by
          have e : g' = k := by simpa [Value.ownBlock] using hk
          omega)
        clear ho5 ho6 hg5 hg6 hl5 hl6 hB5 K5 K1' K2' hB3 x4 y4 x5 y5 x6 y6 hz5 hne5 bbw b5 bcw hcell hcell'
        simp only [List.getElem_toArray, List.getElem_cons_succ, List.getElem_cons_zero, List.set_cons_succ, List.set_cons_zero, List.setIfInBounds_toArray]
        go_wp2
        go_roundg ((st'.map cntS).sum + (ps.map (cnt e1)).sum)
        case measure => exact hgm
        case rel => exact ⟨st' ++ kidS ps, su' ++ kidS qs, hS5, hS6, hO6, hNL, hNC, hNC', hV2, hNM, hNM', b6⟩
end Go.Proofs.YtiddccohldjjcaaDoor

/- What is asked of the program's Same. -/
namespace Go.Proofs.YtiddccohldjjcaaDoor
open Go.RowKit Go.Lib
set_option linter.unusedSimpArgs false
set_option linter.unusedVariables false

/-- The program's Same answers as the document says. -/
def SameP : Prop := ∀ (d e : Nat) (t : T d) (u : T e) (w : World), Cl d t → Cl e u → cnt d t ≤ 2000 → cnt e u ≤ 2000 →
  Calls Tryd.prog 14 #[exV d t, exV e u] w fun r w' => r = .returned (.bool (samC d e t u)) ∧ Below w.heap.size w w'
end Go.Proofs.YtiddccohldjjcaaDoor

/- What the program's Same does. -/
namespace Go.Proofs.YtiddccohldjjcaaDoor
open Go.RowKit Go.Lib
set_option linter.unusedSimpArgs false
set_option linter.unusedVariables false

theorem start_any {d e : Nat} {t : T d} {u : T e} (w : World) (hc : Cl d t) (hc' : Cl e u) (hn : cnt d t ≤ 2000) (hn' : cnt e u ≤ 2000) : Start w (exV d t) (exV e u) (samC d e t u) := by
  refine ⟨[⟨d, t⟩], [⟨e, u⟩], ?_, ?_, rfl, ?_, ?_, ?_, ?_, ?_⟩
  · have := World.ownsRow_lit (e := 24) (base := w.heap.size) (size := 1) w #[exV d t] 1 (Nat.le_refl _) (by simp [maxLen]) (by simp)
    have h2 := World.ownsRow.alloc this (.cells #[exV e u] 24)
    unfold Stk
    simpa [exS] using h2
  · have := World.ownsRow_lit (e := 24) (base := w.heap.size) (size := 1) (w.alloc (.cells #[exV d t] 24)) #[exV e u] 1 (by simp) (by simp [maxLen]) (by simp)
    unfold Stk
    simpa [exS] using this
  · intro z hz; simp at hz; subst hz; exact hc
  · intro z hz; simp at hz; subst hz; exact hc'
  · show (samC d e t u && true) = samC d e t u; simp
  · show cnt d t + 0 ≤ 2000; omega
  · show cnt e u + 0 ≤ 2000; omega
theorem sameP : SameP := by
  intro d e t u w hc hc' hn hn'
  have hs : Hid (Start w (exV d t) (exV e u) (samC d e t u)) := start_any w hc hc' hn hn'
  rcases exV_form d t with h | ⟨u1, y1, h⟩ <;> rcases exV_form e u with h' | ⟨u2, y2, h'⟩ <;> rw [h, h'] at hs ⊢
  · exact same_a hs
  · exact same_b hs
  · exact same_c hs
  · exact same_d hs
end Go.Proofs.YtiddccohldjjcaaDoor

/- What awake answers; what parsing tells of its expression. -/
namespace Go.Proofs.YtiddccohldjjcaaDoor
open Go.RowKit Go.Lib
set_option linter.unusedSimpArgs false
set_option linter.unusedVariables false
attribute [local go_sem ↓] Go.wp_at_zero Go.wp_at_succ
def oneX : Sx := mk2 ⟨#[43]⟩ (mk0 1 1 ⟨#[]⟩) (mk0 1 2 ⟨#[]⟩)
set_option maxRecDepth 100000 in
theorem parse_one : parseC [49, 32, 43, 32, 50] = (oneX, 0) := by kernel_rfl
theorem cl_no : ClX noX := cl_none (d := 0)
theorem cl_one : ClX oneX := cl_mk2 (show Cl 1 (mkT 1 1 ⟨#[]⟩ []) from .inl ⟨rfl, rfl, rfl⟩) (show Cl 1 (mkT 1 2 ⟨#[]⟩ []) from .inl ⟨rfl, rfl, rfl⟩)
theorem take_cl {ws : List Wd} (h : ∀ x ∈ ws, OneW x.1 x.2.1) : ClX (takeC (ws.map tkW)).1 ∧ cntX (takeC (ws.map tkW)).1 ≤ 2000 := by
  have hb : BadOr _ 0 (rdC (ws.map tkW)) := fine_read h _ 1 0 (by omega) (by omega)
  unfold takeC
  rcases hb with ⟨e1, e2⟩ | e1
  · rw [if_neg (by omega)]
    by_cases hq : fmX (rdC (ws.map tkW)).1 = true
    · rw [if_pos hq]
      have := (fm_parts hq).1
      exact ⟨e2.1.cl, by show cnt _ _ ≤ 2000; simp only; omega⟩
    · rw [if_neg hq]; exact ⟨cl_no, (show cntX noX ≤ 2000 by decide)⟩
  · rw [if_pos e1]; exact ⟨cl_no, (show cntX noX ≤ 2000 by decide)⟩
theorem parse_no {s : List UInt8} (h : (parseC s).2 ≠ 0) : (parseC s).1 = noX := by
  unfold parseC at h ⊢
  split
  · rfl
  · split
    · rfl
    · split
      · rfl
      · rename_i h1 h2 h3
        rw [if_neg h1, if_neg h2, if_neg h3] at h
        exact absurd rfl h
theorem parse_cl (s : List UInt8) : ClX (parseC s).1 ∧ cntX (parseC s).1 ≤ 2000 := by
  by_cases h : (parseC s).2 = 0
  · obtain ⟨h1, h2⟩ := parse_fine h
    exact ⟨h1.cl, by have := (fm_parts h2).1; show cnt _ _ ≤ 2000; omega⟩
  · rw [parse_no h]; exact ⟨cl_no, (show cntX noX ≤ 2000 by decide)⟩
set_option maxRecDepth 100000 in
set_option maxHeartbeats 4000000 in
theorem awakeG (w : World) : Calls Tryd.prog 5 #[] w fun e w' => e = .returned (.bool true) ∧ Below w.heap.size w w' := by
  have h1 := pParse_any ⟨#[49, 32, 43, 32, 50]⟩ w (by decide)
  rw [show parseC (bl ⟨#[49, 32, 43, 32, 50]⟩) = (oneX, 0) from parse_one] at h1
  have h2 := fun w1 => sameP oneX.1 oneX.1 oneX.2 oneX.2 w1 cl_one cl_one (by decide) (by decide)
  simp only [samC_refl] at h2
  have e1 : exV oneX.1 oneX.2 = .iface 53 (.agg #[.string ⟨#[43]⟩, .iface 51 (.agg #[.int .i64 1]), .iface 51 (.agg #[.int .i64 2])]) := rfl
  have e2 : exX oneX = .iface 53 (.agg #[.string ⟨#[43]⟩, .iface 51 (.agg #[.int .i64 1]), .iface 51 (.agg #[.int .i64 2])]) := rfl
  simp only [e1] at h2
  simp only [e2] at h1
  clear e1 e2
  go_enter Tryd.func5, Tryd.ntmps5
  go_wp2_with (first
    | (go_at_call 6; refine h1.mono ?_; rintro e w1 ⟨rfl, b1⟩)
    | (go_at_call 14; refine (h2 _).mono ?_; rintro e w2 ⟨rfl, b2⟩))
  go_ret
  exact ⟨rfl, b1.trans (b2.mono b1.size)⟩
end Go.Proofs.YtiddccohldjjcaaDoor

/- What the document's level and Reserved do. -/
namespace Go.Proofs.YtiddccohldjjcaaDoor
open Go.RowKit Go.Lib
set_option linter.unusedSimpArgs false
set_option linter.unusedVariables false
attribute [local go_sem ↓] Go.wp_at_zero Go.wp_at_succ

set_option maxRecDepth 100000 in
set_option maxHeartbeats 2000000 in
theorem rLevel_any (s : ByteArray) (w : World) : Calls Tryd.prog 43 #[.string s] w fun e w' => e = .returned (.int .i64 (lv (bl s) : Int)) ∧ w = w' := by
  have hS : ∀ x, (s.toList == x) = (bl s == x) := fun x => by rw [ByteArray.toList_eq]
  obtain ⟨l, hl⟩ : ∃ l, bl s = l := ⟨_, rfl⟩
  rw [hl]
  simp only [hl] at hS
  clear hl
  have q0 : (s.toList == [124, 124]) = (l == [124, 124]) := hS _
  have q1 : (s.toList == [38, 38]) = (l == [38, 38]) := hS _
  have q2 : (s.toList == [60]) = (l == [60]) := hS _
  have q3 : (s.toList == [60, 61]) = (l == [60, 61]) := hS _
  have q4 : (s.toList == [61, 61]) = (l == [61, 61]) := hS _
  have q5 : (s.toList == [33, 61]) = (l == [33, 61]) := hS _
  have q6 : (s.toList == [43]) = (l == [43]) := hS _
  have q7 : (s.toList == [45]) = (l == [45]) := hS _
  have q8 : (s.toList == [42]) = (l == [42]) := hS _
  clear hS
  cases r0 : (l == [124, 124])
  case true => rw [r0] at q0; clear q1 q2 q3 q4 q5 q6 q7 q8; go_enter Tryd.func43, Tryd.ntmps43; go_wp2; go_ret; exact ⟨by rw [eq_of_beq r0]; rfl, rfl⟩
  rw [r0] at q0
  cases r1 : (l == [38, 38])
  case true => rw [r1] at q1; clear q2 q3 q4 q5 q6 q7 q8; go_enter Tryd.func43, Tryd.ntmps43; go_wp2; go_ret; exact ⟨by rw [eq_of_beq r1]; rfl, rfl⟩
  rw [r1] at q1
  cases r2 : (l == [60])
  case true => rw [r2] at q2; clear q3 q4 q5 q6 q7 q8; go_enter Tryd.func43, Tryd.ntmps43; go_wp2; go_ret; exact ⟨by rw [eq_of_beq r2]; rfl, rfl⟩
  rw [r2] at q2
  cases r3 : (l == [60, 61])
  case true => rw [r3] at q3; clear q4 q5 q6 q7 q8; go_enter Tryd.func43, Tryd.ntmps43; go_wp2; go_ret; exact ⟨by rw [eq_of_beq r3]; rfl, rfl⟩
  rw [r3] at q3
  cases r4 : (l == [61, 61])
  case true => rw [r4] at q4; clear q5 q6 q7 q8; go_enter Tryd.func43, Tryd.ntmps43; go_wp2; go_ret; exact ⟨by rw [eq_of_beq r4]; rfl, rfl⟩
  rw [r4] at q4
  cases r5 : (l == [33, 61])
  case true => rw [r5] at q5; clear q6 q7 q8; go_enter Tryd.func43, Tryd.ntmps43; go_wp2; go_ret; exact ⟨by rw [eq_of_beq r5]; rfl, rfl⟩
  rw [r5] at q5
  cases r6 : (l == [43])
  case true => rw [r6] at q6; clear q7 q8; go_enter Tryd.func43, Tryd.ntmps43; go_wp2; go_ret; exact ⟨by rw [eq_of_beq r6]; rfl, rfl⟩
  rw [r6] at q6
  cases r7 : (l == [45])
  case true => rw [r7] at q7; clear q8; go_enter Tryd.func43, Tryd.ntmps43; go_wp2; go_ret; exact ⟨by rw [eq_of_beq r7]; rfl, rfl⟩
  rw [r7] at q7
  cases r8 : (l == [42])
  case true => rw [r8] at q8; go_enter Tryd.func43, Tryd.ntmps43; go_wp2; go_ret; exact ⟨by rw [eq_of_beq r8]; rfl, rfl⟩
  rw [r8] at q8
  go_enter Tryd.func43, Tryd.ntmps43
  go_wp2
  go_ret
  exact ⟨by have e : lv l = 0 := by simp [lv, beq_eq_false_iff_ne.1 r0, beq_eq_false_iff_ne.1 r1, beq_eq_false_iff_ne.1 r2, beq_eq_false_iff_ne.1 r3, beq_eq_false_iff_ne.1 r4, beq_eq_false_iff_ne.1 r5, beq_eq_false_iff_ne.1 r6, beq_eq_false_iff_ne.1 r7, beq_eq_false_iff_ne.1 r8]
            rw [e]; rfl, rfl⟩
set_option maxRecDepth 100000 in
set_option maxHeartbeats 2000000 in
theorem rReserved_any (s : ByteArray) (w : World) : Calls Tryd.prog 66 #[.string s] w fun e w' => e = .returned (.bool (rsvB (bl s))) ∧ w = w' := by
  have hS : ∀ x, (s.toList == x) = (bl s == x) := fun x => by rw [ByteArray.toList_eq]
  obtain ⟨l, hl⟩ : ∃ l, bl s = l := ⟨_, rfl⟩
  rw [hl]
  simp only [hl] at hS
  clear hl
  have q0 : (s.toList == [99, 104, 97, 114, 116]) = (l == [99, 104, 97, 114, 116]) := hS _
  have q1 : (s.toList == [118, 97, 114]) = (l == [118, 97, 114]) := hS _
  have q2 : (s.toList == [115, 116, 97, 116, 101]) = (l == [115, 116, 97, 116, 101]) := hS _
  have q3 : (s.toList == [97, 108, 108]) = (l == [97, 108, 108]) := hS _
  have q4 : (s.toList == [101, 110, 100]) = (l == [101, 110, 100]) := hS _
  have q5 : (s.toList == [100, 111]) = (l == [100, 111]) := hS _
  have q6 : (s.toList == [117, 110, 100, 111]) = (l == [117, 110, 100, 111]) := hS _
  have q7 : (s.toList == [97, 116]) = (l == [97, 116]) := hS _
  have q8 : (s.toList == [114, 101, 116, 114, 105, 101, 115]) = (l == [114, 101, 116, 114, 105, 101, 115]) := hS _
  have q9 : (s.toList == [111, 110]) = (l == [111, 110]) := hS _
  have q10 : (s.toList == [105, 102]) = (l == [105, 102]) := hS _
  have q11 : (s.toList == [103, 111]) = (l == [103, 111]) := hS _
  have q12 : (s.toList == [115, 101, 116]) = (l == [115, 101, 116]) := hS _
  clear hS
  cases r0 : (l == [99, 104, 97, 114, 116])
  case true => rw [r0] at q0; clear q1 q2 q3 q4 q5 q6 q7 q8 q9 q10 q11 q12; go_enter Tryd.func66, Tryd.ntmps66; go_wp2; go_ret; exact ⟨by rw [eq_of_beq r0]; rfl, rfl⟩
  rw [r0] at q0
  cases r1 : (l == [118, 97, 114])
  case true => rw [r1] at q1; clear q2 q3 q4 q5 q6 q7 q8 q9 q10 q11 q12; go_enter Tryd.func66, Tryd.ntmps66; go_wp2; go_ret; exact ⟨by rw [eq_of_beq r1]; rfl, rfl⟩
  rw [r1] at q1
  cases r2 : (l == [115, 116, 97, 116, 101])
  case true => rw [r2] at q2; clear q3 q4 q5 q6 q7 q8 q9 q10 q11 q12; go_enter Tryd.func66, Tryd.ntmps66; go_wp2; go_ret; exact ⟨by rw [eq_of_beq r2]; rfl, rfl⟩
  rw [r2] at q2
  cases r3 : (l == [97, 108, 108])
  case true => rw [r3] at q3; clear q4 q5 q6 q7 q8 q9 q10 q11 q12; go_enter Tryd.func66, Tryd.ntmps66; go_wp2; go_ret; exact ⟨by rw [eq_of_beq r3]; rfl, rfl⟩
  rw [r3] at q3
  cases r4 : (l == [101, 110, 100])
  case true => rw [r4] at q4; clear q5 q6 q7 q8 q9 q10 q11 q12; go_enter Tryd.func66, Tryd.ntmps66; go_wp2; go_ret; exact ⟨by rw [eq_of_beq r4]; rfl, rfl⟩
  rw [r4] at q4
  cases r5 : (l == [100, 111])
  case true => rw [r5] at q5; clear q6 q7 q8 q9 q10 q11 q12; go_enter Tryd.func66, Tryd.ntmps66; go_wp2; go_ret; exact ⟨by rw [eq_of_beq r5]; rfl, rfl⟩
  rw [r5] at q5
  cases r6 : (l == [117, 110, 100, 111])
  case true => rw [r6] at q6; clear q7 q8 q9 q10 q11 q12; go_enter Tryd.func66, Tryd.ntmps66; go_wp2; go_ret; exact ⟨by rw [eq_of_beq r6]; rfl, rfl⟩
  rw [r6] at q6
  cases r7 : (l == [97, 116])
  case true => rw [r7] at q7; clear q8 q9 q10 q11 q12; go_enter Tryd.func66, Tryd.ntmps66; go_wp2; go_ret; exact ⟨by rw [eq_of_beq r7]; rfl, rfl⟩
  rw [r7] at q7
  cases r8 : (l == [114, 101, 116, 114, 105, 101, 115])
  case true => rw [r8] at q8; clear q9 q10 q11 q12; go_enter Tryd.func66, Tryd.ntmps66; go_wp2; go_ret; exact ⟨by rw [eq_of_beq r8]; rfl, rfl⟩
  rw [r8] at q8
  cases r9 : (l == [111, 110])
  case true => rw [r9] at q9; clear q10 q11 q12; go_enter Tryd.func66, Tryd.ntmps66; go_wp2; go_ret; exact ⟨by rw [eq_of_beq r9]; rfl, rfl⟩
  rw [r9] at q9
  cases r10 : (l == [105, 102])
  case true => rw [r10] at q10; clear q11 q12; go_enter Tryd.func66, Tryd.ntmps66; go_wp2; go_ret; exact ⟨by rw [eq_of_beq r10]; rfl, rfl⟩
  rw [r10] at q10
  cases r11 : (l == [103, 111])
  case true => rw [r11] at q11; clear q12; go_enter Tryd.func66, Tryd.ntmps66; go_wp2; go_ret; exact ⟨by rw [eq_of_beq r11]; rfl, rfl⟩
  rw [r11] at q11
  cases r12 : (l == [115, 101, 116])
  case true => rw [r12] at q12; go_enter Tryd.func66, Tryd.ntmps66; go_wp2; go_ret; exact ⟨by rw [eq_of_beq r12]; rfl, rfl⟩
  rw [r12] at q12
  go_enter Tryd.func66, Tryd.ntmps66
  go_wp2
  go_ret
  exact ⟨by have e : rsvB l = false := by simp [rsvB, rsv13, beq_eq_false_iff_ne.1 r0, beq_eq_false_iff_ne.1 r1, beq_eq_false_iff_ne.1 r2, beq_eq_false_iff_ne.1 r3, beq_eq_false_iff_ne.1 r4, beq_eq_false_iff_ne.1 r5, beq_eq_false_iff_ne.1 r6, beq_eq_false_iff_ne.1 r7, beq_eq_false_iff_ne.1 r8, beq_eq_false_iff_ne.1 r9, beq_eq_false_iff_ne.1 r10, beq_eq_false_iff_ne.1 r11, beq_eq_false_iff_ne.1 r12]
            rw [e]; rfl, rfl⟩
end Go.Proofs.YtiddccohldjjcaaDoor

/- The document's reader in memory; what its is and fail do. -/
namespace Go.Proofs.YtiddccohldjjcaaDoor
open Go.RowKit Go.Lib
set_option linter.unusedSimpArgs false
set_option linter.unusedVariables false
attribute [local go_sem ↓] Go.wp_at_zero Go.wp_at_succ

/-- Nothing but block X has turned, and new blocks. -/
abbrev Fx (X : Nat) (w w' : World) : Prop := w.grownBy w' (some X)
theorem Fx.refl (X : Nat) (w : World) : Fx X w w := ⟨rfl, rfl, rfl, Nat.le_refl _, fun _ _ _ => rfl⟩
theorem Fx.trans {X : Nat} {a b c : World} (h : Fx X a b) (k : Fx X b c) : Fx X a c :=
  ⟨k.os.trans h.os, k.tape.trans h.tape, k.output.trans h.output, Nat.le_trans h.size k.size, fun j hj hne => (k.block j (Nat.lt_of_lt_of_le hj h.size) hne).trans (h.block j hj hne)⟩
theorem Fx.of {X B : Nat} {a b : World} (h : Below B a b) (hB : a.heap.size ≤ B) : Fx X a b := ⟨h.os, h.tape, h.output, h.size, fun k hk _ => h.block k (by omega)⟩
theorem Fx.setX {X i : Nat} {a b : World} (h : Fx X a b) (u : Value) : Fx X a (b.setCell ⟨X, i, none⟩ u) :=
  ⟨h.os, h.tape, h.output, by simpa using h.size, fun k hk hne => (Below.heap_setCell _ _ _ _ (fun e => hne (congrArg some e))).trans (h.block k hk hne)⟩
theorem Fx.drewN {X : Nat} {a b : World} (h : Fx X a b) (m : Nat) : Fx X a (b.drewN m) := ⟨h.os, h.tape, h.output, h.size, h.block⟩
theorem Fx.drew {X : Nat} {a b : World} (h : Fx X a b) : Fx X a b.drew := ⟨h.os, h.tape, h.output, h.size, h.block⟩
theorem Fx.alloc {X : Nat} {a b : World} (h : Fx X a b) (o : Obj) : Fx X a (b.alloc o) := h.trans (Fx.of ((Below.refl b.heap.size b).alloc (Nat.le_refl _) o) (Nat.le_refl _))
theorem Fx.below {X : Nat} {a b : World} (h : Fx X a b) {B : Nat} (hB : B ≤ X) (hs : B ≤ a.heap.size) : Below B a b := ⟨h.os, h.tape, h.output, h.size, fun k hk => h.block k (by omega) (fun e => by have : k = X := Option.some.inj e; omega)⟩
/-- A new block's cells, written. -/
theorem Fx.setN {X N i : Nat} {a b : World} (h : Fx X a b) (hN : a.heap.size ≤ N) (u : Value) : Fx X a (b.setCell ⟨N, i, none⟩ u) :=
  ⟨h.os, h.tape, h.output, by simpa using h.size, fun k hk hne => (Below.heap_setCell _ _ _ _ (fun e => by have : k = N := e; omega)).trans (h.block k hk hne)⟩
/-- The words, in memory apart from X. -/
def RdL (w : World) (X : Nat) (a : Option Addr) (ws : List Wd) : Prop := ∀ (i : Nat) (hi : i < ws.length), ∃ g, a = some ⟨g, 0, none⟩ ∧ g < X ∧ w.cell? ⟨g, i * 4, none⟩ = some (.int .i64 ((ws[i]).1 : Int)) ∧ w.cell? ⟨g, i * 4 + 1, none⟩ = some (.string (txt (ws[i]).2.1)) ∧ w.cell? ⟨g, i * 4 + 2, none⟩ = some (.int .i64 (ws[i]).2.2.1) ∧ w.cell? ⟨g, i * 4 + 3, none⟩ = some (.int .i64 (ws[i]).2.2.2)
theorem RdL.fx {w w' : World} {X : Nat} {a : Option Addr} {ws : List Wd} (h : RdL w X a ws) (hX : X < w.heap.size) (hf : Fx X w w') : RdL w' X a ws := fun i hi => by
  obtain ⟨g, h1, h3, c0, c1, c2, c3⟩ := h i hi
  have hb : w'.heap[g]? = w.heap[g]? := hf.block g (by omega) (fun e => by have : g = X := Option.some.inj e; omega)
  have hc : ∀ j, w'.cell? ⟨g, j, none⟩ = w.cell? ⟨g, j, none⟩ := fun j => World.cell?_of_block (w := w) (a := ⟨g, j, none⟩) hb
  exact ⟨g, h1, h3, (hc _).trans c0, (hc _).trans c1, (hc _).trans c2, (hc _).trans c3⟩
/-- The reader in block X. -/
structure Rr (w : World) (X : Nat) (a : Option Addr) (cap : Nat) (ws : List Wd) (n : Nat) (b : Int) : Prop where
  c0 : w.cell? ⟨X, 0, none⟩ = some (.slice a ws.length cap)
  c1 : w.cell? ⟨X, 1, none⟩ = some (.int .i64 (n : Int))
  c2 : w.cell? ⟨X, 2, none⟩ = some (.int .i64 b)
  f1 : w.frozen? ⟨X, 1, none⟩ = false
  f2 : w.frozen? ⟨X, 2, none⟩ = false
  l : RdL w X a ws
theorem Rr.lt {w : World} {X : Nat} {a : Option Addr} {cap : Nat} {ws : List Wd} {n : Nat} {b : Int} (h : Rr w X a cap ws n b) : X < w.heap.size := World.block_lt_of_cell? w _ h.c0
theorem Rr.on {w w' : World} {X : Nat} {a : Option Addr} {cap : Nat} {ws : List Wd} {n : Nat} {b : Int} (h : Rr w X a cap ws n b) (hb : Below w.heap.size w w') : Rr w' X a cap ws n b := by
  have hX := h.lt
  have hc : ∀ i, w'.cell? ⟨X, i, none⟩ = w.cell? ⟨X, i, none⟩ := fun i => hb.cell (p := ⟨X, i, none⟩) hX
  have hf : ∀ i, w'.frozen? ⟨X, i, none⟩ = w.frozen? ⟨X, i, none⟩ := fun i => hb.frozen (p := ⟨X, i, none⟩) hX
  exact ⟨(hc 0).trans h.c0, (hc 1).trans h.c1, (hc 2).trans h.c2, (hf 1).trans h.f1, (hf 2).trans h.f2, h.l.fx hX (Fx.of hb (Nat.le_refl _))⟩
theorem Rr.set1 {w : World} {X : Nat} {a : Option Addr} {cap : Nat} {ws : List Wd} {n : Nat} {b : Int} (h : Rr w X a cap ws n b) (n' : Nat) : Rr (w.setCell ⟨X, 1, none⟩ (.int .i64 (n' : Int))) X a cap ws n' b :=
  ⟨cell_far4 (by omega) h.c0, cell_same4 h.c1, cell_far4 (by omega) h.c2, (World.frozen?_setCell _ _ _ _).trans h.f1, (World.frozen?_setCell _ _ _ _).trans h.f2, h.l.fx h.lt ((Fx.refl X w).setX _)⟩
theorem Rr.set2 {w : World} {X : Nat} {a : Option Addr} {cap : Nat} {ws : List Wd} {n : Nat} {b : Int} (h : Rr w X a cap ws n b) (b' : Int) : Rr (w.setCell ⟨X, 2, none⟩ (.int .i64 b')) X a cap ws n b' :=
  ⟨cell_far4 (by omega) h.c0, cell_far4 (by omega) h.c1, cell_same4 h.c2, (World.frozen?_setCell _ _ _ _).trans h.f1, (World.frozen?_setCell _ _ _ _).trans h.f2, h.l.fx h.lt ((Fx.refl X w).setX _)⟩
theorem draws (w : World) (m : Nat) : Below w.heap.size w (w.drewN m) := ⟨rfl, rfl, rfl, Nat.le_refl _, fun _ _ => rfl⟩
set_option maxRecDepth 100000 in
set_option maxHeartbeats 4000000 in
theorem is_any {w : World} {X : Nat} {a : Option Addr} {cap : Nat} {ws : List Wd} {n : Nat} {b : Int} (h : Rr w X a cap ws n b) (t : List UInt8) (hl : ws.length ≤ 3000) (hcap : ws.length ≤ cap) :
    Calls Tryd.prog 65 #[.pointer (some ⟨X, 0, none⟩), .string ⟨t.toArray⟩] w fun e w' => e = .returned (.bool (isT (ws.map tkW) t n b)) ∧ ∃ m, w' = w.drewN m := by
  obtain ⟨c0, c1, c2, f1, f2, hL⟩ := h
  have i2 : (0 : Int) ≤ (n : Int) := by omega
  by_cases hb : b < 0
  · by_cases hn : n < ws.length
    · have i1 : (n : Int) < (ws.length : Int) := by omega
      obtain ⟨g, rfl, hgX, d0, d1, d2, d3⟩ := hL n hn
      have hget : (ws.map tkW)[n]? = some (tkW ws[n]) := by rw [List.getElem?_map, List.getElem?_eq_getElem hn]; rfl
      have e : isT (ws.map tkW) t n b = decide (byt (ws[n]).2.1 = t) := by unfold isT; rw [hget, decide_eq_true hb]; rfl
      rw [e]
      have hd1 : w.cell? ⟨g, n * 4 + 1, none⟩ = some (.string ⟨(byt (ws[n]).2.1).toArray⟩) := d1
      obtain ⟨bs, hbs⟩ : ∃ bs, byt (ws[n]).2.1 = bs := ⟨_, rfl⟩
      rw [hbs] at hd1 ⊢
      clear d1 hL hget hbs e
      by_cases hq : bs = t
      · have i3 : (bs == t) = true := by rw [hq]; simp
        rw [decide_eq_true hq]
        clear hq
        go_enter Tryd.func65, Tryd.ntmps65
        go_wp2
        go_quiet (fail)
        go_wp2
        go_ret
        exact ⟨rfl, _, rfl⟩
      · have i3 : (bs == t) = false := beq_eq_false_iff_ne.2 hq
        rw [decide_eq_false hq]
        clear hq
        go_enter Tryd.func65, Tryd.ntmps65
        go_wp2
        go_quiet (fail)
        go_wp2
        go_ret
        exact ⟨rfl, _, rfl⟩
    · have i1 : decide ((n : Int) < (ws.length : Int)) = false := decide_eq_false (by omega)
      have e : isT (ws.map tkW) t n b = false := by
        unfold isT
        rw [List.getElem?_eq_none (by rw [List.length_map]; omega)]; simp
      rw [e]
      clear hL e
      go_enter Tryd.func65, Tryd.ntmps65
      go_wp2
      go_quiet (fail)
      go_wp2
      go_ret
      exact ⟨rfl, _, rfl⟩
  · have i1 : decide (b < 0) = false := decide_eq_false hb
    have e : isT (ws.map tkW) t n b = false := by unfold isT; rw [i1]; rfl
    rw [e]
    clear hL e hb
    go_enter Tryd.func65, Tryd.ntmps65
    go_wp2
    go_quiet (fail)
    go_wp2
    go_ret
    exact ⟨rfl, _, rfl⟩
end Go.Proofs.YtiddccohldjjcaaDoor

/- What the document's fail does; trees with their depth, in memory. -/
namespace Go.Proofs.YtiddccohldjjcaaDoor
open Go.RowKit Go.Lib
set_option linter.unusedSimpArgs false
set_option linter.unusedVariables false
attribute [local go_sem ↓] Go.wp_at_zero Go.wp_at_succ

def RdX (ok : Nat → Prop) (w : World) (x : Sx) (v : Value) : Prop := RdT ok w x.1 x.2 v
theorem rdX_no (ok : Nat → Prop) (w : World) : RdX ok w noX (.agg #[.int .i64 0, .int .i64 0, .string ⟨#[]⟩, .slice none 0 0]) := rdT_none ok w
/-- It stays, where the blocks that it may lie in stay. -/
theorem RdX.keep {ok ok' : Nat → Prop} {w w' : World} {x : Sx} {v : Value} (h : RdX ok w x v) (hk : ∀ b, ok b → b < w.heap.size → ok' b ∧ w'.heap[b]? = w.heap[b]?) : RdX ok' w' x v := RdT.keep hk h
theorem rdT_lift {ok : Nat → Prop} {w : World} : ∀ (d : Nat) (t : T d) (v : Value), RdT ok w d t v → RdT ok w (d + 1) (lift d t) v
  | 0, t, _, _ => Empty.elim t
  | d + 1, t, v, h => by
    obtain ⟨k, n, s, ps, rfl⟩ := T.open t
    obtain ⟨sl, rfl, hp⟩ := rdT_mk.1 h
    rw [lift_mk]
    refine rdT_mk.2 ⟨sl, rfl, ?_⟩
    obtain ⟨a, cap, rfl, h1, h2, h3, h4⟩ := hp
    refine ⟨a, cap, by rw [List.length_map], by rw [List.length_map]; exact h1, h2, fun e => by rw [h3 e]; rfl, fun x hx i hi => ?_⟩
    rw [List.length_map] at hi
    obtain ⟨o, c0, c1, c2, c3, r, k0, k1, k2, k3⟩ := h4 x hx i hi
    exact ⟨o, c0, c1, c2, c3, by rw [List.getElem_map]; exact rdT_lift d _ _ r, k0, k1, k2, k3⟩
theorem rdT_addl {ok : Nat → Prop} {w : World} (d : Nat) (t : T d) (v : Value) (h : RdT ok w d t v) : ∀ k, RdT ok w (d + k) (addl d t k) v
  | 0 => h
  | k + 1 => rdT_lift _ _ _ (rdT_addl d t v h k)
theorem rdT_turn {ok : Nat → Prop} {w : World} {a b : Nat} (e : a = b) (t : T a) (v : Value) (h : RdT ok w a t v) : RdT ok w b (turn e t) v := by subst e; exact h
/-- Its four cells. -/
theorem RdX.form {ok : Nat → Prop} {w : World} {x : Sx} {v : Value} (h : RdX ok w x v) : ∃ k n s a m c, v = .agg #[.int .i64 k, .int .i64 n, .string s, .slice a m c] := by
  obtain ⟨d, t⟩ := x
  match d, t, h with
  | 0, t, _ => exact Empty.elim t
  | d + 1, t, h =>
    obtain ⟨k, n, s, ps, rfl⟩ := T.open t
    obtain ⟨sl, rfl, a, cap, rfl, _⟩ := rdT_mk.1 h
    exact ⟨k, n, s, a, _, cap, rfl⟩
theorem At4.blkR {w w' : World} {N : Nat} {a b c e : Value} (h : At4 w N a b c e) (hb : w'.heap[N]? = w.heap[N]?) : At4 w' N a b c e :=
  ⟨(World.cell?_of_block (w := w) (a := ⟨N, 0, none⟩) hb).trans h.1, (World.cell?_of_block (w := w) (a := ⟨N, 1, none⟩) hb).trans h.2.1, (World.cell?_of_block (w := w) (a := ⟨N, 2, none⟩) hb).trans h.2.2.1, (World.cell?_of_block (w := w) (a := ⟨N, 3, none⟩) hb).trans h.2.2.2⟩
/-- A node put together of one part. -/
theorem rdX_mk1 {ok : Nat → Prop} {N : Nat} {w : World} {x : Sx} {k : Int} {c0 c1 c2 c3 : Value} (h : RdX ok w x (.agg #[c0, c1, c2, c3])) (hN : ok N) (k0 : w.cell? ⟨N, 0, none⟩ = some c0) (k1 : w.cell? ⟨N, 1, none⟩ = some c1) (k2 : w.cell? ⟨N, 2, none⟩ = some c2) (k3 : w.cell? ⟨N, 3, none⟩ = some c3) :
    RdX ok w (mk1 k x) (.agg #[.int .i64 k, .int .i64 0, .string ⟨#[]⟩, .slice (some ⟨N, 0, none⟩) 1 1]) := by
  refine rdT_mk.2 ⟨_, rfl, some ⟨N, 0, none⟩, 1, rfl, by simp, by simp [maxLen], by simp, fun y hy i hi => ?_⟩
  obtain rfl := Option.some.inj hy
  have : i = 0 := by simp at hi; omega
  subst this
  exact ⟨hN, c0, c1, c2, c3, h, k0, k1, k2, k3⟩
theorem rdX_mk2 {ok : Nat → Prop} {N : Nat} {w : World} {x y : Sx} {s : ByteArray} {c0 c1 c2 c3 e0 e1 e2 e3 : Value} (h : RdX ok w x (.agg #[c0, c1, c2, c3])) (h' : RdX ok w y (.agg #[e0, e1, e2, e3])) (hN : ok N)
    (k0 : w.cell? ⟨N, 0, none⟩ = some c0) (k1 : w.cell? ⟨N, 1, none⟩ = some c1) (k2 : w.cell? ⟨N, 2, none⟩ = some c2) (k3 : w.cell? ⟨N, 3, none⟩ = some c3)
    (k4 : w.cell? ⟨N, 4, none⟩ = some e0) (k5 : w.cell? ⟨N, 5, none⟩ = some e1) (k6 : w.cell? ⟨N, 6, none⟩ = some e2) (k7 : w.cell? ⟨N, 7, none⟩ = some e3) :
    RdX ok w (mk2 s x y) (.agg #[.int .i64 5, .int .i64 0, .string s, .slice (some ⟨N, 0, none⟩) 2 2]) := by
  refine rdT_mk.2 ⟨_, rfl, some ⟨N, 0, none⟩, 2, rfl, by simp, by simp [maxLen], by simp, fun z hz i hi => ?_⟩
  obtain rfl := Option.some.inj hz
  have hi2 : i = 0 ∨ i = 1 := by simp at hi; omega
  rcases hi2 with rfl | rfl
  · exact ⟨hN, c0, c1, c2, c3, rdT_addl _ _ _ h _, k0, k1, k2, k3⟩
  · exact ⟨hN, e0, e1, e2, e3, rdT_turn _ _ _ (rdT_addl _ _ _ h' _), k4, k5, k6, k7⟩
theorem rdX_lit (ok : Nat → Prop) (w : World) (n : Int) : RdX ok w (mk0 1 n ⟨#[]⟩) (.agg #[.int .i64 1, .int .i64 n, .string ⟨#[]⟩, .slice none 0 0]) := ⟨_, rfl, rdP_none _ w⟩
theorem rdX_ref (ok : Nat → Prop) (w : World) (s : ByteArray) : RdX ok w (mk0 2 0 s) (.agg #[.int .i64 2, .int .i64 0, .string s, .slice none 0 0]) := ⟨_, rfl, rdP_none _ w⟩
set_option maxRecDepth 100000 in
set_option maxHeartbeats 4000000 in
theorem fail_any {w : World} {X : Nat} {a : Option Addr} {cap : Nat} {ws : List Wd} {n : Nat} {b : Int} (h : Rr w X a cap ws n b) :
    Calls Tryd.prog 64 #[.pointer (some ⟨X, 0, none⟩)] w fun e w' => e = .returned (.agg #[.int .i64 0, .int .i64 0, .string ⟨#[]⟩, .slice none 0 0]) ∧ Rr w' X a cap ws n (if b < 0 then (n : Int) else b) ∧ Fx X w w' := by
  have hX := h.lt
  have hal : ∀ wx : World, Below wx.heap.size wx (wx.alloc (.cells #[.int .i64 0, .int .i64 0, .string ⟨#[]⟩, .slice none 0 0] 30)) := fun wx => (Below.refl _ _).alloc (Nat.le_refl _) _
  have hr0 := h.on (hal w)
  obtain ⟨c0, c1, c2, f1, f2, hL⟩ := id hr0
  clear hL
  by_cases hb : b < 0
  · rw [if_pos hb]
    have hS := h.set2 (n : Int)
    go_enter Tryd.func64, Tryd.ntmps64
    go_wp2
    exact bodyPost_ret (v := .agg #[.int .i64 0, .int .i64 0, .string ⟨#[]⟩, .slice none 0 0]) (by simp [results, Tryd.results64, go_sem]) rfl ⟨rfl, hS.on (hal _), ((Fx.refl X w).setX _).alloc _⟩
  · rw [if_neg hb]
    go_enter Tryd.func64, Tryd.ntmps64
    go_wp2
    exact bodyPost_ret (v := .agg #[.int .i64 0, .int .i64 0, .string ⟨#[]⟩, .slice none 0 0]) (by simp [results, Tryd.results64, go_sem]) rfl ⟨rfl, hr0, (Fx.refl X w).alloc _⟩
end Go.Proofs.YtiddccohldjjcaaDoor
/- The decoder of runes at this program, and the two tables that it reads. -/
namespace Go.Proofs.YtiddccohldjjcaaDoor
open Go.Shelf Go.RowKit
set_option linter.unusedVariables false

def renU : Ren := { f := fun x => match x with | 197 => 30 | 260 => 55 | n => n, t := fun x => match x with | 9 => 9 | 21 => 21 | 3 => 3 | 4 => 4 | 5 => 5 | 105 => 61 | 119 => 112 | 0 => 0 | 46 => 113 | 139 => 116 | 138 => 115 | n => n, g := fun x => match x with | 3 => 0 | 4 => 1 | n => n }
theorem laysU : Lays.n197 Tryd.prog renU :=
  { mixed := by kernel_rfl, f197 := Tryd.func30.trans (congrArg some (by kernel_rfl)), f260 := Tryd.func55.trans (congrArg some (by kernel_rfl)), t0 := Tryd.underlying0, a0 := Tryd.isAgg0, z0 := Tryd.sizeOf0, v0 := Tryd.zeroValue0, t3 := Tryd.underlying3, a3 := Tryd.isAgg3, z3 := Tryd.sizeOf3, v3 := Tryd.zeroValue3, t4 := Tryd.underlying4, a4 := Tryd.isAgg4, z4 := Tryd.sizeOf4, v4 := Tryd.zeroValue4, t5 := Tryd.underlying5, a5 := Tryd.isAgg5, z5 := Tryd.sizeOf5, v5 := Tryd.zeroValue5, t9 := Tryd.underlying9, a9 := Tryd.isAgg9, z9 := Tryd.sizeOf9, v9 := Tryd.zeroValue9, t21 := Tryd.underlying21, a21 := Tryd.isAgg21, z21 := Tryd.sizeOf21, v21 := Tryd.zeroValue21, t46 := Tryd.underlying113, a46 := Tryd.isAgg113, z46 := Tryd.sizeOf113, v46 := Tryd.zeroValue113, t105 := Tryd.underlying61, a105 := Tryd.isAgg61, z105 := Tryd.sizeOf61, v105 := Tryd.zeroValue61, t119 := Tryd.underlying112, a119 := Tryd.isAgg112, z119 := Tryd.sizeOf112, t138 := Tryd.underlying115, a138 := Tryd.isAgg115, z138 := Tryd.sizeOf115, v138 := Tryd.zeroValue115, t139 := Tryd.underlying116, a139 := Tryd.isAgg116, z139 := Tryd.sizeOf116, v139 := Tryd.zeroValue116, g3 := by kernel_rfl, g4 := by kernel_rfl }
/-- The tables' cells. -/
def Tabs (w : World) : Prop := Lib.Utf8Tabs 0 1 w
theorem Tabs.below {w w' : World} {B : Nat} (h : Tabs w) (hb : Below B w w') (hB : w.heap.size ≤ B) : Tabs w' := by
  have k : ∀ {p : Addr} {v : Value}, w.cell? p = some v → w'.cell? p = some v := fun {p v} hc => by
    have hlt := World.block_lt_of_cell? w _ hc
    rw [hb.cell (by omega)]
    exact hc
  exact ⟨fun c hc => k (h.1 c hc), fun i hi => ⟨k (h.2 i hi).1, k (h.2 i hi).2⟩⟩
theorem decode_any (s : ByteArray) (w : World) (hT : Tabs w) :
    Calls Tryd.prog 30 #[.string s] w fun e w' => e = .returned (.tuple #[.int .i32 (Lib.decodeGo s).1, .int .i64 (Lib.decodeGo s).2]) ∧ Below w.heap.size w w' :=
  Any.utf8_DecodeRuneInString laysU s w hT
theorem extraU : U8Extra Tryd.prog renU := { n3 := by kernel_rfl, n4 := by kernel_rfl, y3 := by kernel_rfl, y4 := by kernel_rfl, c5 := by kernel_rfl, c119 := by kernel_rfl, c138 := by kernel_rfl }
theorem tabs_of {w : World} {n3 n4 : String} {L : List (String × DataW Unit)} (h : laidMetH Tryd.prog L w) (hp : (L.all fun x => x.2.handleName?.isNone) = true) (m4 : (n4, Rows.laid_unicode_utf8_acceptRanges) ∈ L) (m3 : (n3, Rows.laid_unicode_utf8_first) ∈ L)
    (e3' : Lib.VarReads Tryd.prog w n3 Lib.firstData → Lib.VarReads Tryd.prog w n4 Lib.acceptData → Lib.Utf8Tabs (renU.g 3) (renU.g 4) w) : Tabs w := by
  rw [MakeChecks.laidMetH_plain _ _ _ hp] at h
  have h4 := Lib.laidMet.reads h (n := n4) (d := Rows.laid_unicode_utf8_acceptRanges) m4
  have h3 := Lib.laidMet.reads h (n := n3) (d := Rows.laid_unicode_utf8_first) m3
  have d4 : (Rows.laid_unicode_utf8_acceptRanges : DataW Unit) = Lib.acceptData := by kernel_rfl
  have d3 : Rows.laid_unicode_utf8_first = Lib.firstData := Pinned.utf8First_eq
  rw [d4] at h4
  rw [d3] at h3
  exact e3' h3 h4
end Go.Proofs.YtiddccohldjjcaaDoor

/- What the document's Letter, digit, inside, next, run and Name do. -/
namespace Go.Proofs.YtiddccohldjjcaaDoor
open Go.RowKit Go.Lib
set_option linter.unusedSimpArgs false
set_option linter.unusedVariables false

theorem refLetter_any (r : Int) (w : World) : Calls Tryd.prog 32 #[.int .i32 r] w fun e w' => e = .returned (.bool (letter r)) ∧ w = w' := by
  rw [letter_eq]
  go_enter Tryd.func32, Tryd.ntmps32
  go_wp2
  all_goals go_ret
  all_goals (refine ⟨ret_bool ?_, rfl⟩; first | rfl | (rw [Bool.eq_iff_iff]; simp; omega) | (rw [Bool.eq_iff_iff]; simp [*]; omega))
theorem refDigit_any (r : Int) (w : World) : Calls Tryd.prog 34 #[.int .i32 r] w fun e w' => e = .returned (.bool (dgt r)) ∧ w = w' := by
  rw [dgt_eq]
  go_enter Tryd.func34, Tryd.ntmps34
  go_wp2
  all_goals go_ret
  all_goals (refine ⟨ret_bool ?_, rfl⟩; first | rfl | (rw [Bool.eq_iff_iff]; simp; omega) | (rw [Bool.eq_iff_iff]; simp [*]; omega))
theorem refInside_any (r : Int) (w : World) : Calls Tryd.prog 56 #[.int .i32 r] w fun e w' => e = .returned (.bool (insd r)) ∧ w = w' := by
  have h1 := refLetter_any r w
  have h2 := refDigit_any r w
  have h3 : insd r = (letter r || dgt r || r == 95) := rfl
  rw [h3]
  cases ha : letter r <;> rw [ha] at h1
  · cases hb : dgt r <;> rw [hb] at h2
    · go_enter Tryd.func56, Tryd.ntmps56
      go_wp2_with (first
        | (go_at_call 32; refine h1.mono ?_; rintro e w' ⟨rfl, rfl⟩)
        | (go_at_call 34; refine h2.mono ?_; rintro e w' ⟨rfl, rfl⟩))
      go_ret
      exact ⟨ret_bool (by simp), rfl⟩
    · go_enter Tryd.func56, Tryd.ntmps56
      go_wp2_with (first
        | (go_at_call 32; refine h1.mono ?_; rintro e w' ⟨rfl, rfl⟩)
        | (go_at_call 34; refine h2.mono ?_; rintro e w' ⟨rfl, rfl⟩))
      go_ret
      exact ⟨ret_bool (by simp), rfl⟩
  · go_enter Tryd.func56, Tryd.ntmps56
    go_wp2_with (first
      | (go_at_call 32; refine h1.mono ?_; rintro e w' ⟨rfl, rfl⟩)
      | (go_at_call 34; refine h2.mono ?_; rintro e w' ⟨rfl, rfl⟩))
    go_ret
    exact ⟨ret_bool (by simp), rfl⟩

theorem decodeGo_nil {s : ByteArray} (h : bl s = []) : Lib.decodeGo s = (65533, 0) := by
  unfold Lib.decodeGo
  rw [if_pos]
  rw [← bl_length, h]; rfl
theorem decodeGo_eq {s : ByteArray} (h : bl s ≠ []) : Lib.decodeGo s = decodeL (bl s) := by
  unfold Lib.decodeGo
  rw [if_neg, ← decodeL_drop s 0, List.drop_zero]
  intro e
  exact h (List.eq_nil_of_length_eq_zero (by rw [bl_length]; exact e))

theorem refNext_any (s : ByteArray) (w : World) (hT : Tabs w) :
    Calls Tryd.prog 16 #[.string s] w fun e w' => e = .returned (tup2 (nx (bl s)).1 (nx (bl s)).2) ∧ Below w.heap.size w w' := by
  have h1 := decode_any s w hT
  obtain ⟨a, ha⟩ : ∃ a, (Lib.decodeGo s).1 = a := ⟨_, rfl⟩
  obtain ⟨b, hb⟩ : ∃ b, (Lib.decodeGo s).2 = b := ⟨_, rfl⟩
  rw [ha, hb] at h1
  have hn : nx (bl s) = if a = 65533 ∧ b ≤ 1 then (-1, b) else ((a : Int), b) := by
    by_cases hl : bl s = []
    · have := decodeGo_nil hl
      rw [this] at ha hb
      simp only at ha hb
      subst ha; subst hb
      rw [hl]; rfl
    · unfold nx
      rw [if_neg hl, ← decodeGo_eq hl, ha, hb]
  by_cases h1' : a = 65533
  · by_cases h2' : b ≤ 1
    · rw [hn, if_pos ⟨h1', h2'⟩]
      have e1 : ((a : Int) == 65533) = true := by simp; omega
      have e2 : (b : Int) ≤ 1 := by omega
      clear hn ha hb h1'
      go_enter Tryd.func16, Tryd.ntmps16
      go_wp2_with (first
        | (go_at_call 30; refine h1.mono ?_; rintro e w1 ⟨rfl, b1⟩))
      go_ret2
      exact ⟨rfl, b1⟩
    · rw [hn, if_neg (fun h => h2' h.2)]
      have e1 : ((a : Int) == 65533) = true := by simp; omega
      have e2 : ¬ (b : Int) ≤ 1 := by omega
      clear hn ha hb h1'
      go_enter Tryd.func16, Tryd.ntmps16
      go_wp2_with (first
        | (go_at_call 30; refine h1.mono ?_; rintro e w1 ⟨rfl, b1⟩))
      go_ret2
      exact ⟨rfl, b1⟩
  · rw [hn, if_neg (fun h => h1' h.1)]
    have e1 : ((a : Int) == 65533) = false := by simp; omega
    clear hn ha hb
    go_enter Tryd.func16, Tryd.ntmps16
    go_wp2_with (first
      | (go_at_call 30; refine h1.mono ?_; rintro e w1 ⟨rfl, b1⟩))
    go_ret2
    exact ⟨rfl, b1⟩
end Go.Proofs.YtiddccohldjjcaaDoor
