
/- What the program's Nodes does. -/
import Derived.Test.YtiddccohldjjcaaDoorPxK
import Derived.Deep.RegionLaw
namespace Go.Proofs.YtiddccohldjjcaaDoor
open Go.RowKit Go.Lib
set_option linter.unusedSimpArgs false
set_option linter.unusedVariables false
attribute [local go_sem ↓] Go.wp_at_zero Go.wp_at_succ
attribute [local go_sem] fld_i

theorem stk_len : ∀ (st : List Sg), st.length ≤ (st.map cntS).sum
  | [] => by simp
  | x :: r => by
    have := stk_len r
    have h1 : 1 ≤ cntS x := cnt_pos x.1 x.2
    simp only [List.map_cons, List.sum_cons, List.length_cons]
    omega

set_option maxRecDepth 100000 in
set_option maxHeartbeats 4000000 in
theorem pNodes_cnt (d : Nat) (t : T d) (w : World) (hc : Cl d t) (hn : cnt d t ≤ 100000) : Calls Tryd.prog 40 #[exV d t] w fun r w' => r = .returned (.int .i64 ((min (cnt d t) 41 : Nat) : Int)) ∧ Below w.heap.size w w' := by
  obtain ⟨i0, hi, hz0, hz1, hz2⟩ := info_parts Tryd.infoE
  obtain ⟨x, hx⟩ : ∃ x, exV d t = x := ⟨_, rfl⟩
  have hf := exV_form d t
  obtain ⟨N, hN⟩ : ∃ N, cnt d t = N := ⟨_, rfl⟩
  have hst : Hid (Stk (w.alloc (.cells #[x] 24)) w.heap.size (.slice (some ⟨w.heap.size, 0, none⟩) 1 1) [(⟨d, t⟩ : Sg)]) := by
    have := World.ownsRow_lit (e := 24) (base := w.heap.size) (size := 1) w #[x] 1 (Nat.le_refl _) (by simp [maxLen]) (by simp)
    show Stk _ _ _ _
    unfold Stk
    simpa [exS, hx] using this
  have hcl : Hid (∀ y ∈ [(⟨d, t⟩ : Sg)], ClS y) := fun y hy => by simp at hy; subst hy; exact hc
  have hsum : Hid (0 + (([(⟨d, t⟩ : Sg)]).map cntS).sum = N) := by show 0 + (cnt d t + 0) = N; omega
  obtain ⟨V, hV⟩ : ∃ V, min (cnt d t) 41 = V := ⟨_, rfl⟩
  rw [hV]
  have HV : Hid (min N 41 = V) := by rw [← hN]; exact hV
  rw [hN] at hn
  rw [hx] at hf ⊢
  clear hx hN hc hV
  obtain ⟨S, hS⟩ : ∃ S, [(⟨d, t⟩ : Sg)] = S := ⟨_, rfl⟩
  rw [hS] at hst hcl hsum
  clear hS t d
  rcases hf with rfl | ⟨u, y, rfl⟩
  · go_enter Tryd.func40, Tryd.ntmps40
    go_wp2
    go_loopw [3, 4] (fun a v wr => ∃ (c : Nat) (st : List Sg), a = .int .i64 (c : Int) ∧ c ≤ 41 ∧ Stk wr w.heap.size v st ∧ Hid (∀ y ∈ st, ClS y) ∧ Hid (c + (st.map cntS).sum = N) ∧ Below w.heap.size w wr) (fun a _ _ => 41 - (RowKit.intOf a).toNat)
    case atStart => exact ⟨0, S, rfl, by omega, hst.out, hcl, hsum, (Below.refl _ _).alloc (Nat.le_refl _) _⟩
    case round =>
      obtain ⟨c, st, rfl, hc41, hS, hC, hM, hb⟩ := hrel
      by_cases he : st = []
      · subst he
        obtain ⟨a, cap, rfl⟩ := hS.nil
        have hm := hM.out
        simp only [List.map_nil, List.sum_nil, Nat.add_zero] at hm
        subst hm
        have hmin : V = c := by rw [← HV.out]; omega
        subst hmin
        clear hsum
        go_wp2
        go_ret
        exact ⟨rfl, hb⟩
      obtain ⟨st', y, rfl⟩ := last_of he
      obtain ⟨g, cap, rfl, hcap, hcm, hgb, hgl, hcell, hS'⟩ := hS.pop
      have hm := hM.out
      rw [List.map_append, List.sum_append, List.map_singleton, List.sum_singleton] at hm
      have hcl1 := hC.out y (by simp)
      obtain ⟨e, t⟩ := y
      cases e with
      | zero => exact Empty.elim t
      | succ e =>
      obtain ⟨k, n, s, ps, rfl, htop⟩ := top_any (d := e) (t := t) hcl1
      have hcs : cntS ⟨e + 1, mkT k n s ps⟩ = (ps.map (cnt e)).sum + 1 := cnt_mk k n s ps
      rw [hcs] at hm
      have i1 : ((st'.length : Int) + 1 > 0) := by omega
      by_cases hc40 : c = 41
      · have i2 : ¬ (c : Int) ≤ 40 := by omega
        have hmin : V = c := by rw [← HV.out]; omega
        subst hmin
        clear hsum htop hcell hm hcs hC hM hS hS' hcl1 hst HV
        go_wp2
        go_ret
        exact ⟨rfl, hb⟩
      have i2 : (c : Int) ≤ 40 := by omega
      have hS2 := fun w1 (b : Below wr.heap.size wr w1) => hS'.on b (Nat.le_refl _)
      have hq := hb.size
      have i3 : (0 : Int) ≤ (st'.length : Int) := by omega
      have i4 : (st'.length : Int) ≤ (cap : Int) := by omega
      have i5 : (st'.length : Int) < (st'.length : Int) + 1 := by omega
      have hpl : ps.length ≤ 2 := (Cl.parts hcl1).1
      have hsl : st'.length ≤ 100000 := by
        have : st'.length ≤ (st'.map cntS).sum := stk_len st'
        omega
      have hNM : Hid (c + 1 + ((st' ++ kidS ps).map cntS).sum = N) := by
        show _ = _
        rw [List.map_append, List.sum_append, kidS_cnt]; omega
      have hNC : Hid (∀ y ∈ st' ++ kidS ps, ClS y) := fun y hy => by
        rcases List.mem_append.1 hy with h | h
        · exact hC.out y (by simp [h])
        · obtain ⟨p, hp, rfl⟩ := List.mem_map.1 h
          exact (Cl.parts hcl1).2 p hp
      obtain ⟨L, hL⟩ : ∃ L, ps.map (exV e) = L := ⟨_, rfl⟩
      obtain ⟨z, hz⟩ : ∃ z, exS ⟨e + 1, mkT k n s ps⟩ = z := ⟨_, rfl⟩
      have hzf := exS_form ⟨e + 1, mkT k n s ps⟩
      have hti : Hid (∀ v ∈ L, Ifc v) := by rw [← hL]; exact ifc_map ps
      have hLl : Hid (L.length = ps.length) := by rw [← hL]; show _ = _; simp
      have hL2 : L.length ≤ 2 := by rw [hLl.out]; exact hpl
      have htop' : ∀ w1, Calls Tryd.prog 24 #[z] w1 fun e w' => ∃ sl, e = .returned (.agg #[.int .i64 k, .int .i64 n, .string s, sl]) ∧ Kids w' sl L ∧ Below w1.heap.size w1 w' := by rw [← hz, ← hL]; exact htop
      rw [hz] at hcell hzf
      have hLH : Hid (ps.map (exV e) = L) := hL
      clear hL hz htop hm hcs hC hM hS hcl1 hst hsum hS'
      go_wp2
      go_region_law (first
          | (refine step_append_both _ (by rfl) (.tmp 20) (.tmp 26) 65 65 (by rfl) w.heap.size 24 i0 .nilIface 1 16 Tryd.underlying65 hi hz0 hz1 hz2 rfl _ st'.length _ (by rfl) ho1 _ L.length L (by rfl) (hk1.src hti.out) L.length (.inr (by omega)) (Nat.le_refl _) (by unfold maxLen; omega) (Nat.le_trans hq b1'.size) ?_; intro v4 w4 ho4 hg4 _)
          | (go_simp; refine (htop' _).mono ?_; rintro e w1 ⟨sl, rfl, hk1, b1⟩; obtain ⟨a1, rfl⟩ := hk1.form; have b1' : Below wr.heap.size wr w1 := ((Below.refl _ wr).drew).trans b1; have ho1 := hS2 w1 b1'))
      have bel4 : Below w.heap.size w w4 := (hb.trans (b1'.mono hq)).grown hg4 (Nat.le_trans hq b1'.size) (fun k hk => (World.ownsRow.lt ho1 k hk).1)
      have hS4 : Stk w4 w.heap.size v4 (st' ++ kidS ps) := Stk.push (n := st'.length + L.length) (by rw [hLl.out]) (by rw [hLH.out]; exact ho4)
      clear ho4 hg4 ho1 hk1 b1 b1' hS2 hcell htop' hb
      go_wp2
      go_roundw
      case rel => exact ⟨c + 1, st' ++ kidS ps, by go_num, by omega, hS4, hNC, hNM, bel4⟩
      case measure => simp [RowKit.intOf]; omega
  · go_enter Tryd.func40, Tryd.ntmps40
    go_wp2
    go_loopw [3, 4] (fun a v wr => ∃ (c : Nat) (st : List Sg), a = .int .i64 (c : Int) ∧ c ≤ 41 ∧ Stk wr w.heap.size v st ∧ Hid (∀ y ∈ st, ClS y) ∧ Hid (c + (st.map cntS).sum = N) ∧ Below w.heap.size w wr) (fun a _ _ => 41 - (RowKit.intOf a).toNat)
    case atStart => exact ⟨0, S, rfl, by omega, hst.out, hcl, hsum, (Below.refl _ _).alloc (Nat.le_refl _) _⟩
    case round =>
      obtain ⟨c, st, rfl, hc41, hS, hC, hM, hb⟩ := hrel
      by_cases he : st = []
      · subst he
        obtain ⟨a, cap, rfl⟩ := hS.nil
        have hm := hM.out
        simp only [List.map_nil, List.sum_nil, Nat.add_zero] at hm
        subst hm
        have hmin : V = c := by rw [← HV.out]; omega
        subst hmin
        clear hsum
        go_wp2
        go_ret
        exact ⟨rfl, hb⟩
      obtain ⟨st', y, rfl⟩ := last_of he
      obtain ⟨g, cap, rfl, hcap, hcm, hgb, hgl, hcell, hS'⟩ := hS.pop
      have hm := hM.out
      rw [List.map_append, List.sum_append, List.map_singleton, List.sum_singleton] at hm
      have hcl1 := hC.out y (by simp)
      obtain ⟨e, t⟩ := y
      cases e with
      | zero => exact Empty.elim t
      | succ e =>
      obtain ⟨k, n, s, ps, rfl, htop⟩ := top_any (d := e) (t := t) hcl1
      have hcs : cntS ⟨e + 1, mkT k n s ps⟩ = (ps.map (cnt e)).sum + 1 := cnt_mk k n s ps
      rw [hcs] at hm
      have i1 : ((st'.length : Int) + 1 > 0) := by omega
      by_cases hc40 : c = 41
      · have i2 : ¬ (c : Int) ≤ 40 := by omega
        have hmin : V = c := by rw [← HV.out]; omega
        subst hmin
        clear hsum htop hcell hm hcs hC hM hS hS' hcl1 hst HV
        go_wp2
        go_ret
        exact ⟨rfl, hb⟩
      have i2 : (c : Int) ≤ 40 := by omega
      have hS2 := fun w1 (b : Below wr.heap.size wr w1) => hS'.on b (Nat.le_refl _)
      have hq := hb.size
      have i3 : (0 : Int) ≤ (st'.length : Int) := by omega
      have i4 : (st'.length : Int) ≤ (cap : Int) := by omega
      have i5 : (st'.length : Int) < (st'.length : Int) + 1 := by omega
      have hpl : ps.length ≤ 2 := (Cl.parts hcl1).1
      have hsl : st'.length ≤ 100000 := by
        have : st'.length ≤ (st'.map cntS).sum := stk_len st'
        omega
      have hNM : Hid (c + 1 + ((st' ++ kidS ps).map cntS).sum = N) := by
        show _ = _
        rw [List.map_append, List.sum_append, kidS_cnt]; omega
      have hNC : Hid (∀ y ∈ st' ++ kidS ps, ClS y) := fun y hy => by
        rcases List.mem_append.1 hy with h | h
        · exact hC.out y (by simp [h])
        · obtain ⟨p, hp, rfl⟩ := List.mem_map.1 h
          exact (Cl.parts hcl1).2 p hp
      obtain ⟨L, hL⟩ : ∃ L, ps.map (exV e) = L := ⟨_, rfl⟩
      obtain ⟨z, hz⟩ : ∃ z, exS ⟨e + 1, mkT k n s ps⟩ = z := ⟨_, rfl⟩
      have hzf := exS_form ⟨e + 1, mkT k n s ps⟩
      have hti : Hid (∀ v ∈ L, Ifc v) := by rw [← hL]; exact ifc_map ps
      have hLl : Hid (L.length = ps.length) := by rw [← hL]; show _ = _; simp
      have hL2 : L.length ≤ 2 := by rw [hLl.out]; exact hpl
      have htop' : ∀ w1, Calls Tryd.prog 24 #[z] w1 fun e w' => ∃ sl, e = .returned (.agg #[.int .i64 k, .int .i64 n, .string s, sl]) ∧ Kids w' sl L ∧ Below w1.heap.size w1 w' := by rw [← hz, ← hL]; exact htop
      rw [hz] at hcell hzf
      have hLH : Hid (ps.map (exV e) = L) := hL
      clear hL hz htop hm hcs hC hM hS hcl1 hst hsum hS'
      go_wp2
      go_region_law (first
          | (refine step_append_both _ (by rfl) (.tmp 20) (.tmp 26) 65 65 (by rfl) w.heap.size 24 i0 .nilIface 1 16 Tryd.underlying65 hi hz0 hz1 hz2 rfl _ st'.length _ (by rfl) ho1 _ L.length L (by rfl) (hk1.src hti.out) L.length (.inr (by omega)) (Nat.le_refl _) (by unfold maxLen; omega) (Nat.le_trans hq b1'.size) ?_; intro v4 w4 ho4 hg4 _)
          | (go_simp; refine (htop' _).mono ?_; rintro e w1 ⟨sl, rfl, hk1, b1⟩; obtain ⟨a1, rfl⟩ := hk1.form; have b1' : Below wr.heap.size wr w1 := ((Below.refl _ wr).drew).trans b1; have ho1 := hS2 w1 b1'))
      have bel4 : Below w.heap.size w w4 := (hb.trans (b1'.mono hq)).grown hg4 (Nat.le_trans hq b1'.size) (fun k hk => (World.ownsRow.lt ho1 k hk).1)
      have hS4 : Stk w4 w.heap.size v4 (st' ++ kidS ps) := Stk.push (n := st'.length + L.length) (by rw [hLl.out]) (by rw [hLH.out]; exact ho4)
      clear ho4 hg4 ho1 hk1 b1 b1' hS2 hcell htop' hb
      go_wp2
      go_roundw
      case rel => exact ⟨c + 1, st' ++ kidS ps, by go_num, by omega, hS4, hNC, hNM, bel4⟩
      case measure => simp [RowKit.intOf]; omega
end Go.Proofs.YtiddccohldjjcaaDoor
