import Derived.Test.YtccmmkhcacglhaaGreatDoorWa11
import Derived.Deep.RegionLaw
import Derived.Test.YtccmmkhcacglhaaGreatDoorWa10
import Derived.Test.YtccmmkhcacglhaaGreatDoorWa03
import Derived.Test.YtccmmkhcacglhaaGreatDoorWa14

/- What the program's Nodes does. -/
namespace Go.Proofs.YtccmmkhcacglhaaGreatDoor
open Go.RowKit Go.Lib
set_option linter.unusedSimpArgs false
set_option linter.unusedVariables false
attribute [local go_sem ↓] Go.wp_at_zero Go.wp_at_succ
attribute [local go_sem] fld_i

theorem stk_len : ∀ (st : List Sg), st.length ≤ (st.map cntS).sum
  | [] => by simp
  | x :: r => by
    have := stk_len r
    have h1 : 1 ≤ cntS x := cnt_pos x.1 x.2
    simp only [List.map_cons, List.sum_cons, List.length_cons]
    omega

set_option maxRecDepth 100000 in
set_option maxHeartbeats 4000000 in
theorem pNodes_cnt (d : Nat) (t : T d) (w : World) (hc : Cl d t) (hn : cnt d t ≤ 100000) : Calls Tryz.prog 154 #[exV d t] w fun r w' => r = .returned (.int .i64 ((min (cnt d t) 41 : Nat) : Int)) ∧ Below w.heap.size w w' := by
  obtain ⟨i0, hi, hz0, hz1, hz2⟩ := info_parts Tryz.infoE
  obtain ⟨x, hx⟩ : ∃ x, exV d t = x := ⟨_, rfl⟩
  have hf := exV_form d t
  obtain ⟨N, hN⟩ : ∃ N, cnt d t = N := ⟨_, rfl⟩
  have hst : Hid (Stk (w.alloc (.cells #[x] 139)) w.heap.size (.slice (some ⟨w.heap.size, 0, none⟩) 1 1) [(⟨d, t⟩ : Sg)]) := by
    have := World.ownsRow_lit (e := 139) (base := w.heap.size) (size := 1) w #[x] 1 (Nat.le_refl _) (by simp [maxLen]) (by simp)
    show Stk _ _ _ _
    unfold Stk
    simpa [exS, hx] using this
  have hcl : Hid (∀ y ∈ [(⟨d, t⟩ : Sg)], ClS y) := fun y hy => by simp at hy; subst hy; exact hc
  have hsum : Hid (0 + (([(⟨d, t⟩ : Sg)]).map cntS).sum = N) := by show 0 + (cnt d t + 0) = N; omega
  obtain ⟨V, hV⟩ : ∃ V, min (cnt d t) 41 = V := ⟨_, rfl⟩
  rw [hV]
  have HV : Hid (min N 41 = V) := by rw [← hN]; exact hV
  rw [hN] at hn
  rw [hx] at hf ⊢
  clear hx hN hc hV
  obtain ⟨S, hS⟩ : ∃ S, [(⟨d, t⟩ : Sg)] = S := ⟨_, rfl⟩
  rw [hS] at hst hcl hsum
  clear hS t d
  rcases hf with rfl | ⟨u, y, rfl⟩
  · go_enter Tryz.func154, Tryz.ntmps154
    go_wp2
    go_loopw [3, 4] (fun a v wr => ∃ (c : Nat) (st : List Sg), a = .int .i64 (c : Int) ∧ c ≤ 41 ∧ Stk wr w.heap.size v st ∧ Hid (∀ y ∈ st, ClS y) ∧ Hid (c + (st.map cntS).sum = N) ∧ Below w.heap.size w wr) (fun a _ _ => 41 - (RowKit.intOf a).toNat)
    case atStart => exact ⟨0, S, rfl, by omega, hst.out, hcl, hsum, (Below.refl _ _).alloc (Nat.le_refl _) _⟩
    case round =>
      obtain ⟨c, st, rfl, hc41, hS, hC, hM, hb⟩ := hrel
      by_cases he : st = []
      · subst he
        obtain ⟨a, cap, rfl⟩ := hS.nil
        have hm := hM.out
        simp only [List.map_nil, List.sum_nil, Nat.add_zero] at hm
        subst hm
        have hmin : V = c := by rw [← HV.out]; omega
        subst hmin
        clear hsum
        go_wp2
        go_ret
        exact ⟨rfl, hb⟩
      obtain ⟨st', y, rfl⟩ := last_of he
      obtain ⟨g, cap, rfl, hcap, hcm, hgb, hgl, hcell, hS'⟩ := hS.pop
      have hm := hM.out
      rw [List.map_append, List.sum_append, List.map_singleton, List.sum_singleton] at hm
      have hcl1 := hC.out y (by simp)
      obtain ⟨e, t⟩ := y
      cases e with
      | zero => exact Empty.elim t
      | succ e =>
      obtain ⟨k, n, s, ps, rfl, htop⟩ := top_any (d := e) (t := t) hcl1
      have hcs : cntS ⟨e + 1, mkT k n s ps⟩ = (ps.map (cnt e)).sum + 1 := cnt_mk k n s ps
      rw [hcs] at hm
      have i1 : ((st'.length : Int) + 1 > 0) := by omega
      by_cases hc40 : c = 41
      · have i2 : ¬ (c : Int) ≤ 40 := by omega
        have hmin : V = c := by rw [← HV.out]; omega
        subst hmin
        clear hsum htop hcell hm hcs hC hM hS hS' hcl1 hst HV
        go_wp2
        go_ret
        exact ⟨rfl, hb⟩
      have i2 : (c : Int) ≤ 40 := by omega
      have hS2 := fun w1 (b : Below wr.heap.size wr w1) => hS'.on b (Nat.le_refl _)
      have hq := hb.size
      have i3 : (0 : Int) ≤ (st'.length : Int) := by omega
      have i4 : (st'.length : Int) ≤ (cap : Int) := by omega
      have i5 : (st'.length : Int) < (st'.length : Int) + 1 := by omega
      have hpl : ps.length ≤ 2 := (Cl.parts hcl1).1
      have hsl : st'.length ≤ 100000 := by
        have : st'.length ≤ (st'.map cntS).sum := stk_len st'
        omega
      have hNM : Hid (c + 1 + ((st' ++ kidS ps).map cntS).sum = N) := by
        show _ = _
        rw [List.map_append, List.sum_append, kidS_cnt]; omega
      have hNC : Hid (∀ y ∈ st' ++ kidS ps, ClS y) := fun y hy => by
        rcases List.mem_append.1 hy with h | h
        · exact hC.out y (by simp [h])
        · obtain ⟨p, hp, rfl⟩ := List.mem_map.1 h
          exact (Cl.parts hcl1).2 p hp
      obtain ⟨L, hL⟩ : ∃ L, ps.map (exV e) = L := ⟨_, rfl⟩
      obtain ⟨z, hz⟩ : ∃ z, exS ⟨e + 1, mkT k n s ps⟩ = z := ⟨_, rfl⟩
      have hzf := exS_form ⟨e + 1, mkT k n s ps⟩
      have hti : Hid (∀ v ∈ L, Ifc v) := by rw [← hL]; exact ifc_map ps
      have hLl : Hid (L.length = ps.length) := by rw [← hL]; show _ = _; simp
      have hL2 : L.length ≤ 2 := by rw [hLl.out]; exact hpl
      have htop' : ∀ w1, Calls Tryz.prog 152 #[z] w1 fun e w' => ∃ sl, e = .returned (.agg #[.int .i64 k, .int .i64 n, .string s, sl]) ∧ Kids w' sl L ∧ Below w1.heap.size w1 w' := by rw [← hz, ← hL]; exact htop
      rw [hz] at hcell hzf
      have hLH : Hid (ps.map (exV e) = L) := hL
      clear hL hz htop hm hcs hC hM hS hcl1 hst hsum hS'
      go_wp2
      go_region_law (first
          | (refine step_append_both _ (by rfl) (.tmp 20) (.tmp 26) 212 212 (by rfl) w.heap.size 139 i0 .nilIface 1 16 Tryz.underlying212 hi hz0 hz1 hz2 rfl _ st'.length _ (by rfl) ho1 _ L.length L (by rfl) (hk1.src hti.out) L.length (.inr (by omega)) (Nat.le_refl _) (by unfold maxLen; omega) (Nat.le_trans hq b1'.size) ?_; intro v4 w4 ho4 hg4 _)
          | (go_simp; refine (htop' _).mono ?_; rintro e w1 ⟨sl, rfl, hk1, b1⟩; obtain ⟨a1, rfl⟩ := hk1.form; have b1' : Below wr.heap.size wr w1 := ((Below.refl _ wr).drew).trans b1; have ho1 := hS2 w1 b1'))
      have bel4 : Below w.heap.size w w4 := (hb.trans (b1'.mono hq)).grown hg4 (Nat.le_trans hq b1'.size) (fun k hk => (World.ownsRow.lt ho1 k hk).1)
      have hS4 : Stk w4 w.heap.size v4 (st' ++ kidS ps) := Stk.push (n := st'.length + L.length) (by rw [hLl.out]) (by rw [hLH.out]; exact ho4)
      clear ho4 hg4 ho1 hk1 b1 b1' hS2 hcell htop' hb
      go_wp2
      go_roundw
      case rel => exact ⟨c + 1, st' ++ kidS ps, by go_num, by omega, hS4, hNC, hNM, bel4⟩
      case measure => simp [RowKit.intOf]; omega
  · go_enter Tryz.func154, Tryz.ntmps154
    go_wp2
    go_loopw [3, 4] (fun a v wr => ∃ (c : Nat) (st : List Sg), a = .int .i64 (c : Int) ∧ c ≤ 41 ∧ Stk wr w.heap.size v st ∧ Hid (∀ y ∈ st, ClS y) ∧ Hid (c + (st.map cntS).sum = N) ∧ Below w.heap.size w wr) (fun a _ _ => 41 - (RowKit.intOf a).toNat)
    case atStart => exact ⟨0, S, rfl, by omega, hst.out, hcl, hsum, (Below.refl _ _).alloc (Nat.le_refl _) _⟩
    case round =>
      obtain ⟨c, st, rfl, hc41, hS, hC, hM, hb⟩ := hrel
      by_cases he : st = []
      · subst he
        obtain ⟨a, cap, rfl⟩ := hS.nil
        have hm := hM.out
        simp only [List.map_nil, List.sum_nil, Nat.add_zero] at hm
        subst hm
        have hmin : V = c := by rw [← HV.out]; omega
        subst hmin
        clear hsum
        go_wp2
        go_ret
        exact ⟨rfl, hb⟩
      obtain ⟨st', y, rfl⟩ := last_of he
      obtain ⟨g, cap, rfl, hcap, hcm, hgb, hgl, hcell, hS'⟩ := hS.pop
      have hm := hM.out
      rw [List.map_append, List.sum_append, List.map_singleton, List.sum_singleton] at hm
      have hcl1 := hC.out y (by simp)
      obtain ⟨e, t⟩ := y
      cases e with
      | zero => exact Empty.elim t
      | succ e =>
      obtain ⟨k, n, s, ps, rfl, htop⟩ := top_any (d := e) (t := t) hcl1
      have hcs : cntS ⟨e + 1, mkT k n s ps⟩ = (ps.map (cnt e)).sum + 1 := cnt_mk k n s ps
      rw [hcs] at hm
      have i1 : ((st'.length : Int) + 1 > 0) := by omega
      by_cases hc40 : c = 41
      · have i2 : ¬ (c : Int) ≤ 40 := by omega
        have hmin : V = c := by rw [← HV.out]; omega
        subst hmin
        clear hsum htop hcell hm hcs hC hM hS hS' hcl1 hst HV
        go_wp2
        go_ret
        exact ⟨rfl, hb⟩
      have i2 : (c : Int) ≤ 40 := by omega
      have hS2 := fun w1 (b : Below wr.heap.size wr w1) => hS'.on b (Nat.le_refl _)
      have hq := hb.size
      have i3 : (0 : Int) ≤ (st'.length : Int) := by omega
      have i4 : (st'.length : Int) ≤ (cap : Int) := by omega
      have i5 : (st'.length : Int) < (st'.length : Int) + 1 := by omega
      have hpl : ps.length ≤ 2 := (Cl.parts hcl1).1
      have hsl : st'.length ≤ 100000 := by
        have : st'.length ≤ (st'.map cntS).sum := stk_len st'
        omega
      have hNM : Hid (c + 1 + ((st' ++ kidS ps).map cntS).sum = N) := by
        show _ = _
        rw [List.map_append, List.sum_append, kidS_cnt]; omega
      have hNC : Hid (∀ y ∈ st' ++ kidS ps, ClS y) := fun y hy => by
        rcases List.mem_append.1 hy with h | h
        · exact hC.out y (by simp [h])
        · obtain ⟨p, hp, rfl⟩ := List.mem_map.1 h
          exact (Cl.parts hcl1).2 p hp
      obtain ⟨L, hL⟩ : ∃ L, ps.map (exV e) = L := ⟨_, rfl⟩
      obtain ⟨z, hz⟩ : ∃ z, exS ⟨e + 1, mkT k n s ps⟩ = z := ⟨_, rfl⟩
      have hzf := exS_form ⟨e + 1, mkT k n s ps⟩
      have hti : Hid (∀ v ∈ L, Ifc v) := by rw [← hL]; exact ifc_map ps
      have hLl : Hid (L.length = ps.length) := by rw [← hL]; show _ = _; simp
      have hL2 : L.length ≤ 2 := by rw [hLl.out]; exact hpl
      have htop' : ∀ w1, Calls Tryz.prog 152 #[z] w1 fun e w' => ∃ sl, e = .returned (.agg #[.int .i64 k, .int .i64 n, .string s, sl]) ∧ Kids w' sl L ∧ Below w1.heap.size w1 w' := by rw [← hz, ← hL]; exact htop
      rw [hz] at hcell hzf
      have hLH : Hid (ps.map (exV e) = L) := hL
      clear hL hz htop hm hcs hC hM hS hcl1 hst hsum hS'
      go_wp2
      go_region_law (first
          | (refine step_append_both _ (by rfl) (.tmp 20) (.tmp 26) 212 212 (by rfl) w.heap.size 139 i0 .nilIface 1 16 Tryz.underlying212 hi hz0 hz1 hz2 rfl _ st'.length _ (by rfl) ho1 _ L.length L (by rfl) (hk1.src hti.out) L.length (.inr (by omega)) (Nat.le_refl _) (by unfold maxLen; omega) (Nat.le_trans hq b1'.size) ?_; intro v4 w4 ho4 hg4 _)
          | (go_simp; refine (htop' _).mono ?_; rintro e w1 ⟨sl, rfl, hk1, b1⟩; obtain ⟨a1, rfl⟩ := hk1.form; have b1' : Below wr.heap.size wr w1 := ((Below.refl _ wr).drew).trans b1; have ho1 := hS2 w1 b1'))
      have bel4 : Below w.heap.size w w4 := (hb.trans (b1'.mono hq)).grown hg4 (Nat.le_trans hq b1'.size) (fun k hk => (World.ownsRow.lt ho1 k hk).1)
      have hS4 : Stk w4 w.heap.size v4 (st' ++ kidS ps) := Stk.push (n := st'.length + L.length) (by rw [hLl.out]) (by rw [hLH.out]; exact ho4)
      clear ho4 hg4 ho1 hk1 b1 b1' hS2 hcell htop' hb
      go_wp2
      go_roundw
      case rel => exact ⟨c + 1, st' ++ kidS ps, by go_num, by omega, hS4, hNC, hNM, bel4⟩
      case measure => simp [RowKit.intOf]; omega
end Go.Proofs.YtccmmkhcacglhaaGreatDoor

/- What is asked of the program's Formed. -/
namespace Go.Proofs.YtccmmkhcacglhaaGreatDoor
open Go.RowKit Go.Lib
set_option linter.unusedSimpArgs false
set_option linter.unusedVariables false

/-- The program's Formed answers as the document says. -/
def FormedP : Prop := ∀ (d : Nat) (t : T d) (w : World), Cl d t → cnt d t ≤ 100000 → shrt 1000 d t = true → Calls Tryz.prog 185 #[exV d t] w fun r w' => r = .returned (.bool (fmC d t)) ∧ Below w.heap.size w w'
theorem bthen {a b c : World} (h : Below a.heap.size a b) (k : Below b.heap.size b c) : Below a.heap.size a c := h.trans (k.mono h.size)
theorem At4.on {w w' : World} {X : Nat} {a b c e : Value} (h : At4 w X a b c e) (hb : Below w.heap.size w w') : At4 w' X a b c e := h.keepB hb (World.block_lt_of_cell? w _ h.1)
/-- A small tree, cleaned. -/
theorem small_cln {d : Nat} {t : T d} (h : 0 ≤ sml d t 0 200) : cnt (d + 1) (cln d t) ≤ 1000 ∧ shrt 1000 (d + 1) (cln d t) = true := by
  obtain ⟨h1, h2⟩ := sml_ok d t 0 200 h
  have h3 := cnt_cln d t
  exact ⟨by omega, shrt_cln 1000 d t h2⟩
end Go.Proofs.YtccmmkhcacglhaaGreatDoor

/- What the program's rightWithin and Formed do. -/
namespace Go.Proofs.YtccmmkhcacglhaaGreatDoor
open Go.RowKit Go.Lib
set_option linter.unusedSimpArgs false
set_option linter.unusedVariables false
attribute [local go_sem ↓] Go.wp_at_zero Go.wp_at_succ

theorem ndC_cnt : ∀ (d : Nat) (t : T d), ndC d t = min (cnt d t) 41
  | 0, t => Empty.elim t
  | d + 1, t => by
    obtain ⟨k, n, s, ps, rfl⟩ := T.open t
    rw [ndC_mk, cnt_mk]
    have : ∀ l : List (T d), min ((l.map (ndC d)).sum + 1) 41 = min ((l.map (cnt d)).sum + 1) 41 := fun l => by
      induction l with
      | nil => rfl
      | cons p r ih =>
        have := ndC_cnt d p
        simp only [List.map_cons, List.sum_cons]
        omega
    exact this ps

theorem foldl_max_iff {m : Nat} : ∀ (l : List Nat) (a : Nat), l.foldl max a ≤ m ↔ a ≤ m ∧ ∀ x ∈ l, x ≤ m
  | [], a => by simp
  | x :: r, a => by
    rw [List.foldl_cons, foldl_max_iff r, Nat.max_le]
    simp only [List.mem_cons, forall_eq_or_imp, and_assoc]
theorem sd_rt {d : Nat} {k n : Int} {s : ByteArray} {ps : List (T d)} (h : Cl (d + 1) (mkT k n s ps)) : sdC (d + 1) (mkT k n s ps) = (rtC k n s && ps.all (sdC d)) := by
  rw [sdC_mk]
  unfold rtC
  rcases h with ⟨h1, h2, h3⟩ | ⟨h1, h2, h3⟩ | ⟨h1, h2, h3, p, h4, h5⟩ | ⟨h1, h2, p, q, h3, h4, h5⟩ | ⟨h1, h2, h3, h4⟩
  · simp only at h1 h3; subst h1 h3; simp
  · simp only at h1 h3; subst h1 h3; simp
  · simp only at h1 h4; rcases h1 with rfl | rfl <;> simp
  · simp only at h1 h3; subst h1 h3; simp
  · simp only at h1 h4; subst h1 h4; simp
theorem within_all {d : Nat} {k n : Int} {s : ByteArray} {ps : List (T d)} (h : Cl (d + 1) (mkT k n s ps)) (r : Nat) :
    (decide (dpC (d + 1) (mkT k n s ps) ≤ r + 1) && sdC (d + 1) (mkT k n s ps)) = (rtC k n s && ps.all (fun p => decide (dpC d p ≤ r) && sdC d p)) := by
  rw [sd_rt h, dpC_mk]
  have e1 : decide ((ps.map (dpC d)).foldl max 0 + 1 ≤ r + 1) = ps.all (fun p => decide (dpC d p ≤ r)) := by
    rw [Bool.eq_iff_iff]
    simp only [decide_eq_true_eq, List.all_eq_true]
    rw [Nat.add_le_add_iff_right, foldl_max_iff]
    simp
  have e2 : ps.all (fun p => decide (dpC d p ≤ r) && sdC d p) = (ps.all (fun p => decide (dpC d p ≤ r)) && ps.all (sdC d)) := by
    induction ps with
    | nil => rfl
    | cons p q ih =>
      simp only [List.all_cons]
      have : q.all (fun p => decide (dpC d p ≤ r) && sdC d p) = (q.all (fun p => decide (dpC d p ≤ r)) && q.all (sdC d)) := by
        clear ih e1 h
        induction q with
        | nil => rfl
        | cons a b ih => simp only [List.all_cons]; rw [ih]; cases decide (dpC d a ≤ r) <;> cases sdC d a <;> simp
      rw [this]
      cases decide (dpC d p ≤ r) <;> cases sdC d p <;> simp
  rw [e1, e2]
  cases rtC k n s <;> simp
theorem dpC_pos (d : Nat) (t : T d) : 1 ≤ dpC d t := by
  match d, t with
  | 0, t => exact Empty.elim t
  | d + 1, t =>
    obtain ⟨k, n, s, ps, rfl⟩ := T.open t
    rw [dpC_mk]; omega

def RightC (d : Nat) : Prop := ∀ (t : T d) (r : Nat) (w : World), Cl d t → shrt 1000 d t = true → r ≤ 12 →
  Calls Tryz.prog 202 #[exV d t, .int .i64 (r : Int)] w fun e w' => e = .returned (.bool (decide (dpC d t ≤ r) && sdC d t)) ∧ Below w.heap.size w w'
set_option maxRecDepth 100000 in
set_option maxHeartbeats 4000000 in
theorem right_step (d : Nat) (IH : RightC d) : RightC (d + 1) := by
  intro t r w hc hs hr
  obtain ⟨k, n, s, ps, rfl, htop⟩ := top_any hc
  rw [shrt_mk] at hs
  simp only [Bool.and_eq_true, decide_eq_true_eq, List.all_eq_true] at hs
  obtain ⟨hs1, hs2⟩ := hs
  obtain ⟨x, hx⟩ : ∃ x, exV (d + 1) (mkT k n s ps) = x := ⟨_, rfl⟩
  rw [hx] at htop ⊢
  have htop' : ∀ w1, Calls Tryz.prog 152 #[x] w1 fun e w' => ∃ sl, e = .returned (.agg #[.int .i64 k, .int .i64 n, .string s, sl]) ∧ Kids w' sl (ps.map (exV d)) ∧ Below w1.heap.size w1 w' := htop
  cases r with
  | zero =>
    have e1 : (((0 : Nat) : Int) < 1) := by omega
    have hd := dpC_pos (d + 1) (mkT k n s ps)
    rw [decide_eq_false (by omega), Bool.false_and]
    go_enter Tryz.func202, Tryz.ntmps202
    go_wp2_with (first
      | (go_at_call 152; refine (htop' _).mono ?_; rintro e w1 ⟨sl, rfl, hk1, b1⟩; obtain ⟨a1, rfl⟩ := hk1.form))
    go_ret
    exact ⟨rfl, b1.alloc b1.size _⟩
  | succ r =>
  rw [within_all hc]
  obtain ⟨L, hL⟩ : ∃ L, ps.map (exV d) = L := ⟨_, rfl⟩
  have hkid : Hid (∀ (j : Nat) (h : j < L.length) (h' : j < ps.length) (w1 : World), Calls Tryz.prog 202 #[L[j], .int .i64 (r : Int)] w1 fun e w' => e = .returned (.bool (decide (dpC d ps[j] ≤ r) && sdC d ps[j])) ∧ Below w1.heap.size w1 w') :=
    fun j h h' w1 => by
      have := IH ps[j] r w1 ((Cl.parts hc).2 _ (List.getElem_mem h')) (hs2 _ (List.getElem_mem h')) (by omega)
      subst hL
      simpa using this
  have hrt := fun a m w1 => rightTop_any k n s a m hs1 w1
  have hpl : L.length ≤ 2 := by rw [← hL]; simpa using (Cl.parts hc).1
  have hLl : Hid (L.length = ps.length) := by rw [← hL]; show _ = _; simp
  have i0 : ¬ ((r : Int) + 1 < 1) := by omega
  have i1 : (((r + 1 : Nat) : Int)) = (r : Int) + 1 := by omega
  rw [i1]
  obtain ⟨g, hg⟩ : ∃ g, rtC k n s = g := ⟨_, rfl⟩
  simp only [hg] at hrt
  simp only [hL] at htop'
  rw [hg]
  clear hg i1 htop hs1 hs2 hc hx hL
  cases g with
  | false =>
    rw [Bool.false_and]
    go_enter Tryz.func202, Tryz.ntmps202
    go_wp2_with (first
      | (go_at_call 152; refine (htop' _).mono ?_; rintro e w1 ⟨sl, rfl, hk1, b1⟩; obtain ⟨a1, rfl⟩ := hk1.form; have b2 := b1.alloc b1.size (.cells #[.int .i64 k, .int .i64 n, .string s, .slice a1 L.length L.length] 214))
      | (go_at_call 217; refine (hrt _ _ _).mono ?_; rintro e w2 ⟨rfl, b3⟩))
    go_ret
    exact ⟨rfl, b2.trans (b3.mono b2.size)⟩
  | true =>
    rw [Bool.true_and]
    obtain ⟨V, hV⟩ : ∃ V, ps.all (fun p => decide (dpC d p ≤ r) && sdC d p) = V := ⟨_, rfl⟩
    rw [hV]
    have HV : Hid (ps.all (fun p => decide (dpC d p ≤ r) && sdC d p) = V) := hV
    clear hV
    go_enter Tryz.func202, Tryz.ntmps202
    go_wp2_with (first
      | (go_at_call 152; refine (htop' _).mono ?_; rintro e w1 ⟨sl, rfl, hk1, b1⟩; obtain ⟨a1, rfl⟩ := hk1.form; have b2 := b1.alloc b1.size (.cells #[.int .i64 k, .int .i64 n, .string s, .slice a1 L.length L.length] 214))
      | (go_at_call 217; refine (hrt _ _ _).mono ?_; rintro e w2 ⟨rfl, b3⟩; obtain ⟨y0, y1, y2, y3⟩ := (At4.new w1 (.int .i64 k) (.int .i64 n) (.string s) (.slice a1 L.length L.length) 214).keepB b3 (by simp)))
    have b4 := b2.trans (b3.mono b2.size)
    have hk2 := (hk1.below ((Below.refl _ _).alloc (Nat.le_refl _) _) (Nat.le_refl _)).below b3 (Nat.le_refl _)
    clear hrt htop' hk1 b1 b2 b3
    go_loopw [20] (fun i wr => ∃ j : Nat, j ≤ L.length ∧ i = .int .i64 (j : Int) ∧ Hid ((ps.take j).all (fun p => decide (dpC d p ≤ r) && sdC d p) = true) ∧ Hid (Kids wr (.slice a1 L.length L.length) L) ∧ Below w.heap.size w wr) (fun i _ => L.length - (RowKit.intOf i).toNat)
    case atStart => exact ⟨0, Nat.zero_le _, rfl, rfl, hk2, b4⟩
    case round =>
      obtain ⟨j, hj, rfl, hA, hK, hb⟩ := hrel
      have i2 : (0 : Int) ≤ (j : Int) := by omega
      have hll := hLl.out
      by_cases hlt : j < L.length
      · have i3 : (j : Int) < (L.length : Int) := by omega
        obtain ⟨gg, hgg, hcell⟩ := hK.out.at hlt
        have hc2 := hkid.out j hlt (by omega)
        have h1 := all_take_succ (fun p => decide (dpC d p ≤ r) && sdC d p) ps j (by omega) hA.out
        have h2 := all_not (fun p => decide (dpC d p ≤ r) && sdC d p) ps j (by omega)
        obtain ⟨z, hz⟩ : ∃ z, L[j] = z := ⟨_, rfl⟩
        obtain ⟨q, hq⟩ : ∃ q, (decide (dpC d (ps[j]'(by omega)) ≤ r) && sdC d (ps[j]'(by omega))) = q := ⟨_, rfl⟩
        rw [hz] at hcell
        simp only [hz, hq] at hc2
        simp only [hq] at h1 h2
        subst hgg
        have hK2 := fun w3 (b : Below wr.heap.size wr w3) => hK.out.below b (Nat.le_refl _)
        have hS : Hid (_ → _) := h1
        have hN : Hid (_ → _) := h2
        clear hz hq h1 h2 hll hK hA
        cases q with
        | false =>
          have hF : V = false := by rw [← HV.out]; exact hN.out rfl
          subst hF
          go_wp2_with (first
            | (go_at_call 202; refine (hc2 _).mono ?_; rintro e w3 ⟨rfl, b5⟩))
          go_ret
          exact ⟨rfl, hb.trans (b5.mono hb.size)⟩
        | true =>
          have hT := hS.out rfl
          have HT : Hid ((ps.take (j + 1)).all (fun p => decide (dpC d p ≤ r) && sdC d p) = true) := hT
          clear hT hS hN
          go_wp2_with (first
            | (go_at_call 202; refine (hc2 _).mono ?_; rintro e w3 ⟨rfl, b5⟩))
          have hK3 : Hid _ := hK2 _ b5
          have b6 := hb.trans (b5.mono hb.size)
          go_roundw
          case rel => exact ⟨j + 1, hlt, by go_num, HT, hK3, b6⟩
          case measure => simp [RowKit.intOf]; omega
      · have i3 : ¬ (j : Int) < (L.length : Int) := by omega
        have hF : V = true := by
          rw [← HV.out, ← hA.out, List.take_of_length_le (by omega)]
        subst hF
        clear hll
        go_wp2
        go_ret
        exact ⟨rfl, hb⟩
theorem right_any : ∀ (d : Nat), RightC d
  | 0 => fun t => Empty.elim t
  | d + 1 => right_step d (right_any d)

theorem pNodes_any (d : Nat) (t : T d) (w : World) (hc : Cl d t) (hn : cnt d t ≤ 100000) : Calls Tryz.prog 154 #[exV d t] w fun r w' => r = .returned (.int .i64 (ndC d t : Int)) ∧ Below w.heap.size w w' := by
  rw [ndC_cnt]
  exact pNodes_cnt d t w hc hn

theorem formedP : FormedP := by
  intro d t w hc hn hs
  have h1 := pNodes_any d t w hc hn
  have h2 := fun w1 => right_any d t 12 w1 hc hs (Nat.le_refl _)
  unfold fmC
  obtain ⟨N, hN⟩ : ∃ N, ndC d t = N := ⟨_, rfl⟩
  obtain ⟨q, hq⟩ : ∃ q, (decide (dpC d t ≤ 12) && sdC d t) = q := ⟨_, rfl⟩
  obtain ⟨x, hx⟩ : ∃ x, exV d t = x := ⟨_, rfl⟩
  rw [Bool.and_assoc, hN, hq]
  rw [hN] at h1
  simp only [hq] at h2
  rw [hx] at h1 ⊢
  simp only [hx] at h2
  clear hN hq hx hc hn hs
  by_cases h40 : N ≤ 40
  · have e1 : (N : Int) ≤ 40 := by omega
    rw [decide_eq_true h40, Bool.true_and]
    go_enter Tryz.func185, Tryz.ntmps185
    go_wp2_with (first
      | (go_at_call 154; refine h1.mono ?_; rintro e w1 ⟨rfl, b1⟩)
      | (go_at_call 202; refine (h2 _).mono ?_; rintro e w2 ⟨rfl, b2⟩))
    go_ret
    exact ⟨rfl, bthen b1 b2⟩
  · have e1 : ¬ (N : Int) ≤ 40 := by omega
    rw [decide_eq_false h40, Bool.false_and]
    go_enter Tryz.func185, Tryz.ntmps185
    go_wp2_with (first
      | (go_at_call 154; refine h1.mono ?_; rintro e w1 ⟨rfl, b1⟩))
    go_ret
    exact ⟨rfl, b1⟩
end Go.Proofs.YtccmmkhcacglhaaGreatDoor

/- What the program's Take does. -/
namespace Go.Proofs.YtccmmkhcacglhaaGreatDoor
open Go.RowKit Go.Lib
set_option linter.unusedSimpArgs false
set_option linter.unusedVariables false
attribute [local go_sem ↓] Go.wp_at_zero Go.wp_at_succ

theorem rdr_start (w : World) : Rdr (w.alloc (.cells #[.slice none 0 0, .slice none 0 0, .int .i64 0, .bool false] 265)) w.heap.size ⟨[], [], 0, false⟩ (.slice none 0 0) (.slice none 0 0) :=
  ⟨B4.new w _ _ _ _ _ _ rfl, World.ownsRow_nil _ _ _ _, World.ownsRow_nil _ _ _ _, fun g hg => by simp [Value.ownBlock] at hg⟩
/-- What is told, out of what the two stacks tell. -/
def ofOut (r : Option Sx × Nat) : Sx × Nat × Int := match r.1 with | some x => if fmX x = true then (x, r.2, 0) else (noX, 0, 13) | none => (noX, r.2, 12)
theorem take_out {ws : List Wd} (h : ∀ w ∈ ws, OneW w.1 w.2.1) : takeC (ws.map tkW) = ofOut (rnY (leafY (valB 0) rsvB) (ws.map tkW) ⟨[], [], 0, false⟩ 0) ∧
    ∀ x n, rnY (leafY (valB 0) rsvB) (ws.map tkW) ⟨[], [], 0, false⟩ 0 = (some x, n) → Fine x ∧ cntX x ≤ n := by
  have hy := yard_psr (nb := valB 0) (rsv := rsvB) (l := ws.map tkW) (good_all h) (f := 7 * (ws.map tkW).length + 6) (by omega)
  have hf : BadOr _ 0 (rdC (ws.map tkW)) := fine_read h _ 1 0 (by omega) (by omega)
  have e : psr (valB 0) rsvB (ws.map tkW) (7 * (ws.map tkW).length + 6) 1 0 (-1) = rdC (ws.map tkW) := rfl
  rw [e] at hy
  obtain ⟨O, hO⟩ : ∃ O, rnY (leafY (valB 0) rsvB) (ws.map tkW) ⟨[], [], 0, false⟩ 0 = O := ⟨_, rfl⟩
  rw [hO] at hy ⊢
  unfold takeC
  rcases hf with ⟨h1, h2⟩ | h1
  · have hlt : (rdC (ws.map tkW)).2.2 < 0 := by rw [h1]; decide
    rw [if_pos hlt] at hy
    subst hy
    rw [if_neg (by omega)]
    refine ⟨rfl, fun x n hx => ?_⟩
    simp only [Prod.mk.injEq, Option.some.injEq] at hx
    obtain ⟨rfl, rfl⟩ := hx
    exact ⟨h2.1, by have := h2.2; omega⟩
  · rw [if_neg (by omega)] at hy
    subst hy
    rw [if_pos h1]
    exact ⟨rfl, fun x n hx => by simp at hx⟩
theorem celsW_at (ws : List Wd) (i : Nat) (h : i < ws.length) : (celsW ws)[i * 4]? = some (.int .i64 ((ws[i]).1 : Int)) ∧ (celsW ws)[i * 4 + 1]? = some (.string (txt (ws[i]).2.1)) ∧ (celsW ws)[i * 4 + 2]? = some (.int .i64 (ws[i]).2.2.1) ∧ (celsW ws)[i * 4 + 3]? = some (.int .i64 (ws[i]).2.2.2) := by
  induction ws generalizing i with
  | nil => simp at h
  | cons x t ih =>
    cases i with
    | zero => exact ⟨rfl, rfl, rfl, rfl⟩
    | succ k =>
      have hk := ih k (by simpa using h)
      have e : ∀ j, (celsW (x :: t))[(k + 1) * 4 + j]? = (celsW t)[k * 4 + j]? := fun j => by
        show (celW x ++ celsW t)[(k + 1) * 4 + j]? = _
        rw [List.getElem?_append_right (by simp [celW]; omega)]
        congr 1
        simp [celW]; omega
      exact ⟨(e 0).trans hk.1, (e 1).trans hk.2.1, (e 2).trans hk.2.2.1, (e 3).trans hk.2.2.2⟩
/-- Words in memory, read. -/
theorem ownW_rd {w : World} {base e : Nat} {v : Value} {ws : List Wd} (h : OwnW w base e v ws) : ∃ a cap, v = .slice a ws.length cap ∧ ws.length ≤ cap ∧ cap ≤ maxLen ∧ ∀ (i : Nat) (hi : i < ws.length), ∃ g, a = some ⟨g, 0, none⟩ ∧ g < w.heap.size ∧ w.cell? ⟨g, i * 4, none⟩ = some (.int .i64 ((ws[i]).1 : Int)) ∧ w.cell? ⟨g, i * 4 + 1, none⟩ = some (.string (txt (ws[i]).2.1)) ∧ w.cell? ⟨g, i * 4 + 2, none⟩ = some (.int .i64 (ws[i]).2.2.1) ∧ w.cell? ⟨g, i * 4 + 3, none⟩ = some (.int .i64 (ws[i]).2.2.2) := by
  have hc := fun g => World.ownsRow.cells h (g := g)
  rcases h.2 with ⟨h1, h2⟩ | ⟨g, cap, cur, rfl, hb, hg, h3, h4, _⟩
  · exact ⟨none, 0, by rw [h1, h2], by omega, by simp [maxLen], fun i hi => by omega⟩
  · refine ⟨_, _, rfl, h3, h4, fun i hi => ⟨g, rfl, (Array.getElem?_eq_some_iff.1 hg).1, ?_⟩⟩
    obtain ⟨e0, e1, e2, e3⟩ := celsW_at ws i hi
    have c0 := hc g rfl _ _ e0
    have c1 := hc g rfl _ _ e1
    have c2 := hc g rfl _ _ e2
    have c3 := hc g rfl _ _ e3
    rw [addr_plain] at c0 c1 c2 c3
    exact ⟨c0, c1, c2, c3⟩
set_option maxRecDepth 100000 in
set_option maxHeartbeats 4000000 in
theorem pTake_rd {w : World} {a : Option Addr} {cap : Nat} {ws : List Wd} (q1 : ws.length ≤ cap) (q2 : cap ≤ maxLen) (hrd : ∀ (i : Nat) (hi : i < ws.length), ∃ g off, a = some ⟨g, off, none⟩ ∧ g < w.heap.size ∧ w.cell? ⟨g, off + i * 4, none⟩ = some (.int .i64 ((ws[i]).1 : Int)) ∧ w.cell? ⟨g, off + i * 4 + 1, none⟩ = some (.string (txt (ws[i]).2.1)) ∧ w.cell? ⟨g, off + i * 4 + 2, none⟩ = some (.int .i64 (ws[i]).2.2.1) ∧ w.cell? ⟨g, off + i * 4 + 3, none⟩ = some (.int .i64 (ws[i]).2.2.2)) (h1 : ∀ x ∈ ws, OneW x.1 x.2.1) (hl : ws.length ≤ 3000) :
    Calls Tryz.prog 175 #[.slice a ws.length cap] w fun e w' => e = .returned (.tuple #[exX (takeC (ws.map tkW)).1, .int .i64 ((takeC (ws.map tkW)).2.1 : Int), .int .i64 (takeC (ws.map tkW)).2.2]) ∧ Below w.heap.size w w' := by
  obtain ⟨ht1, ht2⟩ := take_out h1
  rw [ht1]
  obtain ⟨OUT, hO⟩ : ∃ OUT, rnY (leafY (valB 0) rsvB) (ws.map tkW) ⟨[], [], 0, false⟩ 0 = OUT := ⟨_, rfl⟩
  rw [hO] at ht2 ⊢
  have hO0 : Hid (rnY (leafY (valB 0) rsvB) (ws.map tkW) ⟨[], [], 0, false⟩ 0 = OUT) := hO
  have HT : Hid (∀ x n, OUT = (some x, n) → Fine x ∧ cntX x ≤ n) := ht2
  have HR : Hid (∀ (i : Nat) (hi : i < ws.length), ∃ g off, a = some ⟨g, off, none⟩ ∧ g < w.heap.size ∧ w.cell? ⟨g, off + i * 4, none⟩ = some (.int .i64 ((ws[i]).1 : Int)) ∧ w.cell? ⟨g, off + i * 4 + 1, none⟩ = some (.string (txt (ws[i]).2.1)) ∧ w.cell? ⟨g, off + i * 4 + 2, none⟩ = some (.int .i64 (ws[i]).2.2.1) ∧ w.cell? ⟨g, off + i * 4 + 3, none⟩ = some (.int .i64 (ws[i]).2.2.2)) := hrd
  have H1 : Hid (∀ x ∈ ws, OneW x.1 x.2.1) := h1
  clear hrd h1 ht1 ht2 hO
  have hs := rdr_start w
  have hb0 : Below w.heap.size w (w.alloc (.cells #[.slice none 0 0, .slice none 0 0, .int .i64 0, .bool false] 265)) := (Below.refl _ _).alloc (Nat.le_refl _) _
  go_enter Tryz.func175, Tryz.ntmps175
  go_wp2
  go_loopw [6] (fun v wr => ∃ (n : Nat) (y : Yd) (vv ww : Value), v = .int .i64 (n : Int) ∧ n ≤ ws.length ∧ Rdr wr w.heap.size y vv ww ∧ InvY y n ∧ Hid (rnY (leafY (valB 0) rsvB) (ws.map tkW) y n = OUT) ∧ Below w.heap.size w wr) (fun v _ => ws.length - (RowKit.intOf v).toNat)
  case atStart => exact ⟨0, _, _, _, rfl, Nat.zero_le _, hs, inv_start, hO0, hb0⟩
  case round =>
    obtain ⟨n, y, vv, ww, rfl, hn, hr, hi, ho, hb⟩ := hrel
    have i2 : (0 : Int) ≤ (n : Int) := by omega
    clear hs hb0 hO0
    by_cases hlt : n < ws.length
    · have i1 : (n : Int) < (ws.length : Int) := by omega
      obtain ⟨g, off, rfl, hg, c0, c1, c2, c3⟩ := HR.out n hlt
      have h1n := H1.out ws[n] (List.getElem_mem hlt)
      have hget : (ws.map tkW)[n]? = some (tkW ws[n]) := by rw [List.getElem?_map, List.getElem?_eq_getElem hlt]; rfl
      have d0 := (hb.cell (p := ⟨g, off + n * 4, none⟩) hg).trans c0
      have d1 := (hb.cell (p := ⟨g, off + n * 4 + 1, none⟩) hg).trans c1
      have d2 := (hb.cell (p := ⟨g, off + n * 4 + 2, none⟩) hg).trans c2
      have d3 := (hb.cell (p := ⟨g, off + n * 4 + 3, none⟩) hg).trans c3
      obtain ⟨⟨K, seg, ln, co⟩, hx⟩ : ∃ x, ws[n] = x := ⟨_, rfl⟩
      rw [hx] at h1n hget d0 d1 d2 d3
      simp only [tkW] at h1n hget d0 d1 d2 d3
      have hT := takes_any hr hi (by omega) h1n ln co
      have hstep := ho.out
      rw [rnY_some hget] at hstep
      have hinv := inv_step (leaf := leafY (valB 0) rsvB) hi (K, byt seg)
      obtain ⟨r, hrr⟩ : ∃ r, stp (leafY (valB 0) rsvB) y (K, byt seg) = r := ⟨_, rfl⟩
      simp only [hrr] at hT hstep hinv
      obtain ⟨y1, b1⟩ := r
      obtain ⟨tx, htx⟩ : ∃ tx, txt seg = tx := ⟨_, rfl⟩
      unfold wdV at hT
      rw [htx] at hT d1
      clear c0 c1 c2 c3 hx hrr htx hr hi ho h1n hget
      simp only at hT hstep hinv
      cases b1 with
      | true =>
        rw [if_pos rfl] at hstep
        have hN : Hid (rnY (leafY (valB 0) rsvB) (ws.map tkW) y1 (n + 1) = OUT) := hstep
        go_wp2_with (first
          | (go_at_call 192; refine hT.mono ?_; rintro e w1 ⟨rfl, ⟨vv1, ww1, hr1⟩, b1⟩))
        go_roundw
        case rel => exact ⟨n + 1, y1, vv1, ww1, by go_num, hlt, hr1, hinv, hN, hb.trans b1⟩
        case measure => simp [RowKit.intOf]; omega
      | false =>
        rw [if_neg Bool.false_ne_true] at hstep
        have hS : Hid (stopY y1 n = OUT) := hstep
        obtain ⟨V, W, o, b⟩ := y1
        have hQ := hS.out
        have hbk := brk_le W
        have hio := hinv.o
        have hiw := hinv.w
        simp only at hio hiw
        unfold stopY at hQ
        simp only at hQ
        have hFm := fun (x : Sx) (hx : Fine x ∧ cntX x ≤ n) w1 => formedP x.1 x.2 w1 hx.1.cl (by have := hx.2; show cnt x.1 x.2 ≤ 100000; unfold cntX at this; omega) hx.1.sh
        by_cases hq : b = true ∧ o = 0
        · rw [if_pos hq] at hQ
          obtain ⟨rfl, rfl⟩ := hq
          have hiv : V.length = bins W + 1 := hinv.v
          obtain ⟨x, hx⟩ := jn_all hiv hio.symm
          rw [hx] at hQ
          have hfine := HT.out x n hQ.symm
          have hFx := hFm x hfine
          have hE := fun w2 vv2 ww2 (h2 : Rdr w2 w.heap.size ⟨V, W, 0, true⟩ vv2 ww2) => end_any h2 hiv (by omega) hx
          have hMx := fun w2 vv2 ww2 (h2 : Rdr w2 w.heap.size ⟨V, W, 0, true⟩ vv2 ww2) => mayEnd_any h2 (by show (0 : Nat) ≤ 4000; omega)
          simp only [decide_true, Bool.and_true] at hMx
          have hres : ofOut OUT = if fmX x = true then (x, n, 0) else (noX, 0, 13) := by rw [← hQ]; rfl
          obtain ⟨fb, hfb⟩ : ∃ fb, fmC x.1 x.2 = fb := ⟨_, rfl⟩
          have hfb' : fmX x = fb := hfb
          rw [hfb'] at hres
          simp only [hfb] at hFx
          have hFx : ∀ w1, Calls Tryz.prog 185 #[exX x] w1 fun r w' => r = .returned (.bool fb) ∧ Below w1.heap.size w1 w' := hFx
          have hxf := exX_form x
          obtain ⟨xv, hxv⟩ : ∃ xv, exX x = xv := ⟨_, rfl⟩
          rw [hxv] at hxf
          simp only [hxv] at hFx hE
          clear hfb hfb' hfine hFm hQ hx hiv hio hiw hbk
          cases fb with
          | true =>
            rw [if_pos rfl] at hres
            have HX : Hid (exX x = xv) := hxv
            have HRS : Hid (ofOut OUT = (x, n, 0)) := hres
            clear hres hxv
            go_wp2_with (first
              | (go_at_call 192; refine hT.mono ?_; rintro e w1 ⟨rfl, ⟨vv1, ww1, hr1⟩, b1⟩)
              | (go_at_call 193; refine (hMx _ _ _ hr1).mono ?_; rintro e w2 ⟨rfl, b2⟩; have hr2 := hr1.on b2; have hb2 := (hb.trans b1).trans (b2.mono (hb.trans b1).size))
              | (go_at_call 194; refine (hE _ _ _ hr2).mono ?_; rintro e w3 ⟨rfl, b3⟩; have hb3 := hb2.trans b3)
              | (go_at_call 185; refine (hFx _).mono ?_; rintro e w4 ⟨rfl, b4⟩; have hb4 := hb3.trans (b4.mono hb3.size)))
            go_ret3
            refine ⟨?_, hb4⟩
            rw [HRS.out]
            show _ = Ending.returned (.tuple #[exX x, .int .i64 (n : Int), .int .i64 0])
            rw [HX.out]; rfl
          | false =>
            rw [if_neg Bool.false_ne_true] at hres
            have HRS : Hid (ofOut OUT = (noX, 0, 13)) := hres
            clear hres hxv
            go_wp2_with (first
              | (go_at_call 192; refine hT.mono ?_; rintro e w1 ⟨rfl, ⟨vv1, ww1, hr1⟩, b1⟩)
              | (go_at_call 193; refine (hMx _ _ _ hr1).mono ?_; rintro e w2 ⟨rfl, b2⟩; have hr2 := hr1.on b2; have hb2 := (hb.trans b1).trans (b2.mono (hb.trans b1).size))
              | (go_at_call 194; refine (hE _ _ _ hr2).mono ?_; rintro e w3 ⟨rfl, b3⟩; have hb3 := hb2.trans b3)
              | (go_at_call 185; refine (hFx _).mono ?_; rintro e w4 ⟨rfl, b4⟩; have hb4 := hb3.trans (b4.mono hb3.size)))
            go_ret3
            exact ⟨by rw [HRS.out]; rfl, hb4⟩
        · rw [if_neg hq] at hQ
          have hbo : (b && decide (o = 0)) = false := by
            cases b with
            | false => rfl
            | true => exact decide_eq_false (fun e => hq ⟨rfl, e⟩)
          have hMx := fun w2 vv2 ww2 (h2 : Rdr w2 w.heap.size ⟨V, W, o, b⟩ vv2 ww2) => mayEnd_any h2 (by show o ≤ 4000; omega)
          simp only [hbo] at hMx
          have HRS : Hid (ofOut OUT = (noX, n, 12)) := by show _ = _; rw [← hQ]; rfl
          clear hbo hq hFm hQ hio hiw hbk
          go_wp2_with (first
            | (go_at_call 192; refine hT.mono ?_; rintro e w1 ⟨rfl, ⟨vv1, ww1, hr1⟩, b1⟩)
            | (go_at_call 193; refine (hMx _ _ _ hr1).mono ?_; rintro e w2 ⟨rfl, b2⟩; have hb2 := (hb.trans b1).trans (b2.mono (hb.trans b1).size)))
          go_ret3
          exact ⟨by rw [HRS.out]; rfl, hb2⟩
    · have i1 : ¬ (n : Int) < (ws.length : Int) := by omega
      have hstep := ho.out
      rw [rnY_none (by rw [List.getElem?_eq_none_iff, List.length_map]; omega)] at hstep
      have hS : Hid (stopY y n = OUT) := hstep
      clear ho hstep
      obtain ⟨V, W, o, b⟩ := y
      have hQ := hS.out
      have hbk := brk_le W
      have hio := hi.o
      have hiw := hi.w
      simp only at hio hiw
      unfold stopY at hQ
      simp only at hQ
      have hFm := fun (x : Sx) (hx : Fine x ∧ cntX x ≤ n) w1 => formedP x.1 x.2 w1 hx.1.cl (by have := hx.2; show cnt x.1 x.2 ≤ 100000; unfold cntX at this; omega) hx.1.sh
      by_cases hq : b = true ∧ o = 0
      · rw [if_pos hq] at hQ
        obtain ⟨rfl, rfl⟩ := hq
        have hiv : V.length = bins W + 1 := hi.v
        obtain ⟨x, hx⟩ := jn_all hiv hio.symm
        rw [hx] at hQ
        have hfine := HT.out x n hQ.symm
        have hFx := hFm x hfine
        have hE := fun w2 vv2 ww2 (h2 : Rdr w2 w.heap.size ⟨V, W, 0, true⟩ vv2 ww2) => end_any h2 hiv (by omega) hx
        have hMx := fun w2 vv2 ww2 (h2 : Rdr w2 w.heap.size ⟨V, W, 0, true⟩ vv2 ww2) => mayEnd_any h2 (by show (0 : Nat) ≤ 4000; omega)
        simp only [decide_true, Bool.and_true] at hMx
        have hres : ofOut OUT = if fmX x = true then (x, n, 0) else (noX, 0, 13) := by rw [← hQ]; rfl
        obtain ⟨fb, hfb⟩ : ∃ fb, fmC x.1 x.2 = fb := ⟨_, rfl⟩
        have hfb' : fmX x = fb := hfb
        rw [hfb'] at hres
        simp only [hfb] at hFx
        have hFx : ∀ w1, Calls Tryz.prog 185 #[exX x] w1 fun r w' => r = .returned (.bool fb) ∧ Below w1.heap.size w1 w' := hFx
        have hxf := exX_form x
        obtain ⟨xv, hxv⟩ : ∃ xv, exX x = xv := ⟨_, rfl⟩
        rw [hxv] at hxf
        simp only [hxv] at hFx hE
        clear hfb hfb' hfine hFm hQ hx hiv hio hiw hbk
        cases fb with
        | true =>
          rw [if_pos rfl] at hres
          have HX : Hid (exX x = xv) := hxv
          have HRS : Hid (ofOut OUT = (x, n, 0)) := hres
          clear hres hxv
          go_wp2_with (first
            | (go_at_call 193; refine (hMx _ _ _ hr).mono ?_; rintro e w2 ⟨rfl, b2⟩; have hr2 := hr.on b2; have hb2 := hb.trans (b2.mono hb.size))
            | (go_at_call 194; refine (hE _ _ _ hr2).mono ?_; rintro e w3 ⟨rfl, b3⟩; have hb3 := hb2.trans b3)
            | (go_at_call 185; refine (hFx _).mono ?_; rintro e w4 ⟨rfl, b4⟩; have hb4 := hb3.trans (b4.mono hb3.size)))
          go_ret3
          refine ⟨?_, hb4⟩
          rw [HRS.out]
          show _ = Ending.returned (.tuple #[exX x, .int .i64 (n : Int), .int .i64 0])
          rw [HX.out]; rfl
        | false =>
          rw [if_neg Bool.false_ne_true] at hres
          have HRS : Hid (ofOut OUT = (noX, 0, 13)) := hres
          clear hres hxv
          go_wp2_with (first
            | (go_at_call 193; refine (hMx _ _ _ hr).mono ?_; rintro e w2 ⟨rfl, b2⟩; have hr2 := hr.on b2; have hb2 := hb.trans (b2.mono hb.size))
            | (go_at_call 194; refine (hE _ _ _ hr2).mono ?_; rintro e w3 ⟨rfl, b3⟩; have hb3 := hb2.trans b3)
            | (go_at_call 185; refine (hFx _).mono ?_; rintro e w4 ⟨rfl, b4⟩; have hb4 := hb3.trans (b4.mono hb3.size)))
          go_ret3
          exact ⟨by rw [HRS.out]; rfl, hb4⟩
      · rw [if_neg hq] at hQ
        have hbo : (b && decide (o = 0)) = false := by
          cases b with
          | false => rfl
          | true => exact decide_eq_false (fun e => hq ⟨rfl, e⟩)
        have hMx := fun w2 vv2 ww2 (h2 : Rdr w2 w.heap.size ⟨V, W, o, b⟩ vv2 ww2) => mayEnd_any h2 (by show o ≤ 4000; omega)
        simp only [hbo] at hMx
        have HRS : Hid (ofOut OUT = (noX, n, 12)) := by show _ = _; rw [← hQ]; rfl
        clear hbo hq hFm hQ hio hiw hbk
        go_wp2_with (first
          | (go_at_call 193; refine (hMx _ _ _ hr).mono ?_; rintro e w2 ⟨rfl, b2⟩; have hb2 := hb.trans (b2.mono hb.size)))
        go_ret3
        exact ⟨by rw [HRS.out]; rfl, hb2⟩
theorem pTake_any {w : World} {v : Value} {ws : List Wd} (hw : OwnW w 0 61 v ws) (h1 : ∀ x ∈ ws, OneW x.1 x.2.1) (hl : ws.length ≤ 3000) :
    Calls Tryz.prog 175 #[v] w fun e w' => e = .returned (.tuple #[exX (takeC (ws.map tkW)).1, .int .i64 ((takeC (ws.map tkW)).2.1 : Int), .int .i64 (takeC (ws.map tkW)).2.2]) ∧ Below w.heap.size w w' := by
  obtain ⟨a, cap, rfl, q1, q2, hrd⟩ := ownW_rd hw
  refine pTake_rd q1 q2 (fun i hi => ?_) h1 hl
  obtain ⟨g, h1, h2, c0, c1, c2, c3⟩ := hrd i hi
  exact ⟨g, 0, h1, h2, by rw [Nat.zero_add]; exact c0, by rw [Nat.zero_add]; exact c1, by rw [Nat.zero_add]; exact c2, by rw [Nat.zero_add]; exact c3⟩
end Go.Proofs.YtccmmkhcacglhaaGreatDoor

/- How many words an expression takes. -/
namespace Go.Proofs.YtccmmkhcacglhaaGreatDoor
open Go.RowKit Go.Lib
set_option linter.unusedSimpArgs false
set_option linter.unusedVariables false

theorem stop_sndP (y : Yd) (n : Nat) : (stopY y n).2 = n := by unfold stopY; split <;> rfl
theorem runY_leP (leaf : Tk → Option Sx) : ∀ (r : List Tk) (y : Yd) (n : Nat), (runY leaf y r n).2 ≤ n + r.length
  | [], y, n => by show (stopY y n).2 ≤ _; rw [stop_sndP]; omega
  | w :: r, y, n => by
    unfold runY
    split
    · have := runY_leP leaf r (stp leaf y w).1 (n + 1)
      rw [List.length_cons]; omega
    · rw [stop_sndP]; omega
theorem take_le {ws : List Wd} (h : ∀ w ∈ ws, OneW w.1 w.2.1) : (takeC (ws.map tkW)).2.1 ≤ ws.length := by
  rw [(take_out h).1]
  have h1 := runY_leP (leafY (valB 0) rsvB) (ws.map tkW) ⟨[], [], 0, false⟩ 0
  have h2 : rnY (leafY (valB 0) rsvB) (ws.map tkW) ⟨[], [], 0, false⟩ 0 = runY (leafY (valB 0) rsvB) ⟨[], [], 0, false⟩ (ws.map tkW) 0 := rfl
  rw [← h2, List.length_map] at h1
  generalize rnY (leafY (valB 0) rsvB) (ws.map tkW) ⟨[], [], 0, false⟩ 0 = O at h1 ⊢
  obtain ⟨o, n⟩ := O
  unfold ofOut
  cases o with
  | none => simp only at h1 ⊢; omega
  | some x =>
    simp only at h1 ⊢
    split
    · show n ≤ _; omega
    · exact Nat.zero_le _
theorem take_kinds {l : List Tk} : (takeC l).2.2 = 0 ∨ ((takeC l).1 = noX ∧ (takeC l).2.1 = 0 ∧ (takeC l).2.2 = 13) ∨ ((takeC l).1 = noX ∧ (takeC l).2.2 = 12) := by
  unfold takeC
  split
  · exact .inr (.inr ⟨rfl, rfl⟩)
  · split
    · exact .inl rfl
    · exact .inr (.inl ⟨rfl, rfl, rfl⟩)
end Go.Proofs.YtccmmkhcacglhaaGreatDoor

/- What the document's number and expr do. -/
namespace Go.Proofs.YtccmmkhcacglhaaGreatDoor
open Go.RowKit Go.Lib
set_option linter.unusedSimpArgs false
set_option linter.unusedVariables false
attribute [local go_sem ↓] Go.wp_at_zero Go.wp_at_succ

set_option maxRecDepth 100000 in
set_option maxHeartbeats 4000000 in
theorem dnum_any {w : World} {X : Nat} {fin : Pl} {r : RsC} (h : DR w X fin r) :
    Calls Tryz.prog 33 #[.pointer (some ⟨X, 0, none⟩)] w fun e w' => e = .returned (.int .i64 (numR fin r).1) ∧ DR w' X fin (numR fin r).2 ∧ Fx X w w' := by
  obtain ⟨a, cap, h⟩ := h
  have hX := h.lt
  obtain ⟨c0, f0⟩ := h.b 0 _ rfl
  obtain ⟨c5, f5⟩ := h.b 5 _ rfl
  have hH := fun w1 (hd : Dr w1 X fin r a cap) => here_any hd
  have hFa := fun w1 (hd : Dr w1 X fin r a cap) => dfail_any hd 12 (hereR fin r)
  obtain ⟨RES, hRES⟩ : ∃ x, numR fin r = x := ⟨_, rfl⟩
  rw [hRES]
  unfold numR at hRES
  obtain ⟨b, hb⟩ : ∃ b, r.2.2 = b := ⟨_, rfl⟩
  rw [hb] at c5
  have hcap := h.c
  by_cases hz : b = 0
  · subst hz
    cases hr : r.1 with
    | nil =>
      rw [hr] at c0 hRES
      simp only [List.length_nil] at c0
      have HR : Hid ((0, failC 12 (hereR fin r) r) = RES) := hRES
      clear hRES hr hcap
      go_enter Tryz.func33, Tryz.ntmps33
      go_wp2_with (first
        | (go_at_call 37; refine (hH _ h).mono ?_; rintro e w2 ⟨rfl, b2⟩; have hd2 := h.on b2)
        | (go_at_call 36; refine (hFa _ hd2).mono ?_; rintro e w3 ⟨⟨u, rfl⟩, hd3, hf3⟩))
      go_ret
      have hv := HR.out
      subst hv
      exact ⟨rfl, ⟨a, cap, hd3⟩, (Fx.of b2 (Nat.le_refl _)).trans hf3⟩
    | cons x l =>
      obtain ⟨g, off, rfl, hg, d0, d1, d2, d3, ho⟩ := h.word hr
      have hsz := ho.l
      rw [hr] at hRES
      simp only at hRES
      rw [hr] at c0
      simp only [List.length_cons] at c0
      have i1 : ((l.length : Int) + 1 == 0) = false := beq_eq_false_iff_ne.2 (by omega)
      have i2 : (0 : Int) < (l.length : Int) + 1 := by omega
      by_cases hk2 : x.1 = 2
      · rw [if_pos ⟨hb, hk2⟩] at hRES
        have hnb : numB (tkW x).2 = true := by
          rcases ho.kind with ⟨k, _⟩ | ⟨_, n⟩ | ⟨k, _⟩
          · omega
          · exact n
          · omega
        have hNm := fun w1 => refNumber_val (txt x.2.1) w1 (by show (byt x.2.1).length ≤ _; omega)
        have e2 : bl (txt x.2.1) = (tkW x).2 := rfl
        rw [e2, hnb] at hNm
        have hl1 : 1 ≤ r.1.length := by rw [hr]; simp
        obtain ⟨a1, hsl, hL1⟩ := slice_fromR h.l hl1 h.c
        have hcut := h.cut hl1 hL1
        simp only [hr, List.drop_one, List.tail_cons, List.length_cons] at hsl hcut
        have hsl' : ∀ W, (Instr.slice 62 (.slice (some ⟨g, off, none⟩) (l.length + 1) cap) (some (.int .i64 1)) none none).run Tryz.prog W = .ok (.slice a1 l.length (cap - 1)) W := hsl
        have HR : Hid ((valB 0 (tkW x).2, (l, r.2)) = RES) := hRES
        have i3 : ((x.1 : Int) != 2) = false := by rw [hk2]; rfl
        obtain ⟨K, seg, ln, co⟩ := x
        simp only at d0 d1 d2 d3 hNm hk2 i3
        obtain ⟨bs, hbs⟩ : ∃ bs, txt seg = bs := ⟨_, rfl⟩
        simp only [hbs] at d1 hNm
        clear hRES hcap ho hr e2 hbs hsz hsl hL1 hl1 hH hFa hnb h hk2
        go_enter Tryz.func33, Tryz.ntmps33
        go_wp2_with (first
          | (go_at_call 78; refine (hNm _).mono ?_; rintro e w1 ⟨⟨xn, rfl, hxn⟩, rfl⟩))
        go_ret
        have hv := HR.out
        have hx2 := hxn.out trivial
        subst hv
        subst hx2
        exact ⟨rfl, ⟨_, _, hcut⟩, (Fx.refl X w).setX _⟩
      · rw [if_neg (fun e => hk2 e.2)] at hRES
        have HR : Hid ((0, failC 12 (hereR fin r) r) = RES) := hRES
        have i3 : ((x.1 : Int) != 2) = true := by simp; omega
        obtain ⟨K, seg, ln, co⟩ := x
        simp only at d0 d1 d2 d3 hk2 i3
        clear hRES hcap ho hr hsz hk2
        go_enter Tryz.func33, Tryz.ntmps33
        go_wp2_with (first
          | (go_at_call 37; refine (hH _ h).mono ?_; rintro e w2 ⟨rfl, b2⟩; have hd2 := h.on b2)
          | (go_at_call 36; refine (hFa _ hd2).mono ?_; rintro e w3 ⟨⟨u, rfl⟩, hd3, hf3⟩))
        go_ret
        have hv := HR.out
        subst hv
        exact ⟨rfl, ⟨_, cap, hd3⟩, (Fx.of b2 (Nat.le_refl _)).trans hf3⟩
  · have hR2 : RES = (0, failC 12 (hereR fin r) r) := by
      rw [← hRES]
      cases hr : r.1 with
      | nil => rfl
      | cons x l => simp only; rw [if_neg (fun e => hz (hb.symm.trans e.1))]
    have HR : Hid ((0, failC 12 (hereR fin r) r) = RES) := hR2.symm
    have i1 : (b != 0) = true := by simpa using hz
    clear hRES hcap hz hR2
    go_enter Tryz.func33, Tryz.ntmps33
    go_wp2_with (first
      | (go_at_call 37; refine (hH _ h).mono ?_; rintro e w2 ⟨rfl, b2⟩; have hd2 := h.on b2)
      | (go_at_call 36; refine (hFa _ hd2).mono ?_; rintro e w3 ⟨⟨u, rfl⟩, hd3, hf3⟩))
    go_ret
    have hv := HR.out
    subst hv
    exact ⟨rfl, ⟨a, cap, hd3⟩, (Fx.of b2 (Nat.le_refl _)).trans hf3⟩
theorem dexpr_res {w4 : World} {R : Nat} {a b c e : Value} {tmps : Array Value} (hB : B4 w4 R a b c e) (ht : tmps.getD 2 undef = .pointer (some ⟨R, 0, none⟩)) : (results Tryz.f120 tmps).run Tryz.prog w4 = .ok (.agg #[a, b, c, e]) w4 := by
  obtain ⟨c0, c1, c2, c3, _, _, _, _⟩ := hB
  have ht' : tmps[2]?.getD undef = .pointer (some ⟨R, 0, none⟩) := by simpa using ht
  simp [results, Tryz.results120, go_sem, ht', c0, c1, c2, c3]
theorem B4.fxD {w w' : World} {X N : Nat} {a b c e : Value} (h : B4 w N a b c e) (hf : Fx X w w') (hN : N ≠ X) : B4 w' N a b c e := by
  have hb : w'.heap[N]? = w.heap[N]? := hf.block N h.lt (fun q => hN (Option.some.inj q))
  exact ⟨keep_cell (p := ⟨N, 0, none⟩) hb h.c0, keep_cell (p := ⟨N, 1, none⟩) hb h.c1, keep_cell (p := ⟨N, 2, none⟩) hb h.c2, keep_cell (p := ⟨N, 3, none⟩) hb h.c3, (frozen_of_block hb).trans h.f0, (frozen_of_block hb).trans h.f1, (frozen_of_block hb).trans h.f2, (frozen_of_block hb).trans h.f3⟩
theorem Dr.put4 {w : World} {X N : Nat} {fin : Pl} {r : RsC} {a : Option Addr} {cap : Nat} (h : Dr w X fin r a cap) (hN : X < N) (c0 c1 c2 c3 : Value) : Dr (Go.Proofs.YtccmmkhcacglhaaGreatDoor.put4 w N c0 c1 c2 c3) X fin r a cap := (((h.far hN c0).far hN c1).far hN c2).far hN c3
theorem Fx.putD {X N : Nat} {a b : World} (h : Fx X a b) (hN : a.heap.size ≤ N) (c0 c1 c2 c3 : Value) : Fx X a (Go.Proofs.YtccmmkhcacglhaaGreatDoor.put4 b N c0 c1 c2 c3) := (((h.setN hN c0).setN hN c1).setN hN c2).setN hN c3
set_option maxRecDepth 100000 in
set_option maxHeartbeats 4000000 in
theorem dexpr_any {w : World} {X : Nat} {fin : Pl} {r : RsC} (h : DR w X fin r) (hT : Ty w X) :
    Calls Tryz.prog 120 #[.pointer (some ⟨X, 0, none⟩)] w fun e w' => (∃ u, e = .returned u ∧ RdX (fun b => w.heap.size ≤ b) w' (exprR fin r).1 u) ∧ DR w' X fin (exprR fin r).2 ∧ Fx X w w' := by
  obtain ⟨a, cap, h⟩ := h
  have hX := h.lt
  have hal := alN w
  have h1 := h.on hal
  have hT1 := hT.on hal
  have hR0 : B4 (w.alloc zN) w.heap.size (.int .i64 0) (.int .i64 0) (.string ⟨#[]⟩) (.slice none 0 0) := B4.new w _ _ _ _ _ _ rfl
  have hF1 : Fx X w (w.alloc zN) := Fx.of hal (Nat.le_refl _)
  have hs1 : (w.alloc zN).heap.size = w.heap.size + 1 := by simp
  obtain ⟨c0, f0⟩ := h1.b 0 _ rfl
  obtain ⟨c5, f5⟩ := h1.b 5 _ rfl
  obtain ⟨RES, hRES⟩ : ∃ x, exprR fin r = x := ⟨_, rfl⟩
  rw [hRES]
  unfold exprR at hRES
  obtain ⟨b, hb⟩ : ∃ b, r.2.2 = b := ⟨_, rfl⟩
  rw [hb] at c5
  by_cases hz : b ≠ 0
  · rw [if_pos (by rw [hb]; exact hz)] at hRES
    have HR : Hid ((noX, r) = RES) := hRES
    have i1 : (b != 0) = true := by simpa using hz
    clear hRES hz hT hal
    go_enter Tryz.func120, Tryz.ntmps120
    go_upto_region 1 with fail
    generalize w.alloc zN = w0 at *
    obtain ⟨y0, y1, y2, y3, z0, z1, z2, z3⟩ := id hR0
    go_wp2
    have hv := HR.out
    subst hv
    exact bodyPost_ret (dexpr_res (hR0.put _ _ _ _) rfl) rfl ⟨⟨_, rfl, rdX_no _ _⟩, ⟨a, cap, h1.put4 hX _ _ _ _⟩, hF1.putD (Nat.le_refl _) _ _ _ _⟩
  · rw [if_neg (by rw [hb]; exact hz)] at hRES
    have hz0 : b = 0 := Decidable.not_not.1 hz
    subst hz0
    have hTk := rTake_rd (w := w.alloc zN) hT1.tabs h1.c h1.m (fun X' hX' i hi => by
      obtain ⟨g, off, q1, q2, q3⟩ := h1.l i hi
      exact ⟨g, off, q1, by have := h1.lt; omega, q3⟩) h1.o h1.n
    have hle := take_le h1.o
    have hkd := take_kinds (l := r.1.map tkW)
    obtain ⟨⟨x, m, f⟩, hTT⟩ : ∃ t, takeC (r.1.map tkW) = t := ⟨_, rfl⟩
    rw [hTT] at hTk hle hkd hRES
    simp only at hTk hle hkd hRES
    obtain ⟨a1, hsl, hL1⟩ := slice_fromR h1.l hle h1.c
    have HL : Hid (RdL (w.alloc zN) X a1 (r.1.drop m)) := hL1
    have HR : Hid ((if f = 0 then (x, (r.1.drop m, r.2)) else if f = 13 then (x, failC 13 (hereR fin r) r) else (x, failC f (hereR fin (r.1.drop m, r.2)) (r.1.drop m, r.2))) = RES) := hRES
    have HLE : Hid (m ≤ r.1.length) := hle
    obtain ⟨n1, hn1⟩ : ∃ n, (r.1.drop m).length = n := ⟨_, rfl⟩
    have HN1 : Hid ((r.1.drop m).length = n1) := hn1
    simp only [hn1] at hsl
    clear hRES hTT hz hT hal hL1 hkd hn1 hle
    go_enter Tryz.func120, Tryz.ntmps120
    go_upto_region 1 with fail
    have HS : Hid (∀ W, (Instr.slice 62 (.slice a r.1.length cap) (some (.int .i64 (m : Int))) none none).run Tryz.prog W = .ok (.slice a1 n1 (cap - m)) W) := hsl
    generalize w.alloc zN = w0 at *
    go_upto_region 4 with (first
      | (go_at_call 151; refine hTk.mono ?_; rintro e w1 ⟨u, rfl, hx1, b1⟩; obtain ⟨xk, xm, xs, xa, xl, xc, rfl⟩ := hx1.form))
    have hal2 := (Below.refl w1.heap.size w1).alloc (Nat.le_refl _) (.cells #[.int .i64 xk, .int .i64 xm, .string xs, .slice xa xl xc] 132)
    have hb2 := b1.trans (hal2.mono b1.size)
    have hd2 := h1.on hb2
    have hR2 := hR0.keep hb2
    have hF2 := hF1.trans (Fx.of hb2 (Nat.le_refl _))
    have hL2 := HL.out.keepB hb2 (Nat.le_of_lt h1.lt)
    have hC2 : B4 (w1.alloc (.cells #[.int .i64 xk, .int .i64 xm, .string xs, .slice xa xl xc] 132)) w1.heap.size (.int .i64 xk) (.int .i64 xm) (.string xs) (.slice xa xl xc) := B4.new _ _ _ _ _ _ _ rfl
    have hx2 : RdX (fun b => w.heap.size < b ∧ b ≠ X) (w1.alloc (.cells #[.int .i64 xk, .int .i64 xm, .string xs, .slice xa xl xc] 132)) x (.agg #[.int .i64 xk, .int .i64 xm, .string xs, .slice xa xl xc]) := hx1.keep (fun b hb hl => ⟨⟨by omega, by omega⟩, hal2.block b hl⟩)
    have hs2 : w.heap.size < w1.heap.size := by have := b1.size; omega
    obtain ⟨N, hN⟩ : ∃ N, w1.heap.size = N := ⟨_, rfl⟩
    rw [hN] at hC2 hs2 ⊢
    clear hx1 b1 hal2 hb2 hTk hR0 hF1 h1 HL hN hs1 hT1 hsl
    generalize w1.alloc (.cells #[.int .i64 xk, .int .i64 xm, .string xs, .slice xa xl xc] 132) = w2 at *
    obtain ⟨e0, g0⟩ := hd2.b 0 _ rfl
    have hcut := hd2.cut HLE.out hL2
    rw [HN1.out] at hcut
    have hsl := HS.out
    clear c0 f0 c5 f5 HS
    by_cases hf0 : f = 0
    · have hv := HR.out
      rw [if_pos hf0] at hv
      have HV : Hid ((x, (r.1.drop m, r.2)) = RES) := hv
      have i1 : (f == 0) = true := by simp [hf0]
      clear HR hv
      go_upto_region 11 with fail
      have hR3 := hR2.far (X := X) (i := 0) (by omega) (.slice a1 n1 (cap - m))
      have hC3 := hC2.far (X := X) (i := 0) (by omega) (.slice a1 n1 (cap - m))
      have hF3 := hF2.setX (i := 0) (.slice a1 n1 (cap - m))
      have hx3 := hx2.keep (ok' := fun b => w.heap.size < b) (w' := w2.setCell ⟨X, 0, none⟩ (.slice a1 n1 (cap - m))) (fun b hb hl => ⟨hb.1, Below.heap_setCell _ _ _ _ (fun e => hb.2 e)⟩)
      clear hR2 hC2 hF2 hx2 hd2 hL2 e0 g0
      generalize w2.setCell ⟨X, 0, none⟩ (.slice a1 n1 (cap - m)) = w3 at *
      obtain ⟨y0, y1, y2, y3, z0, z1, z2, z3⟩ := id hR3
      obtain ⟨k0, k1, k2, k3, _, _, _, _⟩ := id hC3
      go_wp2
      have hvv := HV.out
      subst hvv
      exact bodyPost_ret (dexpr_res (hR3.put _ _ _ _) rfl) rfl ⟨⟨_, rfl, hx3.keep (fun b hb hl => ⟨Nat.le_of_lt hb, heap_put (by omega) _ _ _ _⟩)⟩, ⟨_, _, hcut.put4 hX _ _ _ _⟩, hF3.putD (Nat.le_refl _) _ _ _ _⟩
    · have i1 : (f == 0) = false := by simpa using hf0
      by_cases hf13 : f = 13
      · have hv := HR.out
        rw [if_neg hf0, if_pos hf13] at hv
        have HV : Hid ((x, failC 13 (hereR fin r) r) = RES) := hv
        have i2 : (f == 13) = true := by simp [hf13]
        have hH := fun w1 (hd : Dr w1 X fin r a cap) => here_any hd
        have hFa := fun w1 (hd : Dr w1 X fin r a cap) => dfail_any hd f (hereR fin r)
        have HF : Hid (f = 13) := hf13
        clear HR hv hcut hf13
        go_upto_region 11 with (first
          | (go_at_call 37; refine (hH _ hd2).mono ?_; rintro e w4 ⟨rfl, b4⟩; have hd4 := hd2.on b4)
          | (go_at_call 36; refine (hFa _ hd4).mono ?_; rintro e w5 ⟨⟨u, rfl⟩, hd5, hf5⟩))
        have hF5 := (hF2.trans (Fx.of b4 (Nat.le_refl _))).trans hf5
        have hR5 := (hR2.keep b4).fxD hf5 (by omega)
        have hC5 := (hC2.keep b4).fxD hf5 (by omega)
        have hx5 := (hx2.keep (ok' := fun b => w.heap.size < b ∧ b ≠ X) (w' := w4) (fun b hb hl => ⟨hb, b4.block b hl⟩)).keep (ok' := fun b => w.heap.size < b) (w' := w5) (fun b hb hl => ⟨hb.1, hf5.block b hl (fun e => hb.2 (Option.some.inj e))⟩)
        obtain ⟨y0, y1, y2, y3, z0, z1, z2, z3⟩ := id hR5
        obtain ⟨k0, k1, k2, k3, _, _, _, _⟩ := id hC5
        clear hR2 hC2 hF2 hx2 hd2 hd4 hL2 e0 g0 b4 hf5
        go_wp2
        have hvv := HV.out
        have hff := HF.out
        subst hvv
        subst hff
        exact bodyPost_ret (dexpr_res (hR5.put _ _ _ _) rfl) rfl ⟨⟨_, rfl, hx5.keep (fun b hb hl => ⟨Nat.le_of_lt hb, heap_put (by omega) _ _ _ _⟩)⟩, ⟨_, _, hd5.put4 hX _ _ _ _⟩, hF5.putD (Nat.le_refl _) _ _ _ _⟩
      · have hv := HR.out
        rw [if_neg hf0, if_neg hf13] at hv
        have HV : Hid ((x, failC f (hereR fin (r.1.drop m, r.2)) (r.1.drop m, r.2)) = RES) := hv
        have i2 : (f == 13) = false := by simpa using hf13
        have hH := fun w1 (hd : Dr w1 X fin (r.1.drop m, r.2) a1 (cap - m)) => here_any hd
        have hFa := fun w1 (hd : Dr w1 X fin (r.1.drop m, r.2) a1 (cap - m)) => dfail_any hd f (hereR fin (r.1.drop m, r.2))
        clear HR hv
        go_upto_region 6 with fail
        have hR3 := hR2.far (X := X) (i := 0) (by omega) (.slice a1 n1 (cap - m))
        have hC3 := hC2.far (X := X) (i := 0) (by omega) (.slice a1 n1 (cap - m))
        have hF3 := hF2.setX (i := 0) (.slice a1 n1 (cap - m))
        have hx3 := hx2.keep (ok' := fun b => w.heap.size < b ∧ b ≠ X) (w' := w2.setCell ⟨X, 0, none⟩ (.slice a1 n1 (cap - m))) (fun b hb hl => ⟨hb, Below.heap_setCell _ _ _ _ (fun e => hb.2 e)⟩)
        clear hR2 hC2 hF2 hx2 hd2 hL2 e0 g0
        generalize w2.setCell ⟨X, 0, none⟩ (.slice a1 n1 (cap - m)) = w3 at *
        go_upto_region 11 with (first
          | (go_at_call 37; refine (hH _ hcut).mono ?_; rintro e w4 ⟨rfl, b4⟩; have hd4 := hcut.on b4)
          | (go_at_call 36; refine (hFa _ hd4).mono ?_; rintro e w5 ⟨⟨u, rfl⟩, hd5, hf5⟩))
        have hF5 := (hF3.trans (Fx.of b4 (Nat.le_refl _))).trans hf5
        have hR5 := (hR3.keep b4).fxD hf5 (by omega)
        have hC5 := (hC3.keep b4).fxD hf5 (by omega)
        have hx5 := (hx3.keep (ok' := fun b => w.heap.size < b ∧ b ≠ X) (w' := w4) (fun b hb hl => ⟨hb, b4.block b hl⟩)).keep (ok' := fun b => w.heap.size < b) (w' := w5) (fun b hb hl => ⟨hb.1, hf5.block b hl (fun e => hb.2 (Option.some.inj e))⟩)
        obtain ⟨y0, y1, y2, y3, z0, z1, z2, z3⟩ := id hR5
        obtain ⟨k0, k1, k2, k3, _, _, _, _⟩ := id hC5
        clear hR3 hC3 hF3 hx3 hd4 b4 hf5 hcut
        go_wp2
        have hvv := HV.out
        subst hvv
        exact bodyPost_ret (dexpr_res (hR5.put _ _ _ _) rfl) rfl ⟨⟨_, rfl, hx5.keep (fun b hb hl => ⟨Nat.le_of_lt hb, heap_put (by omega) _ _ _ _⟩)⟩, ⟨_, _, hd5.put4 hX _ _ _ _⟩, hF5.putD (Nat.le_refl _) _ _ _ _⟩
end Go.Proofs.YtccmmkhcacglhaaGreatDoor
