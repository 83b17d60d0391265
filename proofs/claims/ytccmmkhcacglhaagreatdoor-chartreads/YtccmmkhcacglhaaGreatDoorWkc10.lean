import Derived.Test.YtccmmkhcacglhaaGreatDoorWkc06
import Derived.Deep.RegionLaw
import Derived.Test.YtccmmkhcacglhaaGreatDoorWkc05
import Derived.Test.YtccmmkhcacglhaaGreatDoorWkc02
import Derived.Test.YtccmmkhcacglhaaGreatDoorWkc09
import Derived.Test.YtccmmkhcacglhaaGreatDoorWkc04

/- What the program's Nodes does. -/
namespace Go.Proofs.YtccmmkhcacglhaaGreatDoor
open Go.RowKit Go.Lib
set_option linter.unusedSimpArgs false
set_option linter.unusedVariables false
attribute [local go_sem ↓] Go.wp_at_zero Go.wp_at_succ
attribute [local go_sem] fld_i

theorem stk_len : ∀ (st : List Sg), st.length ≤ (st.map cntS).sum
  | [] => by simp
  | x :: r => by
    have := stk_len r
    have h1 : 1 ≤ cntS x := cnt_pos x.1 x.2
    simp only [List.map_cons, List.sum_cons, List.length_cons]
    omega

set_option maxRecDepth 100000 in
set_option maxHeartbeats 4000000 in
theorem pNodes_cnt (d : Nat) (t : T d) (w : World) (hc : Cl d t) (hn : cnt d t ≤ 100000) : Calls Tryz.prog 154 #[exV d t] w fun r w' => r = .returned (.int .i64 ((min (cnt d t) 41 : Nat) : Int)) ∧ Below w.heap.size w w' := by
  obtain ⟨i0, hi, hz0, hz1, hz2⟩ := info_parts Tryz.infoE
  obtain ⟨x, hx⟩ : ∃ x, exV d t = x := ⟨_, rfl⟩
  have hf := exV_form d t
  obtain ⟨N, hN⟩ : ∃ N, cnt d t = N := ⟨_, rfl⟩
  have hst : Hid (Stk (w.alloc (.cells #[x] 139)) w.heap.size (.slice (some ⟨w.heap.size, 0, none⟩) 1 1) [(⟨d, t⟩ : Sg)]) := by
    have := World.ownsRow_lit (e := 139) (base := w.heap.size) (size := 1) w #[x] 1 (Nat.le_refl _) (by simp [maxLen]) (by simp)
    show Stk _ _ _ _
    unfold Stk
    simpa [exS, hx] using this
  have hcl : Hid (∀ y ∈ [(⟨d, t⟩ : Sg)], ClS y) := fun y hy => by simp at hy; subst hy; exact hc
  have hsum : Hid (0 + (([(⟨d, t⟩ : Sg)]).map cntS).sum = N) := by show 0 + (cnt d t + 0) = N; omega
  obtain ⟨V, hV⟩ : ∃ V, min (cnt d t) 41 = V := ⟨_, rfl⟩
  rw [hV]
  have HV : Hid (min N 41 = V) := by rw [← hN]; exact hV
  rw [hN] at hn
  rw [hx] at hf ⊢
  clear hx hN hc hV
  obtain ⟨S, hS⟩ : ∃ S, [(⟨d, t⟩ : Sg)] = S := ⟨_, rfl⟩
  rw [hS] at hst hcl hsum
  clear hS t d
  rcases hf with rfl | ⟨u, y, rfl⟩
  · go_enter Tryz.func154, Tryz.ntmps154
    go_wp2
    go_loopw [3, 4] (fun a v wr => ∃ (c : Nat) (st : List Sg), a = .int .i64 (c : Int) ∧ c ≤ 41 ∧ Stk wr w.heap.size v st ∧ Hid (∀ y ∈ st, ClS y) ∧ Hid (c + (st.map cntS).sum = N) ∧ Below w.heap.size w wr) (fun a _ _ => 41 - (RowKit.intOf a).toNat)
    case atStart => exact ⟨0, S, rfl, by omega, hst.out, hcl, hsum, (Below.refl _ _).alloc (Nat.le_refl _) _⟩
    case round =>
      obtain ⟨c, st, rfl, hc41, hS, hC, hM, hb⟩ := hrel
      by_cases he : st = []
      · subst he
        obtain ⟨a, cap, rfl⟩ := hS.nil
        have hm := hM.out
        simp only [List.map_nil, List.sum_nil, Nat.add_zero] at hm
        subst hm
        have hmin : V = c := by rw [← HV.out]; omega
        subst hmin
        clear hsum
        go_wp2
        go_ret
        exact ⟨rfl, hb⟩
      obtain ⟨st', y, rfl⟩ := last_of he
      obtain ⟨g, cap, rfl, hcap, hcm, hgb, hgl, hcell, hS'⟩ := hS.pop
      have hm := hM.out
      rw [List.map_append, List.sum_append, List.map_singleton, List.sum_singleton] at hm
      have hcl1 := hC.out y (by simp)
      obtain ⟨e, t⟩ := y
      cases e with
      | zero => exact Empty.elim t
      | succ e =>
      obtain ⟨k, n, s, ps, rfl, htop⟩ := top_any (d := e) (t := t) hcl1
      have hcs : cntS ⟨e + 1, mkT k n s ps⟩ = (ps.map (cnt e)).sum + 1 := cnt_mk k n s ps
      rw [hcs] at hm
      have i1 : ((st'.length : Int) + 1 > 0) := by omega
      by_cases hc40 : c = 41
      · have i2 : ¬ (c : Int) ≤ 40 := by omega
        have hmin : V = c := by rw [← HV.out]; omega
        subst hmin
        clear hsum htop hcell hm hcs hC hM hS hS' hcl1 hst HV
        go_wp2
        go_ret
        exact ⟨rfl, hb⟩
      have i2 : (c : Int) ≤ 40 := by omega
      have hS2 := fun w1 (b : Below wr.heap.size wr w1) => hS'.on b (Nat.le_refl _)
      have hq := hb.size
      have i3 : (0 : Int) ≤ (st'.length : Int) := by omega
      have i4 : (st'.length : Int) ≤ (cap : Int) := by omega
      have i5 : (st'.length : Int) < (st'.length : Int) + 1 := by omega
      have hpl : ps.length ≤ 2 := (Cl.parts hcl1).1
      have hsl : st'.length ≤ 100000 := by
        have : st'.length ≤ (st'.map cntS).sum := stk_len st'
        omega
      have hNM : Hid (c + 1 + ((st' ++ kidS ps).map cntS).sum = N) := by
        show _ = _
        rw [List.map_append, List.sum_append, kidS_cnt]; omega
      have hNC : Hid (∀ y ∈ st' ++ kidS ps, ClS y) := fun y hy => by
        rcases List.mem_append.1 hy with h | h
        · exact hC.out y (by simp [h])
        · obtain ⟨p, hp, rfl⟩ := List.mem_map.1 h
          exact (Cl.parts hcl1).2 p hp
      obtain ⟨L, hL⟩ : ∃ L, ps.map (exV e) = L := ⟨_, rfl⟩
      obtain ⟨z, hz⟩ : ∃ z, exS ⟨e + 1, mkT k n s ps⟩ = z := ⟨_, rfl⟩
      have hzf := exS_form ⟨e + 1, mkT k n s ps⟩
      have hti : Hid (∀ v ∈ L, Ifc v) := by rw [← hL]; exact ifc_map ps
      have hLl : Hid (L.length = ps.length) := by rw [← hL]; show _ = _; simp
      have hL2 : L.length ≤ 2 := by rw [hLl.out]; exact hpl
      have htop' : ∀ w1, Calls Tryz.prog 152 #[z] w1 fun e w' => ∃ sl, e = .returned (.agg #[.int .i64 k, .int .i64 n, .string s, sl]) ∧ Kids w' sl L ∧ Below w1.heap.size w1 w' := by rw [← hz, ← hL]; exact htop
      rw [hz] at hcell hzf
      have hLH : Hid (ps.map (exV e) = L) := hL
      clear hL hz htop hm hcs hC hM hS hcl1 hst hsum hS'
      go_wp2
      go_region_law (first
          | (refine step_append_both _ (by rfl) (.tmp 20) (.tmp 26) 212 212 (by rfl) w.heap.size 139 i0 .nilIface 1 16 Tryz.underlying212 hi hz0 hz1 hz2 rfl _ st'.length _ (by rfl) ho1 _ L.length L (by rfl) (hk1.src hti.out) L.length (.inr (by omega)) (Nat.le_refl _) (by unfold maxLen; omega) (Nat.le_trans hq b1'.size) ?_; intro v4 w4 ho4 hg4 _)
          | (go_simp; refine (htop' _).mono ?_; rintro e w1 ⟨sl, rfl, hk1, b1⟩; obtain ⟨a1, rfl⟩ := hk1.form; have b1' : Below wr.heap.size wr w1 := ((Below.refl _ wr).drew).trans b1; have ho1 := hS2 w1 b1'))
      have bel4 : Below w.heap.size w w4 := (hb.trans (b1'.mono hq)).grown hg4 (Nat.le_trans hq b1'.size) (fun k hk => (World.ownsRow.lt ho1 k hk).1)
      have hS4 : Stk w4 w.heap.size v4 (st' ++ kidS ps) := Stk.push (n := st'.length + L.length) (by rw [hLl.out]) (by rw [hLH.out]; exact ho4)
      clear ho4 hg4 ho1 hk1 b1 b1' hS2 hcell htop' hb
      go_wp2
      go_roundw
      case rel => exact ⟨c + 1, st' ++ kidS ps, by go_num, by omega, hS4, hNC, hNM, bel4⟩
      case measure => simp [RowKit.intOf]; omega
  · go_enter Tryz.func154, Tryz.ntmps154
    go_wp2
    go_loopw [3, 4] (fun a v wr => ∃ (c : Nat) (st : List Sg), a = .int .i64 (c : Int) ∧ c ≤ 41 ∧ Stk wr w.heap.size v st ∧ Hid (∀ y ∈ st, ClS y) ∧ Hid (c + (st.map cntS).sum = N) ∧ Below w.heap.size w wr) (fun a _ _ => 41 - (RowKit.intOf a).toNat)
    case atStart => exact ⟨0, S, rfl, by omega, hst.out, hcl, hsum, (Below.refl _ _).alloc (Nat.le_refl _) _⟩
    case round =>
      obtain ⟨c, st, rfl, hc41, hS, hC, hM, hb⟩ := hrel
      by_cases he : st = []
      · subst he
        obtain ⟨a, cap, rfl⟩ := hS.nil
        have hm := hM.out
        simp only [List.map_nil, List.sum_nil, Nat.add_zero] at hm
        subst hm
        have hmin : V = c := by rw [← HV.out]; omega
        subst hmin
        clear hsum
        go_wp2
        go_ret
        exact ⟨rfl, hb⟩
      obtain ⟨st', y, rfl⟩ := last_of he
      obtain ⟨g, cap, rfl, hcap, hcm, hgb, hgl, hcell, hS'⟩ := hS.pop
      have hm := hM.out
      rw [List.map_append, List.sum_append, List.map_singleton, List.sum_singleton] at hm
      have hcl1 := hC.out y (by simp)
      obtain ⟨e, t⟩ := y
      cases e with
      | zero => exact Empty.elim t
      | succ e =>
      obtain ⟨k, n, s, ps, rfl, htop⟩ := top_any (d := e) (t := t) hcl1
      have hcs : cntS ⟨e + 1, mkT k n s ps⟩ = (ps.map (cnt e)).sum + 1 := cnt_mk k n s ps
      rw [hcs] at hm
      have i1 : ((st'.length : Int) + 1 > 0) := by omega
      by_cases hc40 : c = 41
      · have i2 : ¬ (c : Int) ≤ 40 := by omega
        have hmin : V = c := by rw [← HV.out]; omega
        subst hmin
        clear hsum htop hcell hm hcs hC hM hS hS' hcl1 hst HV
        go_wp2
        go_ret
        exact ⟨rfl, hb⟩
      have i2 : (c : Int) ≤ 40 := by omega
      have hS2 := fun w1 (b : Below wr.heap.size wr w1) => hS'.on b (Nat.le_refl _)
      have hq := hb.size
      have i3 : (0 : Int) ≤ (st'.length : Int) := by omega
      have i4 : (st'.length : Int) ≤ (cap : Int) := by omega
      have i5 : (st'.length : Int) < (st'.length : Int) + 1 := by omega
      have hpl : ps.length ≤ 2 := (Cl.parts hcl1).1
      have hsl : st'.length ≤ 100000 := by
        have : st'.length ≤ (st'.map cntS).sum := stk_len st'
        omega
      have hNM : Hid (c + 1 + ((st' ++ kidS ps).map cntS).sum = N) := by
        show _ = _
        rw [List.map_append, List.sum_append, kidS_cnt]; omega
      have hNC : Hid (∀ y ∈ st' ++ kidS ps, ClS y) := fun y hy => by
        rcases List.mem_append.1 hy with h | h
        · exact hC.out y (by simp [h])
        · obtain ⟨p, hp, rfl⟩ := List.mem_map.1 h
          exact (Cl.parts hcl1).2 p hp
      obtain ⟨L, hL⟩ : ∃ L, ps.map (exV e) = L := ⟨_, rfl⟩
      obtain ⟨z, hz⟩ : ∃ z, exS ⟨e + 1, mkT k n s ps⟩ = z := ⟨_, rfl⟩
      have hzf := exS_form ⟨e + 1, mkT k n s ps⟩
      have hti : Hid (∀ v ∈ L, Ifc v) := by rw [← hL]; exact ifc_map ps
      have hLl : Hid (L.length = ps.length) := by rw [← hL]; show _ = _; simp
      have hL2 : L.length ≤ 2 := by rw [hLl.out]; exact hpl
      have htop' : ∀ w1, Calls Tryz.prog 152 #[z] w1 fun e w' => ∃ sl, e = .returned (.agg #[.int .i64 k, .int .i64 n, .string s, sl]) ∧ Kids w' sl L ∧ Below w1.heap.size w1 w' := by rw [← hz, ← hL]; exact htop
      rw [hz] at hcell hzf
      have hLH : Hid (ps.map (exV e) = L) := hL
      clear hL hz htop hm hcs hC hM hS hcl1 hst hsum hS'
      go_wp2
      go_region_law (first
          | (refine step_append_both _ (by rfl) (.tmp 20) (.tmp 26) 212 212 (by rfl) w.heap.size 139 i0 .nilIface 1 16 Tryz.underlying212 hi hz0 hz1 hz2 rfl _ st'.length _ (by rfl) ho1 _ L.length L (by rfl) (hk1.src hti.out) L.length (.inr (by omega)) (Nat.le_refl _) (by unfold maxLen; omega) (Nat.le_trans hq b1'.size) ?_; intro v4 w4 ho4 hg4 _)
          | (go_simp; refine (htop' _).mono ?_; rintro e w1 ⟨sl, rfl, hk1, b1⟩; obtain ⟨a1, rfl⟩ := hk1.form; have b1' : Below wr.heap.size wr w1 := ((Below.refl _ wr).drew).trans b1; have ho1 := hS2 w1 b1'))
      have bel4 : Below w.heap.size w w4 := (hb.trans (b1'.mono hq)).grown hg4 (Nat.le_trans hq b1'.size) (fun k hk => (World.ownsRow.lt ho1 k hk).1)
      have hS4 : Stk w4 w.heap.size v4 (st' ++ kidS ps) := Stk.push (n := st'.length + L.length) (by rw [hLl.out]) (by rw [hLH.out]; exact ho4)
      clear ho4 hg4 ho1 hk1 b1 b1' hS2 hcell htop' hb
      go_wp2
      go_roundw
      case rel => exact ⟨c + 1, st' ++ kidS ps, by go_num, by omega, hS4, hNC, hNM, bel4⟩
      case measure => simp [RowKit.intOf]; omega
end Go.Proofs.YtccmmkhcacglhaaGreatDoor

/- What is asked of the program's Formed. -/
namespace Go.Proofs.YtccmmkhcacglhaaGreatDoor
open Go.RowKit Go.Lib
set_option linter.unusedSimpArgs false
set_option linter.unusedVariables false

/-- The program's Formed answers as the document says. -/
def FormedP : Prop := ∀ (d : Nat) (t : T d) (w : World), Cl d t → cnt d t ≤ 100000 → shrt 1000 d t = true → Calls Tryz.prog 185 #[exV d t] w fun r w' => r = .returned (.bool (fmC d t)) ∧ Below w.heap.size w w'
theorem bthen {a b c : World} (h : Below a.heap.size a b) (k : Below b.heap.size b c) : Below a.heap.size a c := h.trans (k.mono h.size)
theorem At4.on {w w' : World} {X : Nat} {a b c e : Value} (h : At4 w X a b c e) (hb : Below w.heap.size w w') : At4 w' X a b c e := h.keepB hb (World.block_lt_of_cell? w _ h.1)
end Go.Proofs.YtccmmkhcacglhaaGreatDoor

/- What the program's rightWithin and Formed do. -/
namespace Go.Proofs.YtccmmkhcacglhaaGreatDoor
open Go.RowKit Go.Lib
set_option linter.unusedSimpArgs false
set_option linter.unusedVariables false
attribute [local go_sem ↓] Go.wp_at_zero Go.wp_at_succ

theorem ndC_cnt : ∀ (d : Nat) (t : T d), ndC d t = min (cnt d t) 41
  | 0, t => Empty.elim t
  | d + 1, t => by
    obtain ⟨k, n, s, ps, rfl⟩ := T.open t
    rw [ndC_mk, cnt_mk]
    have : ∀ l : List (T d), min ((l.map (ndC d)).sum + 1) 41 = min ((l.map (cnt d)).sum + 1) 41 := fun l => by
      induction l with
      | nil => rfl
      | cons p r ih =>
        have := ndC_cnt d p
        simp only [List.map_cons, List.sum_cons]
        omega
    exact this ps

theorem foldl_max_iff {m : Nat} : ∀ (l : List Nat) (a : Nat), l.foldl max a ≤ m ↔ a ≤ m ∧ ∀ x ∈ l, x ≤ m
  | [], a => by simp
  | x :: r, a => by
    rw [List.foldl_cons, foldl_max_iff r, Nat.max_le]
    simp only [List.mem_cons, forall_eq_or_imp, and_assoc]
theorem sd_rt {d : Nat} {k n : Int} {s : ByteArray} {ps : List (T d)} (h : Cl (d + 1) (mkT k n s ps)) : sdC (d + 1) (mkT k n s ps) = (rtC k n s && ps.all (sdC d)) := by
  rw [sdC_mk]
  unfold rtC
  rcases h with ⟨h1, h2, h3⟩ | ⟨h1, h2, h3⟩ | ⟨h1, h2, h3, p, h4, h5⟩ | ⟨h1, h2, p, q, h3, h4, h5⟩ | ⟨h1, h2, h3, h4⟩
  · simp only at h1 h3; subst h1 h3; simp
  · simp only at h1 h3; subst h1 h3; simp
  · simp only at h1 h4; rcases h1 with rfl | rfl <;> simp
  · simp only at h1 h3; subst h1 h3; simp
  · simp only at h1 h4; subst h1 h4; simp
theorem within_all {d : Nat} {k n : Int} {s : ByteArray} {ps : List (T d)} (h : Cl (d + 1) (mkT k n s ps)) (r : Nat) :
    (decide (dpC (d + 1) (mkT k n s ps) ≤ r + 1) && sdC (d + 1) (mkT k n s ps)) = (rtC k n s && ps.all (fun p => decide (dpC d p ≤ r) && sdC d p)) := by
  rw [sd_rt h, dpC_mk]
  have e1 : decide ((ps.map (dpC d)).foldl max 0 + 1 ≤ r + 1) = ps.all (fun p => decide (dpC d p ≤ r)) := by
    rw [Bool.eq_iff_iff]
    simp only [decide_eq_true_eq, List.all_eq_true]
    rw [Nat.add_le_add_iff_right, foldl_max_iff]
    simp
  have e2 : ps.all (fun p => decide (dpC d p ≤ r) && sdC d p) = (ps.all (fun p => decide (dpC d p ≤ r)) && ps.all (sdC d)) := by
    induction ps with
    | nil => rfl
    | cons p q ih =>
      simp only [List.all_cons]
      have : q.all (fun p => decide (dpC d p ≤ r) && sdC d p) = (q.all (fun p => decide (dpC d p ≤ r)) && q.all (sdC d)) := by
        clear ih e1 h
        induction q with
        | nil => rfl
        | cons a b ih => simp only [List.all_cons]; rw [ih]; cases decide (dpC d a ≤ r) <;> cases sdC d a <;> simp
      rw [this]
      cases decide (dpC d p ≤ r) <;> cases sdC d p <;> simp
  rw [e1, e2]
  cases rtC k n s <;> simp
theorem dpC_pos (d : Nat) (t : T d) : 1 ≤ dpC d t := by
  match d, t with
  | 0, t => exact Empty.elim t
  | d + 1, t =>
    obtain ⟨k, n, s, ps, rfl⟩ := T.open t
    rw [dpC_mk]; omega

def RightC (d : Nat) : Prop := ∀ (t : T d) (r : Nat) (w : World), Cl d t → shrt 1000 d t = true → r ≤ 12 →
  Calls Tryz.prog 202 #[exV d t, .int .i64 (r : Int)] w fun e w' => e = .returned (.bool (decide (dpC d t ≤ r) && sdC d t)) ∧ Below w.heap.size w w'
set_option maxRecDepth 100000 in
set_option maxHeartbeats 4000000 in
theorem right_step (d : Nat) (IH : RightC d) : RightC (d + 1) := by
  intro t r w hc hs hr
  obtain ⟨k, n, s, ps, rfl, htop⟩ := top_any hc
  rw [shrt_mk] at hs
  simp only [Bool.and_eq_true, decide_eq_true_eq, List.all_eq_true] at hs
  obtain ⟨hs1, hs2⟩ := hs
  obtain ⟨x, hx⟩ : ∃ x, exV (d + 1) (mkT k n s ps) = x := ⟨_, rfl⟩
  rw [hx] at htop ⊢
  have htop' : ∀ w1, Calls Tryz.prog 152 #[x] w1 fun e w' => ∃ sl, e = .returned (.agg #[.int .i64 k, .int .i64 n, .string s, sl]) ∧ Kids w' sl (ps.map (exV d)) ∧ Below w1.heap.size w1 w' := htop
  cases r with
  | zero =>
    have e1 : (((0 : Nat) : Int) < 1) := by omega
    have hd := dpC_pos (d + 1) (mkT k n s ps)
    rw [decide_eq_false (by omega), Bool.false_and]
    go_enter Tryz.func202, Tryz.ntmps202
    go_wp2_with (first
      | (go_at_call 152; refine (htop' _).mono ?_; rintro e w1 ⟨sl, rfl, hk1, b1⟩; obtain ⟨a1, rfl⟩ := hk1.form))
    go_ret
    exact ⟨rfl, b1.alloc b1.size _⟩
  | succ r =>
  rw [within_all hc]
  obtain ⟨L, hL⟩ : ∃ L, ps.map (exV d) = L := ⟨_, rfl⟩
  have hkid : Hid (∀ (j : Nat) (h : j < L.length) (h' : j < ps.length) (w1 : World), Calls Tryz.prog 202 #[L[j], .int .i64 (r : Int)] w1 fun e w' => e = .returned (.bool (decide (dpC d ps[j] ≤ r) && sdC d ps[j])) ∧ Below w1.heap.size w1 w') :=
    fun j h h' w1 => by
      have := IH ps[j] r w1 ((Cl.parts hc).2 _ (List.getElem_mem h')) (hs2 _ (List.getElem_mem h')) (by omega)
      subst hL
      simpa using this
  have hrt := fun a m w1 => rightTop_any k n s a m hs1 w1
  have hpl : L.length ≤ 2 := by rw [← hL]; simpa using (Cl.parts hc).1
  have hLl : Hid (L.length = ps.length) := by rw [← hL]; show _ = _; simp
  have i0 : ¬ ((r : Int) + 1 < 1) := by omega
  have i1 : (((r + 1 : Nat) : Int)) = (r : Int) + 1 := by omega
  rw [i1]
  obtain ⟨g, hg⟩ : ∃ g, rtC k n s = g := ⟨_, rfl⟩
  simp only [hg] at hrt
  simp only [hL] at htop'
  rw [hg]
  clear hg i1 htop hs1 hs2 hc hx hL
  cases g with
  | false =>
    rw [Bool.false_and]
    go_enter Tryz.func202, Tryz.ntmps202
    go_wp2_with (first
      | (go_at_call 152; refine (htop' _).mono ?_; rintro e w1 ⟨sl, rfl, hk1, b1⟩; obtain ⟨a1, rfl⟩ := hk1.form; have b2 := b1.alloc b1.size (.cells #[.int .i64 k, .int .i64 n, .string s, .slice a1 L.length L.length] 214))
      | (go_at_call 217; refine (hrt _ _ _).mono ?_; rintro e w2 ⟨rfl, b3⟩))
    go_ret
    exact ⟨rfl, b2.trans (b3.mono b2.size)⟩
  | true =>
    rw [Bool.true_and]
    obtain ⟨V, hV⟩ : ∃ V, ps.all (fun p => decide (dpC d p ≤ r) && sdC d p) = V := ⟨_, rfl⟩
    rw [hV]
    have HV : Hid (ps.all (fun p => decide (dpC d p ≤ r) && sdC d p) = V) := hV
    clear hV
    go_enter Tryz.func202, Tryz.ntmps202
    go_wp2_with (first
      | (go_at_call 152; refine (htop' _).mono ?_; rintro e w1 ⟨sl, rfl, hk1, b1⟩; obtain ⟨a1, rfl⟩ := hk1.form; have b2 := b1.alloc b1.size (.cells #[.int .i64 k, .int .i64 n, .string s, .slice a1 L.length L.length] 214))
      | (go_at_call 217; refine (hrt _ _ _).mono ?_; rintro e w2 ⟨rfl, b3⟩; obtain ⟨y0, y1, y2, y3⟩ := (At4.new w1 (.int .i64 k) (.int .i64 n) (.string s) (.slice a1 L.length L.length) 214).keepB b3 (by simp)))
    have b4 := b2.trans (b3.mono b2.size)
    have hk2 := (hk1.below ((Below.refl _ _).alloc (Nat.le_refl _) _) (Nat.le_refl _)).below b3 (Nat.le_refl _)
    clear hrt htop' hk1 b1 b2 b3
    go_loopw [20] (fun i wr => ∃ j : Nat, j ≤ L.length ∧ i = .int .i64 (j : Int) ∧ Hid ((ps.take j).all (fun p => decide (dpC d p ≤ r) && sdC d p) = true) ∧ Hid (Kids wr (.slice a1 L.length L.length) L) ∧ Below w.heap.size w wr) (fun i _ => L.length - (RowKit.intOf i).toNat)
    case atStart => exact ⟨0, Nat.zero_le _, rfl, rfl, hk2, b4⟩
    case round =>
      obtain ⟨j, hj, rfl, hA, hK, hb⟩ := hrel
      have i2 : (0 : Int) ≤ (j : Int) := by omega
      have hll := hLl.out
      by_cases hlt : j < L.length
      · have i3 : (j : Int) < (L.length : Int) := by omega
        obtain ⟨gg, hgg, hcell⟩ := hK.out.at hlt
        have hc2 := hkid.out j hlt (by omega)
        have h1 := all_take_succ (fun p => decide (dpC d p ≤ r) && sdC d p) ps j (by omega) hA.out
        have h2 := all_not (fun p => decide (dpC d p ≤ r) && sdC d p) ps j (by omega)
        obtain ⟨z, hz⟩ : ∃ z, L[j] = z := ⟨_, rfl⟩
        obtain ⟨q, hq⟩ : ∃ q, (decide (dpC d (ps[j]'(by omega)) ≤ r) && sdC d (ps[j]'(by omega))) = q := ⟨_, rfl⟩
        rw [hz] at hcell
        simp only [hz, hq] at hc2
        simp only [hq] at h1 h2
        subst hgg
        have hK2 := fun w3 (b : Below wr.heap.size wr w3) => hK.out.below b (Nat.le_refl _)
        have hS : Hid (_ → _) := h1
        have hN : Hid (_ → _) := h2
        clear hz hq h1 h2 hll hK hA
        cases q with
        | false =>
          have hF : V = false := by rw [← HV.out]; exact hN.out rfl
          subst hF
          go_wp2_with (first
            | (go_at_call 202; refine (hc2 _).mono ?_; rintro e w3 ⟨rfl, b5⟩))
          go_ret
          exact ⟨rfl, hb.trans (b5.mono hb.size)⟩
        | true =>
          have hT := hS.out rfl
          have HT : Hid ((ps.take (j + 1)).all (fun p => decide (dpC d p ≤ r) && sdC d p) = true) := hT
          clear hT hS hN
          go_wp2_with (first
            | (go_at_call 202; refine (hc2 _).mono ?_; rintro e w3 ⟨rfl, b5⟩))
          have hK3 : Hid _ := hK2 _ b5
          have b6 := hb.trans (b5.mono hb.size)
          go_roundw
          case rel => exact ⟨j + 1, hlt, by go_num, HT, hK3, b6⟩
          case measure => simp [RowKit.intOf]; omega
      · have i3 : ¬ (j : Int) < (L.length : Int) := by omega
        have hF : V = true := by
          rw [← HV.out, ← hA.out, List.take_of_length_le (by omega)]
        subst hF
        clear hll
        go_wp2
        go_ret
        exact ⟨rfl, hb⟩
theorem right_any : ∀ (d : Nat), RightC d
  | 0 => fun t => Empty.elim t
  | d + 1 => right_step d (right_any d)

theorem pNodes_any (d : Nat) (t : T d) (w : World) (hc : Cl d t) (hn : cnt d t ≤ 100000) : Calls Tryz.prog 154 #[exV d t] w fun r w' => r = .returned (.int .i64 (ndC d t : Int)) ∧ Below w.heap.size w w' := by
  rw [ndC_cnt]
  exact pNodes_cnt d t w hc hn

theorem formedP : FormedP := by
  intro d t w hc hn hs
  have h1 := pNodes_any d t w hc hn
  have h2 := fun w1 => right_any d t 12 w1 hc hs (Nat.le_refl _)
  unfold fmC
  obtain ⟨N, hN⟩ : ∃ N, ndC d t = N := ⟨_, rfl⟩
  obtain ⟨q, hq⟩ : ∃ q, (decide (dpC d t ≤ 12) && sdC d t) = q := ⟨_, rfl⟩
  obtain ⟨x, hx⟩ : ∃ x, exV d t = x := ⟨_, rfl⟩
  rw [Bool.and_assoc, hN, hq]
  rw [hN] at h1
  simp only [hq] at h2
  rw [hx] at h1 ⊢
  simp only [hx] at h2
  clear hN hq hx hc hn hs
  by_cases h40 : N ≤ 40
  · have e1 : (N : Int) ≤ 40 := by omega
    rw [decide_eq_true h40, Bool.true_and]
    go_enter Tryz.func185, Tryz.ntmps185
    go_wp2_with (first
      | (go_at_call 154; refine h1.mono ?_; rintro e w1 ⟨rfl, b1⟩)
      | (go_at_call 202; refine (h2 _).mono ?_; rintro e w2 ⟨rfl, b2⟩))
    go_ret
    exact ⟨rfl, bthen b1 b2⟩
  · have e1 : ¬ (N : Int) ≤ 40 := by omega
    rw [decide_eq_false h40, Bool.false_and]
    go_enter Tryz.func185, Tryz.ntmps185
    go_wp2_with (first
      | (go_at_call 154; refine h1.mono ?_; rintro e w1 ⟨rfl, b1⟩))
    go_ret
    exact ⟨rfl, b1⟩
end Go.Proofs.YtccmmkhcacglhaaGreatDoor

/- What the program's Take does. -/
namespace Go.Proofs.YtccmmkhcacglhaaGreatDoor
open Go.RowKit Go.Lib
set_option linter.unusedSimpArgs false
set_option linter.unusedVariables false
attribute [local go_sem ↓] Go.wp_at_zero Go.wp_at_succ

theorem rdr_start (w : World) : Rdr (w.alloc (.cells #[.slice none 0 0, .slice none 0 0, .int .i64 0, .bool false] 265)) w.heap.size ⟨[], [], 0, false⟩ (.slice none 0 0) (.slice none 0 0) :=
  ⟨B4.new w _ _ _ _ _ _ rfl, World.ownsRow_nil _ _ _ _, World.ownsRow_nil _ _ _ _, fun g hg => by simp [Value.ownBlock] at hg⟩
/-- What is told, out of what the two stacks tell. -/
def ofOut (r : Option Sx × Nat) : Sx × Nat × Int := match r.1 with | some x => if fmX x = true then (x, r.2, 0) else (noX, 0, 13) | none => (noX, r.2, 12)
theorem take_out {ws : List Wd} (h : ∀ w ∈ ws, OneW w.1 w.2.1) : takeC (ws.map tkW) = ofOut (rnY (leafY (valB 0) rsvB) (ws.map tkW) ⟨[], [], 0, false⟩ 0) ∧
    ∀ x n, rnY (leafY (valB 0) rsvB) (ws.map tkW) ⟨[], [], 0, false⟩ 0 = (some x, n) → Fine x ∧ cntX x ≤ n := by
  have hy := yard_psr (nb := valB 0) (rsv := rsvB) (l := ws.map tkW) (good_all h) (f := 7 * (ws.map tkW).length + 6) (by omega)
  have hf : BadOr _ 0 (rdC (ws.map tkW)) := fine_read h _ 1 0 (by omega) (by omega)
  have e : psr (valB 0) rsvB (ws.map tkW) (7 * (ws.map tkW).length + 6) 1 0 (-1) = rdC (ws.map tkW) := rfl
  rw [e] at hy
  obtain ⟨O, hO⟩ : ∃ O, rnY (leafY (valB 0) rsvB) (ws.map tkW) ⟨[], [], 0, false⟩ 0 = O := ⟨_, rfl⟩
  rw [hO] at hy ⊢
  unfold takeC
  rcases hf with ⟨h1, h2⟩ | h1
  · have hlt : (rdC (ws.map tkW)).2.2 < 0 := by rw [h1]; decide
    rw [if_pos hlt] at hy
    subst hy
    rw [if_neg (by omega)]
    refine ⟨rfl, fun x n hx => ?_⟩
    simp only [Prod.mk.injEq, Option.some.injEq] at hx
    obtain ⟨rfl, rfl⟩ := hx
    exact ⟨h2.1, by have := h2.2; omega⟩
  · rw [if_neg (by omega)] at hy
    subst hy
    rw [if_pos h1]
    exact ⟨rfl, fun x n hx => by simp at hx⟩
theorem celsW_at (ws : List Wd) (i : Nat) (h : i < ws.length) : (celsW ws)[i * 4]? = some (.int .i64 ((ws[i]).1 : Int)) ∧ (celsW ws)[i * 4 + 1]? = some (.string (txt (ws[i]).2.1)) ∧ (celsW ws)[i * 4 + 2]? = some (.int .i64 (ws[i]).2.2.1) ∧ (celsW ws)[i * 4 + 3]? = some (.int .i64 (ws[i]).2.2.2) := by
  induction ws generalizing i with
  | nil => simp at h
  | cons x t ih =>
    cases i with
    | zero => exact ⟨rfl, rfl, rfl, rfl⟩
    | succ k =>
      have hk := ih k (by simpa using h)
      have e : ∀ j, (celsW (x :: t))[(k + 1) * 4 + j]? = (celsW t)[k * 4 + j]? := fun j => by
        show (celW x ++ celsW t)[(k + 1) * 4 + j]? = _
        rw [List.getElem?_append_right (by simp [celW]; omega)]
        congr 1
        simp [celW]; omega
      exact ⟨(e 0).trans hk.1, (e 1).trans hk.2.1, (e 2).trans hk.2.2.1, (e 3).trans hk.2.2.2⟩
/-- Words in memory, read. -/
theorem ownW_rd {w : World} {base e : Nat} {v : Value} {ws : List Wd} (h : OwnW w base e v ws) : ∃ a cap, v = .slice a ws.length cap ∧ ws.length ≤ cap ∧ cap ≤ maxLen ∧ ∀ (i : Nat) (hi : i < ws.length), ∃ g, a = some ⟨g, 0, none⟩ ∧ g < w.heap.size ∧ w.cell? ⟨g, i * 4, none⟩ = some (.int .i64 ((ws[i]).1 : Int)) ∧ w.cell? ⟨g, i * 4 + 1, none⟩ = some (.string (txt (ws[i]).2.1)) ∧ w.cell? ⟨g, i * 4 + 2, none⟩ = some (.int .i64 (ws[i]).2.2.1) ∧ w.cell? ⟨g, i * 4 + 3, none⟩ = some (.int .i64 (ws[i]).2.2.2) := by
  have hc := fun g => World.ownsRow.cells h (g := g)
  rcases h.2 with ⟨h1, h2⟩ | ⟨g, cap, cur, rfl, hb, hg, h3, h4, _⟩
  · exact ⟨none, 0, by rw [h1, h2], by omega, by simp [maxLen], fun i hi => by omega⟩
  · refine ⟨_, _, rfl, h3, h4, fun i hi => ⟨g, rfl, (Array.getElem?_eq_some_iff.1 hg).1, ?_⟩⟩
    obtain ⟨e0, e1, e2, e3⟩ := celsW_at ws i hi
    have c0 := hc g rfl _ _ e0
    have c1 := hc g rfl _ _ e1
    have c2 := hc g rfl _ _ e2
    have c3 := hc g rfl _ _ e3
    rw [addr_plain] at c0 c1 c2 c3
    exact ⟨c0, c1, c2, c3⟩
set_option maxRecDepth 100000 in
set_option maxHeartbeats 4000000 in
theorem pTake_rd {w : World} {a : Option Addr} {cap : Nat} {ws : List Wd} (q1 : ws.length ≤ cap) (q2 : cap ≤ maxLen) (hrd : ∀ (i : Nat) (hi : i < ws.length), ∃ g off, a = some ⟨g, off, none⟩ ∧ g < w.heap.size ∧ w.cell? ⟨g, off + i * 4, none⟩ = some (.int .i64 ((ws[i]).1 : Int)) ∧ w.cell? ⟨g, off + i * 4 + 1, none⟩ = some (.string (txt (ws[i]).2.1)) ∧ w.cell? ⟨g, off + i * 4 + 2, none⟩ = some (.int .i64 (ws[i]).2.2.1) ∧ w.cell? ⟨g, off + i * 4 + 3, none⟩ = some (.int .i64 (ws[i]).2.2.2)) (h1 : ∀ x ∈ ws, OneW x.1 x.2.1) (hl : ws.length ≤ 3000) :
    Calls Tryz.prog 175 #[.slice a ws.length cap] w fun e w' => e = .returned (.tuple #[exX (takeC (ws.map tkW)).1, .int .i64 ((takeC (ws.map tkW)).2.1 : Int), .int .i64 (takeC (ws.map tkW)).2.2]) ∧ Below w.heap.size w w' := by
  obtain ⟨ht1, ht2⟩ := take_out h1
  rw [ht1]
  obtain ⟨OUT, hO⟩ : ∃ OUT, rnY (leafY (valB 0) rsvB) (ws.map tkW) ⟨[], [], 0, false⟩ 0 = OUT := ⟨_, rfl⟩
  rw [hO] at ht2 ⊢
  have hO0 : Hid (rnY (leafY (valB 0) rsvB) (ws.map tkW) ⟨[], [], 0, false⟩ 0 = OUT) := hO
  have HT : Hid (∀ x n, OUT = (some x, n) → Fine x ∧ cntX x ≤ n) := ht2
  have HR : Hid (∀ (i : Nat) (hi : i < ws.length), ∃ g off, a = some ⟨g, off, none⟩ ∧ g < w.heap.size ∧ w.cell? ⟨g, off + i * 4, none⟩ = some (.int .i64 ((ws[i]).1 : Int)) ∧ w.cell? ⟨g, off + i * 4 + 1, none⟩ = some (.string (txt (ws[i]).2.1)) ∧ w.cell? ⟨g, off + i * 4 + 2, none⟩ = some (.int .i64 (ws[i]).2.2.1) ∧ w.cell? ⟨g, off + i * 4 + 3, none⟩ = some (.int .i64 (ws[i]).2.2.2)) := hrd
  have H1 : Hid (∀ x ∈ ws, OneW x.1 x.2.1) := h1
  clear hrd h1 ht1 ht2 hO
  have hs := rdr_start w
  have hb0 : Below w.heap.size w (w.alloc (.cells #[.slice none 0 0, .slice none 0 0, .int .i64 0, .bool false] 265)) := (Below.refl _ _).alloc (Nat.le_refl _) _
  go_enter Tryz.func175, Tryz.ntmps175
  go_wp2
  go_loopw [6] (fun v wr => ∃ (n : Nat) (y : Yd) (vv ww : Value), v = .int .i64 (n : Int) ∧ n ≤ ws.length ∧ Rdr wr w.heap.size y vv ww ∧ InvY y n ∧ Hid (rnY (leafY (valB 0) rsvB) (ws.map tkW) y n = OUT) ∧ Below w.heap.size w wr) (fun v _ => ws.length - (RowKit.intOf v).toNat)
  case atStart => exact ⟨0, _, _, _, rfl, Nat.zero_le _, hs, inv_start, hO0, hb0⟩
  case round =>
    obtain ⟨n, y, vv, ww, rfl, hn, hr, hi, ho, hb⟩ := hrel
    have i2 : (0 : Int) ≤ (n : Int) := by omega
    clear hs hb0 hO0
    by_cases hlt : n < ws.length
    · have i1 : (n : Int) < (ws.length : Int) := by omega
      obtain ⟨g, off, rfl, hg, c0, c1, c2, c3⟩ := HR.out n hlt
      have h1n := H1.out ws[n] (List.getElem_mem hlt)
      have hget : (ws.map tkW)[n]? = some (tkW ws[n]) := by rw [List.getElem?_map, List.getElem?_eq_getElem hlt]; rfl
      have d0 := (hb.cell (p := ⟨g, off + n * 4, none⟩) hg).trans c0
      have d1 := (hb.cell (p := ⟨g, off + n * 4 + 1, none⟩) hg).trans c1
      have d2 := (hb.cell (p := ⟨g, off + n * 4 + 2, none⟩) hg).trans c2
      have d3 := (hb.cell (p := ⟨g, off + n * 4 + 3, none⟩) hg).trans c3
      obtain ⟨⟨K, seg, ln, co⟩, hx⟩ : ∃ x, ws[n] = x := ⟨_, rfl⟩
      rw [hx] at h1n hget d0 d1 d2 d3
      simp only [tkW] at h1n hget d0 d1 d2 d3
      have hT := takes_any hr hi (by omega) h1n ln co
      have hstep := ho.out
      rw [rnY_some hget] at hstep
      have hinv := inv_step (leaf := leafY (valB 0) rsvB) hi (K, byt seg)
      obtain ⟨r, hrr⟩ : ∃ r, stp (leafY (valB 0) rsvB) y (K, byt seg) = r := ⟨_, rfl⟩
      simp only [hrr] at hT hstep hinv
      obtain ⟨y1, b1⟩ := r
      obtain ⟨tx, htx⟩ : ∃ tx, txt seg = tx := ⟨_, rfl⟩
      unfold wdV at hT
      rw [htx] at hT d1
      clear c0 c1 c2 c3 hx hrr htx hr hi ho h1n hget
      simp only at hT hstep hinv
      cases b1 with
      | true =>
        rw [if_pos rfl] at hstep
        have hN : Hid (rnY (leafY (valB 0) rsvB) (ws.map tkW) y1 (n + 1) = OUT) := hstep
        go_wp2_with (first
          | (go_at_call 192; refine hT.mono ?_; rintro e w1 ⟨rfl, ⟨vv1, ww1, hr1⟩, b1⟩))
        go_roundw
        case rel => exact ⟨n + 1, y1, vv1, ww1, by go_num, hlt, hr1, hinv, hN, hb.trans b1⟩
        case measure => simp [RowKit.intOf]; omega
      | false =>
        rw [if_neg Bool.false_ne_true] at hstep
        have hS : Hid (stopY y1 n = OUT) := hstep
        obtain ⟨V, W, o, b⟩ := y1
        have hQ := hS.out
        have hbk := brk_le W
        have hio := hinv.o
        have hiw := hinv.w
        simp only at hio hiw
        unfold stopY at hQ
        simp only at hQ
        have hFm := fun (x : Sx) (hx : Fine x ∧ cntX x ≤ n) w1 => formedP x.1 x.2 w1 hx.1.cl (by have := hx.2; show cnt x.1 x.2 ≤ 100000; unfold cntX at this; omega) hx.1.sh
        by_cases hq : b = true ∧ o = 0
        · rw [if_pos hq] at hQ
          obtain ⟨rfl, rfl⟩ := hq
          have hiv : V.length = bins W + 1 := hinv.v
          obtain ⟨x, hx⟩ := jn_all hiv hio.symm
          rw [hx] at hQ
          have hfine := HT.out x n hQ.symm
          have hFx := hFm x hfine
          have hE := fun w2 vv2 ww2 (h2 : Rdr w2 w.heap.size ⟨V, W, 0, true⟩ vv2 ww2) => end_any h2 hiv (by omega) hx
          have hMx := fun w2 vv2 ww2 (h2 : Rdr w2 w.heap.size ⟨V, W, 0, true⟩ vv2 ww2) => mayEnd_any h2 (by show (0 : Nat) ≤ 4000; omega)
          simp only [decide_true, Bool.and_true] at hMx
          have hres : ofOut OUT = if fmX x = true then (x, n, 0) else (noX, 0, 13) := by rw [← hQ]; rfl
          obtain ⟨fb, hfb⟩ : ∃ fb, fmC x.1 x.2 = fb := ⟨_, rfl⟩
          have hfb' : fmX x = fb := hfb
          rw [hfb'] at hres
          simp only [hfb] at hFx
          have hFx : ∀ w1, Calls Tryz.prog 185 #[exX x] w1 fun r w' => r = .returned (.bool fb) ∧ Below w1.heap.size w1 w' := hFx
          have hxf := exX_form x
          obtain ⟨xv, hxv⟩ : ∃ xv, exX x = xv := ⟨_, rfl⟩
          rw [hxv] at hxf
          simp only [hxv] at hFx hE
          clear hfb hfb' hfine hFm hQ hx hiv hio hiw hbk
          cases fb with
          | true =>
            rw [if_pos rfl] at hres
            have HX : Hid (exX x = xv) := hxv
            have HRS : Hid (ofOut OUT = (x, n, 0)) := hres
            clear hres hxv
            go_wp2_with (first
              | (go_at_call 192; refine hT.mono ?_; rintro e w1 ⟨rfl, ⟨vv1, ww1, hr1⟩, b1⟩)
              | (go_at_call 193; refine (hMx _ _ _ hr1).mono ?_; rintro e w2 ⟨rfl, b2⟩; have hr2 := hr1.on b2; have hb2 := (hb.trans b1).trans (b2.mono (hb.trans b1).size))
              | (go_at_call 194; refine (hE _ _ _ hr2).mono ?_; rintro e w3 ⟨rfl, b3⟩; have hb3 := hb2.trans b3)
              | (go_at_call 185; refine (hFx _).mono ?_; rintro e w4 ⟨rfl, b4⟩; have hb4 := hb3.trans (b4.mono hb3.size)))
            go_ret3
            refine ⟨?_, hb4⟩
            rw [HRS.out]
            show _ = Ending.returned (.tuple #[exX x, .int .i64 (n : Int), .int .i64 0])
            rw [HX.out]; rfl
          | false =>
            rw [if_neg Bool.false_ne_true] at hres
            have HRS : Hid (ofOut OUT = (noX, 0, 13)) := hres
            clear hres hxv
            go_wp2_with (first
              | (go_at_call 192; refine hT.mono ?_; rintro e w1 ⟨rfl, ⟨vv1, ww1, hr1⟩, b1⟩)
              | (go_at_call 193; refine (hMx _ _ _ hr1).mono ?_; rintro e w2 ⟨rfl, b2⟩; have hr2 := hr1.on b2; have hb2 := (hb.trans b1).trans (b2.mono (hb.trans b1).size))
              | (go_at_call 194; refine (hE _ _ _ hr2).mono ?_; rintro e w3 ⟨rfl, b3⟩; have hb3 := hb2.trans b3)
              | (go_at_call 185; refine (hFx _).mono ?_; rintro e w4 ⟨rfl, b4⟩; have hb4 := hb3.trans (b4.mono hb3.size)))
            go_ret3
            exact ⟨by rw [HRS.out]; rfl, hb4⟩
        · rw [if_neg hq] at hQ
          have hbo : (b && decide (o = 0)) = false := by
            cases b with
            | false => rfl
            | true => exact decide_eq_false (fun e => hq ⟨rfl, e⟩)
          have hMx := fun w2 vv2 ww2 (h2 : Rdr w2 w.heap.size ⟨V, W, o, b⟩ vv2 ww2) => mayEnd_any h2 (by show o ≤ 4000; omega)
          simp only [hbo] at hMx
          have HRS : Hid (ofOut OUT = (noX, n, 12)) := by show _ = _; rw [← hQ]; rfl
          clear hbo hq hFm hQ hio hiw hbk
          go_wp2_with (first
            | (go_at_call 192; refine hT.mono ?_; rintro e w1 ⟨rfl, ⟨vv1, ww1, hr1⟩, b1⟩)
            | (go_at_call 193; refine (hMx _ _ _ hr1).mono ?_; rintro e w2 ⟨rfl, b2⟩; have hb2 := (hb.trans b1).trans (b2.mono (hb.trans b1).size)))
          go_ret3
          exact ⟨by rw [HRS.out]; rfl, hb2⟩
    · have i1 : ¬ (n : Int) < (ws.length : Int) := by omega
      have hstep := ho.out
      rw [rnY_none (by rw [List.getElem?_eq_none_iff, List.length_map]; omega)] at hstep
      have hS : Hid (stopY y n = OUT) := hstep
      clear ho hstep
      obtain ⟨V, W, o, b⟩ := y
      have hQ := hS.out
      have hbk := brk_le W
      have hio := hi.o
      have hiw := hi.w
      simp only at hio hiw
      unfold stopY at hQ
      simp only at hQ
      have hFm := fun (x : Sx) (hx : Fine x ∧ cntX x ≤ n) w1 => formedP x.1 x.2 w1 hx.1.cl (by have := hx.2; show cnt x.1 x.2 ≤ 100000; unfold cntX at this; omega) hx.1.sh
      by_cases hq : b = true ∧ o = 0
      · rw [if_pos hq] at hQ
        obtain ⟨rfl, rfl⟩ := hq
        have hiv : V.length = bins W + 1 := hi.v
        obtain ⟨x, hx⟩ := jn_all hiv hio.symm
        rw [hx] at hQ
        have hfine := HT.out x n hQ.symm
        have hFx := hFm x hfine
        have hE := fun w2 vv2 ww2 (h2 : Rdr w2 w.heap.size ⟨V, W, 0, true⟩ vv2 ww2) => end_any h2 hiv (by omega) hx
        have hMx := fun w2 vv2 ww2 (h2 : Rdr w2 w.heap.size ⟨V, W, 0, true⟩ vv2 ww2) => mayEnd_any h2 (by show (0 : Nat) ≤ 4000; omega)
        simp only [decide_true, Bool.and_true] at hMx
        have hres : ofOut OUT = if fmX x = true then (x, n, 0) else (noX, 0, 13) := by rw [← hQ]; rfl
        obtain ⟨fb, hfb⟩ : ∃ fb, fmC x.1 x.2 = fb := ⟨_, rfl⟩
        have hfb' : fmX x = fb := hfb
        rw [hfb'] at hres
        simp only [hfb] at hFx
        have hFx : ∀ w1, Calls Tryz.prog 185 #[exX x] w1 fun r w' => r = .returned (.bool fb) ∧ Below w1.heap.size w1 w' := hFx
        have hxf := exX_form x
        obtain ⟨xv, hxv⟩ : ∃ xv, exX x = xv := ⟨_, rfl⟩
        rw [hxv] at hxf
        simp only [hxv] at hFx hE
        clear hfb hfb' hfine hFm hQ hx hiv hio hiw hbk
        cases fb with
        | true =>
          rw [if_pos rfl] at hres
          have HX : Hid (exX x = xv) := hxv
          have HRS : Hid (ofOut OUT = (x, n, 0)) := hres
          clear hres hxv
          go_wp2_with (first
            | (go_at_call 193; refine (hMx _ _ _ hr).mono ?_; rintro e w2 ⟨rfl, b2⟩; have hr2 := hr.on b2; have hb2 := hb.trans (b2.mono hb.size))
            | (go_at_call 194; refine (hE _ _ _ hr2).mono ?_; rintro e w3 ⟨rfl, b3⟩; have hb3 := hb2.trans b3)
            | (go_at_call 185; refine (hFx _).mono ?_; rintro e w4 ⟨rfl, b4⟩; have hb4 := hb3.trans (b4.mono hb3.size)))
          go_ret3
          refine ⟨?_, hb4⟩
          rw [HRS.out]
          show _ = Ending.returned (.tuple #[exX x, .int .i64 (n : Int), .int .i64 0])
          rw [HX.out]; rfl
        | false =>
          rw [if_neg Bool.false_ne_true] at hres
          have HRS : Hid (ofOut OUT = (noX, 0, 13)) := hres
          clear hres hxv
          go_wp2_with (first
            | (go_at_call 193; refine (hMx _ _ _ hr).mono ?_; rintro e w2 ⟨rfl, b2⟩; have hr2 := hr.on b2; have hb2 := hb.trans (b2.mono hb.size))
            | (go_at_call 194; refine (hE _ _ _ hr2).mono ?_; rintro e w3 ⟨rfl, b3⟩; have hb3 := hb2.trans b3)
            | (go_at_call 185; refine (hFx _).mono ?_; rintro e w4 ⟨rfl, b4⟩; have hb4 := hb3.trans (b4.mono hb3.size)))
          go_ret3
          exact ⟨by rw [HRS.out]; rfl, hb4⟩
      · rw [if_neg hq] at hQ
        have hbo : (b && decide (o = 0)) = false := by
          cases b with
          | false => rfl
          | true => exact decide_eq_false (fun e => hq ⟨rfl, e⟩)
        have hMx := fun w2 vv2 ww2 (h2 : Rdr w2 w.heap.size ⟨V, W, o, b⟩ vv2 ww2) => mayEnd_any h2 (by show o ≤ 4000; omega)
        simp only [hbo] at hMx
        have HRS : Hid (ofOut OUT = (noX, n, 12)) := by show _ = _; rw [← hQ]; rfl
        clear hbo hq hFm hQ hio hiw hbk
        go_wp2_with (first
          | (go_at_call 193; refine (hMx _ _ _ hr).mono ?_; rintro e w2 ⟨rfl, b2⟩; have hb2 := hb.trans (b2.mono hb.size)))
        go_ret3
        exact ⟨by rw [HRS.out]; rfl, hb2⟩
end Go.Proofs.YtccmmkhcacglhaaGreatDoor

/- How many words an expression takes. -/
namespace Go.Proofs.YtccmmkhcacglhaaGreatDoor
open Go.RowKit Go.Lib
set_option linter.unusedSimpArgs false
set_option linter.unusedVariables false

theorem stop_sndP (y : Yd) (n : Nat) : (stopY y n).2 = n := by unfold stopY; split <;> rfl
theorem runY_leP (leaf : Tk → Option Sx) : ∀ (r : List Tk) (y : Yd) (n : Nat), (runY leaf y r n).2 ≤ n + r.length
  | [], y, n => by show (stopY y n).2 ≤ _; rw [stop_sndP]; omega
  | w :: r, y, n => by
    unfold runY
    split
    · have := runY_leP leaf r (stp leaf y w).1 (n + 1)
      rw [List.length_cons]; omega
    · rw [stop_sndP]; omega
theorem take_le {ws : List Wd} (h : ∀ w ∈ ws, OneW w.1 w.2.1) : (takeC (ws.map tkW)).2.1 ≤ ws.length := by
  rw [(take_out h).1]
  have h1 := runY_leP (leafY (valB 0) rsvB) (ws.map tkW) ⟨[], [], 0, false⟩ 0
  have h2 : rnY (leafY (valB 0) rsvB) (ws.map tkW) ⟨[], [], 0, false⟩ 0 = runY (leafY (valB 0) rsvB) ⟨[], [], 0, false⟩ (ws.map tkW) 0 := rfl
  rw [← h2, List.length_map] at h1
  generalize rnY (leafY (valB 0) rsvB) (ws.map tkW) ⟨[], [], 0, false⟩ 0 = O at h1 ⊢
  obtain ⟨o, n⟩ := O
  unfold ofOut
  cases o with
  | none => simp only at h1 ⊢; omega
  | some x =>
    simp only at h1 ⊢
    split
    · show n ≤ _; omega
    · exact Nat.zero_le _
theorem take_kinds {l : List Tk} : (takeC l).2.2 = 0 ∨ ((takeC l).1 = noX ∧ (takeC l).2.1 = 0 ∧ (takeC l).2.2 = 13) ∨ ((takeC l).1 = noX ∧ (takeC l).2.2 = 12) := by
  unfold takeC
  split
  · exact .inr (.inr ⟨rfl, rfl⟩)
  · split
    · exact .inl rfl
    · exact .inr (.inl ⟨rfl, rfl, rfl⟩)
end Go.Proofs.YtccmmkhcacglhaaGreatDoor

/- Rows of the call's own that lie apart from others; an element put in the place of a zero one. -/
namespace Go.Proofs.YtccmmkhcacglhaaGreatDoor
open Go.RowKit Go.Lib
set_option linter.unusedSimpArgs false
set_option linter.unusedVariables false

/-- As OwnK; nothing of it lies in a block that is bad. -/
def OwnB {α : Type} (w : World) (base : Nat) (bad : Nat → Prop) (e k : Nat) (R : (Nat → Prop) → World → α → List Value → Prop) (v : Value) (l : List α) : Prop :=
  ∃ qs : List (List Value), w.ownsRow base e k v l.length qs.flatten ∧ qs.length = l.length ∧ (∀ (i : Nat) (h : i < l.length) (h' : i < qs.length), (qs[i]).length = k ∧ R (fun b => base ≤ b ∧ v.ownBlock ≠ some b ∧ ¬ bad b) w l[i] qs[i]) ∧ ∀ g, v.ownBlock = some g → ¬ bad g
theorem ownB_nil {α : Type} (w : World) (base : Nat) (bad : Nat → Prop) (e k : Nat) (R : (Nat → Prop) → World → α → List Value → Prop) : OwnB w base bad e k R (.slice none 0 0) [] := ⟨[], World.ownsRow_nil w base e k, rfl, fun i h => absurd h (by simp), fun g hg => by simp [Value.ownBlock] at hg⟩
theorem OwnB.keep {α : Type} {w w' : World} {base e k : Nat} {bad bad' : Nat → Prop} {R : (Nat → Prop) → World → α → List Value → Prop} {v : Value} {l : List α} (hR : Kp R) (h : OwnB w base bad e k R v l) (hk : ∀ b, base ≤ b → ¬ bad b → b < w.heap.size → w'.heap[b]? = w.heap[b]? ∧ ¬ bad' b) : OwnB w' base bad' e k R v l := by
  obtain ⟨qs, ho, hl, hr, hg0⟩ := h
  refine ⟨qs, ownsRow_keep ho (fun g hg => ?_), hl, fun i h h' => ⟨(hr i h h').1, hR (hr i h h').2 (fun b hb hlt => ⟨⟨hb.1, hb.2.1, (hk b hb.1 hb.2.2 hlt).2⟩, (hk b hb.1 hb.2.2 hlt).1⟩)⟩, fun g hg => ?_⟩
  · obtain ⟨a, b⟩ := ownsRow_lt ho g hg
    exact (hk g a (hg0 g hg) b).1
  · obtain ⟨a, b⟩ := ownsRow_lt ho g hg
    exact (hk g a (hg0 g hg) b).2
theorem OwnB.on {α : Type} {w w' : World} {base e k : Nat} {bad : Nat → Prop} {R : (Nat → Prop) → World → α → List Value → Prop} {v : Value} {l : List α} (hR : Kp R) (h : OwnB w base bad e k R v l) (hb : Below w.heap.size w w') : OwnB w' base bad e k R v l := h.keep hR (fun b _ hbad hlt => ⟨hb.block b hlt, hbad⟩)
theorem OwnB.fx {α : Type} {w w' : World} {base e k X : Nat} {bad : Nat → Prop} {R : (Nat → Prop) → World → α → List Value → Prop} {v : Value} {l : List α} (hR : Kp R) (h : OwnB w base bad e k R v l) (hf : Fx X w w') (hX : X < base) : OwnB w' base bad e k R v l :=
  h.keep hR (fun b hb hbad hlt => ⟨hf.block b hlt (fun e => by have : b = X := Option.some.inj e; omega), hbad⟩)
theorem OwnB.set {α : Type} {w : World} {base e k : Nat} {bad : Nat → Prop} {R : (Nat → Prop) → World → α → List Value → Prop} {v : Value} {l : List α} (hR : Kp R) (h : OwnB w base bad e k R v l) {X i : Nat} (hX : X < base) (u : Value) : OwnB (w.setCell ⟨X, i, none⟩ u) base bad e k R v l :=
  h.keep hR (fun b hb hbad _ => ⟨Below.heap_setCell _ _ _ _ (fun e => by have : b = X := e; omega), hbad⟩)
theorem OwnB.form {α : Type} {w : World} {base e k : Nat} {bad : Nat → Prop} {R : (Nat → Prop) → World → α → List Value → Prop} {v : Value} {l : List α} (h : OwnB w base bad e k R v l) : ∃ a cap, v = .slice a l.length cap ∧ l.length ≤ cap ∧ cap ≤ maxLen := by
  obtain ⟨qs, ho, _⟩ := h
  rcases ho.2 with ⟨h1, h2⟩ | ⟨g, cap, cur, h1, _, _, h3, h4, _⟩
  · exact ⟨none, 0, by rw [h1, h2], by omega, by simp [maxLen]⟩
  · exact ⟨_, _, h1, h3, h4⟩
theorem OwnB.lt {α : Type} {w : World} {base e k : Nat} {bad : Nat → Prop} {R : (Nat → Prop) → World → α → List Value → Prop} {v : Value} {l : List α} (h : OwnB w base bad e k R v l) : ∀ g, v.ownBlock = some g → base ≤ g ∧ g < w.heap.size := by
  obtain ⟨qs, ho, _⟩ := h
  exact ownsRow_lt ho
/-- The other row has grown. -/
theorem OwnB.other {α : Type} {w w' : World} {base e k : Nat} {u u' : Value} {R : (Nat → Prop) → World → α → List Value → Prop} {v : Value} {l : List α} (hR : Kp R) (h : OwnB w base (fun b => u.ownBlock = some b) e k R v l) (hg : w.grownBy w' u.ownBlock) (hat : u'.ownBlock = u.ownBlock ∨ u'.ownBlock = some w.heap.size) : OwnB w' base (fun b => u'.ownBlock = some b) e k R v l :=
  h.keep hR (fun b hb hbad hlt => ⟨hg.block b hlt (fun e => hbad e.symm), fun q => by
    rcases hat with h | h
    · exact hbad (h ▸ q)
    · rw [h] at q; have : w.heap.size = b := Option.some.inj q; omega⟩)
theorem OwnB.snoc {α : Type} {w w' : World} {base e k lo n : Nat} {bad : Nat → Prop} {R : (Nat → Prop) → World → α → List Value → Prop} {v v' : Value} {l : List α} {p : α} {cs : List Value} {qs : List (List Value)} (hR : Kp R) (hk : cs.length = k)
    (hn : l.length = n) (ho : w.ownsRow base e k v n qs.flatten) (hl : qs.length = l.length) (hr : ∀ (i : Nat) (h : i < l.length) (h' : i < qs.length), (qs[i]).length = k ∧ R (fun b => base ≤ b ∧ v.ownBlock ≠ some b ∧ ¬ bad b) w l[i] qs[i])
    (ho' : w'.ownsRow base e k v' (n + 1) (qs.flatten ++ cs)) (hg : w.grownBy w' v.ownBlock) (hat : v'.ownBlock = v.ownBlock ∨ v'.ownBlock = some w.heap.size)
    (hp : R (fun b => lo ≤ b) w p cs) (hlo : base ≤ lo) (hv : ∀ x, v.ownBlock = some x → x < lo) (hbad : ∀ b, bad b → b < lo ∧ b < w.heap.size) (hvb : ∀ g, v.ownBlock = some g → ¬ bad g) : OwnB w' base bad e k R v' (l ++ [p]) := by
  subst hn
  have key : ∀ b, base ≤ b ∧ v.ownBlock ≠ some b ∧ ¬ bad b → b < w.heap.size → (base ≤ b ∧ v'.ownBlock ≠ some b ∧ ¬ bad b) ∧ w'.heap[b]? = w.heap[b]? := fun b hb hlt => by
    refine ⟨⟨hb.1, fun e => ?_, hb.2.2⟩, hg.block b hlt (fun e => hb.2.1 e.symm)⟩
    rcases hat with h | h
    · exact hb.2.1 (h ▸ e)
    · rw [h] at e; have : w.heap.size = b := Option.some.inj e; omega
  refine ⟨qs ++ [cs], ?_, by simp [hl], fun i h h' => ?_, fun g hg' => ?_⟩
  · rw [List.flatten_append, List.length_append]
    simpa using ho'
  · rcases Nat.lt_or_ge i l.length with hi | hi
    · rw [List.getElem_append_left hi, List.getElem_append_left (by omega)]
      exact ⟨(hr i hi (by omega)).1, hR (hr i hi (by omega)).2 key⟩
    · have : i = l.length := by simp at h; omega
      subst this
      have e1 : (l ++ [p])[l.length] = p := by simp
      have e2 : (qs ++ [cs])[l.length]'h' = cs := by simp [← hl]
      rw [e1, e2]
      exact ⟨hk, hR hp (fun b hb hlt => key b ⟨by omega, fun e => by have := hv b e; omega, fun q => by have := (hbad b q).1; omega⟩ hlt)⟩
  · rcases hat with h | h
    · exact hvb g (h ▸ hg')
    · rw [h] at hg'
      have : w.heap.size = g := Option.some.inj hg'
      intro q
      have := (hbad g q).2
      omega
theorem OwnB.rd {α : Type} {w : World} {base e k : Nat} {bad : Nat → Prop} {R : (Nat → Prop) → World → α → List Value → Prop} {v : Value} {l : List α} (hR : Kp R) (h : OwnB w base bad e k R v l) : RdK (fun b => base ≤ b) w k (R (fun b => base ≤ b) w) l v := by
  obtain ⟨qs, ho, hl, hr, _⟩ := h
  exact OwnK.rd hR ⟨qs, ho, hl, fun i h h' => ⟨(hr i h h').1, hR (hr i h h').2 (fun b hb _ => ⟨⟨hb.1, hb.2.1⟩, rfl⟩)⟩⟩
theorem step_pushB {α : Type} {P : Program} (w : World) {ops : Array Oper} {o : Oper} {a : Act} {K : Act → World → Prop} {Q : Exit → Act → World → Prop} {E : Prop} (hgd : o.guard = none) (s x : Operand) (t : TypeId)
    (ho : o.op = .call { callee := .builtin .append, args := #[s, x], argTypes := #[t, t] })
    (base : Nat) (bad : Nat → Prop) (e : TypeId) (i : TypeInfo) (z : Value) (k bytes : Nat) (ht : P.underlying t = some (.slice e)) (hi : P.info? e = some i) (hz : i.zero = some z)
    (hsize : i.size = k) (hby : i.bytes = bytes) (hzs : z.cells.size = k) {R : (Nat → Prop) → World → α → List Value → Prop} (hR : Kp R)
    (v : Value) (l : List α) (p : α) (cs : List Value) (lo : Nat) (hs : a.eval s = v) (hx : a.eval x = .slice (some ⟨w.heap.size, 0, none⟩) 1 1) (hk : cs.length = k) (h1 : ∀ u ∈ cs, u.oneCell' = true)
    (hown : OwnB w base bad e k R v l) (hp : R (fun b => lo ≤ b) w p cs) (hlo : base ≤ lo) (hv : ∀ x, v.ownBlock = some x → x < lo) (hbad : ∀ b, bad b → b < lo ∧ b < w.heap.size) (hroom : (l.length + 1 + (l.length + 1) / 4 + 192) * bytes ≤ 281474976710656)
    (h63 : l.length + 1 ≤ maxLen) (hbase : base ≤ w.heap.size)
    (h : ∀ v' w', OwnB w' base bad e k R v' (l ++ [p]) → (w.alloc (.cells cs.toArray e)).grownBy w' v.ownBlock → Below base w w' → (v'.ownBlock = v.ownBlock ∨ v'.ownBlock = some (w.alloc (.cells cs.toArray e)).heap.size) → K (a.put o.dst v') w') :
    if Region.wanted o (yielded ops a.tmps) = true then Oper.wp P o a (w.alloc (.cells cs.toArray e)) K Q else E := by
  have hal : Below w.heap.size w (w.alloc (.cells cs.toArray e)) := (Below.refl _ _).alloc (Nat.le_refl _) _
  obtain ⟨qs, ho1, hl1, hr1, hg1⟩ := hown.on hR hal
  refine step_append_at _ hgd s x t t ho base e i z k bytes ht hi hz hsize hby hzs v l.length qs.flatten hs ho1 _ 1 cs hx (src_row ht w cs hk h1) 1 (.inr hroom) (Nat.le_refl _) h63 (Nat.le_trans hbase hal.size) ?_
  intro v' w' hown' hg hat
  refine h v' w' (OwnB.snoc hR hk rfl ho1 hl1 hr1 hown' hg hat (hR hp (fun b hb hlt => ⟨hb, hal.block b hlt⟩)) hlo hv (fun b q => ⟨(hbad b q).1, Nat.lt_of_lt_of_le (hbad b q).2 hal.size⟩) hg1) hg ?_ hat
  exact ((Below.refl base w).alloc hbase _).grown hg (Nat.le_trans hbase hal.size) (fun k hk => (World.ownsRow.lt ho1 k hk).1)
/-- Cells written one behind the other. -/
def putL (w : World) (g : Nat) : Nat → List Value → World
  | _, [] => w
  | o, c :: cs => putL (w.setCell ⟨g, o, none⟩ c) g (o + 1) cs
theorem putL_own : ∀ (cs zs xs ys : List Value) (w : World) (base e k : Nat) (g n cap o : Nat), zs.length = cs.length → xs.length = o → w.ownsRow base e k (.slice (some ⟨g, 0, none⟩) n cap) n (xs ++ zs ++ ys) → (putL w g o cs).ownsRow base e k (.slice (some ⟨g, 0, none⟩) n cap) n (xs ++ cs ++ ys)
  | [], zs, xs, ys, w, base, e, k, g, n, cap, o, hz, hx, h => by
    have : zs = [] := List.eq_nil_of_length_eq_zero (by simpa using hz)
    subst this
    exact h
  | c :: cs, [], xs, ys, w, base, e, k, g, n, cap, o, hz, hx, h => by simp at hz
  | c :: cs, z :: zs, xs, ys, w, base, e, k, g, n, cap, o, hz, hx, h => by
    have h1 := (World.ownsRow.stored h o c).1
    have e1 : (xs ++ z :: zs ++ ys).set o c = (xs ++ [c]) ++ zs ++ ys := by
      subst hx
      simp
    rw [e1] at h1
    have h2 := putL_own cs zs (xs ++ [c]) ys _ base e k g n cap (o + 1) (by simpa using hz) (by simp [hx]) h1
    have e2 : xs ++ [c] ++ cs ++ ys = xs ++ (c :: cs) ++ ys := by simp
    rw [e2] at h2
    exact h2
theorem putL_heap : ∀ (cs : List Value) (w : World) (g o k : Nat), k ≠ g → (putL w g o cs).heap[k]? = w.heap[k]?
  | [], w, g, o, k, h => rfl
  | c :: cs, w, g, o, k, h => by
    unfold putL
    rw [putL_heap cs _ g (o + 1) k h]
    exact Below.heap_setCell _ _ _ _ (fun e => h e)
theorem putL_size : ∀ (cs : List Value) (w : World) (g o : Nat), (putL w g o cs).heap.size = w.heap.size
  | [], w, g, o => rfl
  | c :: cs, w, g, o => by unfold putL; rw [putL_size cs _ g (o + 1)]; simp
theorem putL_below {B : Nat} {u : World} : ∀ (cs : List Value) (w : World) (g o : Nat), Below B u w → B ≤ g → Below B u (putL w g o cs)
  | [], w, g, o, h, hg => h
  | c :: cs, w, g, o, h, hg => putL_below cs _ g (o + 1) (h.setCell hg c) hg
end Go.Proofs.YtccmmkhcacglhaaGreatDoor
