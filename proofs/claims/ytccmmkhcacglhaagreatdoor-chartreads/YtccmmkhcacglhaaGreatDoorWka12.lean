import Derived.Test.YtccmmkhcacglhaaGreatDoorWka11
import Derived.Test.YtccmmkhcacglhaaGreatDoorWkc18
import Derived.Test.YtccmmkhcacglhaaGreatDoorRows
import Derived.Test.YtccmmkhcacglhaaGreatDoorWkc01
import Derived.Test.YtccmmkhcacglhaaGreatDoorWkc02
import Derived.Deep.RegionHeld
import Derived.Deep.DrawnRows
import Derived.Test.YtccmmkhcacglhaaGreatDoorWka06

/- What tumbrellaw06.Ours does: the program's chart as the document's. -/
namespace Go.Proofs.YtccmmkhcacglhaaGreatDoor
open Go.RowKit Go.Lib
set_option linter.unusedSimpArgs false
set_option linter.unusedVariables false
attribute [local go_sem ↓] Go.wp_at_zero Go.wp_at_succ

theorem our_res {w4 : World} {R : Nat} {a b c d e f : Value} {tmps : Array Value} (hR : Bn w4 R [a, b, c, d, e, f]) (ht : tmps.getD 2 undef = .pointer (some ⟨R, 0, none⟩)) : (results Tryz.f13 tmps).run Tryz.prog w4 = .ok (.agg #[a, b, c, d, e, f]) w4 := by
  have ht' : tmps[2]?.getD undef = .pointer (some ⟨R, 0, none⟩) := by simpa using ht
  have c0 := (hR 0 _ rfl).1
  have c1 := (hR 1 _ rfl).1
  have c2 := (hR 2 _ rfl).1
  have c3 := (hR 3 _ rfl).1
  have c4 := (hR 4 _ rfl).1
  have c5 := (hR 5 _ rfl).1
  simp [results, Tryz.results13, go_sem, ht', c0, c1, c2, c3, c4, c5]
set_option maxRecDepth 100000 in
set_option maxHeartbeats 16000000 in
theorem ours_ch {ok : Nat → Prop} {w : World} {d : Nat} {c : ChG d} {v : Value} (h : RdC ok w d c v) (hok : ∀ t ∈ c.2.2.2, OkS d t) (hl1 : c.2.2.2.length ≤ 3001) (hl2 : c.2.2.1.length ≤ 3001) :
    Calls Tryz.prog 13 #[v] w fun e w' => ∃ u, e = .returned u ∧ RdD (fun b => w.heap.size ≤ b) w' d c u ∧ Below w.heap.size w w' := by
  obtain ⟨iv, hiv, hiv0, hiv1, hiv2⟩ := info_parts Tryz.infoVarD
  obtain ⟨sv, ss, rfl, hv, hs⟩ := h
  obtain ⟨a, cap, rfl, hlc, hcm⟩ := hv.form
  obtain ⟨p4, p6, rfl, _⟩ := hs.form
  unfold maxLen at hcm
  have HV := mkHid hv
  have hcall := fun w1 (b1 : Below w.heap.size w w1) => os_any d ok w1 c.2.2.2 _ (hs.stay (kp_st d) (fun k hk hl => ⟨hk, b1.block k hl⟩)) hok hl1
  obtain ⟨nv, hnv⟩ : ∃ nv, sV c.1.1 = .string nv := ⟨_, rfl⟩
  obtain ⟨n, hn⟩ : ∃ n, c.2.2.1.length = n := ⟨_, rfl⟩
  obtain ⟨i, hi⟩ : ∃ n, c.2.2.2.length = n := ⟨_, rfl⟩
  obtain ⟨vn, hvn⟩ : ∃ x, c.2.1 = x := ⟨_, rfl⟩
  obtain ⟨ln, hln⟩ : ∃ x, c.1.2.1 = x := ⟨_, rfl⟩
  obtain ⟨co, hco⟩ : ∃ x, c.1.2.2 = x := ⟨_, rfl⟩
  rw [hnv, hvn, hln, hco, hi, hn]
  rw [hi] at hcall
  rw [hn] at hlc hl2
  have HN : Hid (c.2.2.1.length = n) := hn
  have HR : Hid (∀ (ok' : Nat → Prop) (w' : World) (a' : Option Addr) (c' : Nat) (b' : Option Addr) (e' : Nat), RdK ok' w' 4 (rVarD ok' w') c.2.2.1 (.slice a' n c') → RdK ok' w' 11 (rStD d ok' w') c.2.2.2 (.slice b' i e') → RdD ok' w' d c (.agg #[.string nv, .int .i64 vn, .int .i64 ln, .int .i64 co, .slice a' n c', .slice b' i e'])) := by
    intro ok' w' a' c' b' e' h1 h2
    refine ⟨_, _, ?_, h1, h2⟩
    rw [show sD c.1.1 = sV c.1.1 from rfl, hnv, hvn, hln, hco]
  have hcall2 : ∀ w1, Below w.heap.size w w1 → Calls Tryz.prog 39 #[.slice p4 i p6] w1 fun e w' => ∃ iq ic, e = .returned (.slice iq i ic) ∧ RdK (fun b => w1.heap.size ≤ b) w' 11 (rStD d (fun b => w1.heap.size ≤ b) w') c.2.2.2 (.slice iq i ic) ∧ Below w1.heap.size w1 w' := fun w1 b1 => (hcall w1 b1).mono (fun e w' hh => by
    obtain ⟨u, h1, h2, h3⟩ := hh
    obtain ⟨iq, ic, rfl, _⟩ := h2.form
    rw [hi] at h1 h2
    exact ⟨iq, ic, h1, h2, h3⟩)
  clear hcall hv hs hok hl1 hn hi hnv hvn hln hco
  have hal : Below w.heap.size w ((w.alloc (.cells #[.string nv, .int .i64 vn, .int .i64 ln, .int .i64 co, .slice a n cap, .slice p4 i p6] 28)).alloc (.cells #[.string ⟨#[]⟩, .int .i64 0, .int .i64 0, .int .i64 0, .slice none 0 0, .slice none 0 0] 35)) := ((Below.refl w.heap.size w).alloc (Nat.le_refl _) _).alloc (by simp) _
  have hX : Bn ((w.alloc (.cells #[.string nv, .int .i64 vn, .int .i64 ln, .int .i64 co, .slice a n cap, .slice p4 i p6] 28)).alloc (.cells #[.string ⟨#[]⟩, .int .i64 0, .int .i64 0, .int .i64 0, .slice none 0 0, .slice none 0 0] 35)) w.heap.size [.string nv, .int .i64 vn, .int .i64 ln, .int .i64 co, .slice a n cap, .slice p4 i p6] := (Bn.new w [.string nv, .int .i64 vn, .int .i64 ln, .int .i64 co, .slice a n cap, .slice p4 i p6] 28 _ rfl).on ((Below.refl _ _).alloc (Nat.le_refl _) _)
  have hR : Bn ((w.alloc (.cells #[.string nv, .int .i64 vn, .int .i64 ln, .int .i64 co, .slice a n cap, .slice p4 i p6] 28)).alloc (.cells #[.string ⟨#[]⟩, .int .i64 0, .int .i64 0, .int .i64 0, .slice none 0 0, .slice none 0 0] 35)) (w.heap.size + 1) [.string ⟨#[]⟩, .int .i64 0, .int .i64 0, .int .i64 0, .slice none 0 0, .slice none 0 0] := Bn.new (w.alloc (.cells #[.string nv, .int .i64 vn, .int .i64 ln, .int .i64 co, .slice a n cap, .slice p4 i p6] 28)) [.string ⟨#[]⟩, .int .i64 0, .int .i64 0, .int .i64 0, .slice none 0 0, .slice none 0 0] 35 _ (by simp)
  have hsz : ((w.alloc (.cells #[.string nv, .int .i64 vn, .int .i64 ln, .int .i64 co, .slice a n cap, .slice p4 i p6] 28)).alloc (.cells #[.string ⟨#[]⟩, .int .i64 0, .int .i64 0, .int .i64 0, .slice none 0 0, .slice none 0 0] 35)).heap.size = w.heap.size + 2 := by simp
  go_enter Tryz.func13, Tryz.ntmps13
  go_upto_region 1 with fail
  generalize ((w.alloc (.cells #[.string nv, .int .i64 vn, .int .i64 ln, .int .i64 co, .slice a n cap, .slice p4 i p6] 28)).alloc (.cells #[.string ⟨#[]⟩, .int .i64 0, .int .i64 0, .int .i64 0, .slice none 0 0, .slice none 0 0] 35)) = wx at *
  obtain ⟨S, hS⟩ : ∃ S, w.heap.size = S := ⟨_, rfl⟩
  rw [hS] at hX hR hsz ⊢
  have HS : Hid (w.heap.size = S) := hS
  have hbx : Below w.heap.size w wx := hal
  have hSw : w.heap.size ≤ S := by omega
  clear hS hal
  go_cut [3] (fun u3 wc => ∃ Q iq ic, u3 = .pointer (some ⟨Q, 0, none⟩) ∧ S + 2 ≤ Q ∧ Bn wc Q [.string nv, .int .i64 vn, .int .i64 ln, .int .i64 co, .slice none 0 0, .slice iq i ic] ∧ RdK (fun k => S + 2 ≤ k ∧ k ≠ Q) wc 11 (rStD d (fun k => S + 2 ≤ k ∧ k ≠ Q) wc) c.2.2.2 (.slice iq i ic) ∧ Below (S + 2) wx wc)
  case first =>
    have hbz : Below w.heap.size w (wx.alloc (.cells #[.string ⟨#[]⟩, .int .i64 0, .int .i64 0, .int .i64 0, .slice none 0 0, .slice none 0 0] 35)) := hbx.alloc hbx.size _
    have hZ0 : Bn (wx.alloc (.cells #[.string ⟨#[]⟩, .int .i64 0, .int .i64 0, .int .i64 0, .slice none 0 0, .slice none 0 0] 35)) (S + 2) [.string ⟨#[]⟩, .int .i64 0, .int .i64 0, .int .i64 0, .slice none 0 0, .slice none 0 0] := Bn.new wx [.string ⟨#[]⟩, .int .i64 0, .int .i64 0, .int .i64 0, .slice none 0 0, .slice none 0 0] 35 _ hsz.symm
    have hzx : (wx.alloc (.cells #[.string ⟨#[]⟩, .int .i64 0, .int .i64 0, .int .i64 0, .slice none 0 0, .slice none 0 0] 35)).heap.size = S + 3 := by simp; omega
    have n1 : S ≠ S + 2 := by omega
    obtain ⟨X0, _⟩ := hX 0 _ rfl
    obtain ⟨X1, _⟩ := hX 1 _ rfl
    obtain ⟨X2, _⟩ := hX 2 _ rfl
    obtain ⟨X3, _⟩ := hX 3 _ rfl
    obtain ⟨X5, _⟩ := hX 5 _ rfl
    clear HV HR hR
    go_region_held_law (fun w' => w'.cell? ⟨S, 0, none⟩ = some (.string nv) ∧ w'.cell? ⟨S, 1, none⟩ = some (.int .i64 vn) ∧ w'.cell? ⟨S, 2, none⟩ = some (.int .i64 ln) ∧ w'.cell? ⟨S, 3, none⟩ = some (.int .i64 co) ∧ w'.cell? ⟨S, 5, none⟩ = some (.slice p4 i p6))
      (((refine ⟨?_, ?_, ?_, ?_, ?_⟩ <;> (repeat (first | (with_reducible exact X0) | (with_reducible exact X1) | (with_reducible exact X2) | (with_reducible exact X3) | (with_reducible exact X5) | (with_reducible exact Y0) | (with_reducible exact Y1) | (with_reducible exact Y2) | (with_reducible exact Y3) | (with_reducible exact Y5) | (with_reducible refine cell_al ?_) | (with_reducible refine cell_dr ?_) | (with_reducible refine cell_far4 (ne_pt n1) ?_) | (with_reducible refine cell_far4 (ne_pt n2) ?_))) <;> done)))
      (first
        | (go_at_call 39; (with_reducible refine (hcall2 _ hbx.drew).mono ?_); rintro e w1 ⟨iq, ic, rfl, hr1, b1⟩; have bw : Below wx.heap.size wx w1 := ((Below.refl _ wx).drew).trans b1; have n2 : S ≠ w1.heap.size := (by have := bw.size; omega); have kc : ∀ p u, wx.cell? p = some u → w1.cell? p = some u := fun p u hp => (by rw [bw.cell (World.block_lt_of_cell? wx _ hp)]; exact hp); have Y0 := kc _ _ X0; have Y1 := kc _ _ X1; have Y2 := kc _ _ X2; have Y3 := kc _ _ X3; have Y5 := kc _ _ X5)
        | (go_at_call 39; (with_reducible refine (hcall2 _ hbz.drew).mono ?_); rintro e w1 ⟨iq, ic, rfl, hr1, b1⟩; have bz : Below (wx.alloc (.cells #[.string ⟨#[]⟩, .int .i64 0, .int .i64 0, .int .i64 0, .slice none 0 0, .slice none 0 0] 35)).heap.size (wx.alloc (.cells #[.string ⟨#[]⟩, .int .i64 0, .int .i64 0, .int .i64 0, .slice none 0 0, .slice none 0 0] 35)) w1 := ((Below.refl _ (wx.alloc (.cells #[.string ⟨#[]⟩, .int .i64 0, .int .i64 0, .int .i64 0, .slice none 0 0, .slice none 0 0] 35))).drew).trans b1; have bw : Below wx.heap.size wx w1 := ((Below.refl wx.heap.size wx).alloc (Nat.le_refl _) (.cells #[.string ⟨#[]⟩, .int .i64 0, .int .i64 0, .int .i64 0, .slice none 0 0, .slice none 0 0] 35)).trans (bz.mono (by rw [hsz, hzx]; omega)); have kc : ∀ p u, wx.cell? p = some u → w1.cell? p = some u := fun p u hp => (by rw [bw.cell (World.block_lt_of_cell? wx _ hp)]; exact hp); have Y0 := kc _ _ X0; have Y1 := kc _ _ X1; have Y2 := kc _ _ X2; have Y3 := kc _ _ X3; have Y5 := kc _ _ X5; have hZ := hZ0.on bz; obtain ⟨z0, f0⟩ := hZ 0 _ rfl; obtain ⟨z1, f1⟩ := hZ 1 _ rfl; obtain ⟨z2, f2⟩ := hZ 2 _ rfl; obtain ⟨z3, f3⟩ := hZ 3 _ rfl; obtain ⟨z4, f4⟩ := hZ 4 _ rfl; obtain ⟨z5, f5⟩ := hZ 5 _ rfl)
        | fail)
    · have bw2 : Below (S + 2) wx w1 := by rw [← hsz]; exact bw
      have hs1 : S + 2 ≤ w1.heap.size := by have := bw.size; omega
      have hr2 := hr1.stay (kp_stD d) (ok' := fun k => S + 2 ≤ k ∧ k ≠ w1.heap.size) (w' := w1.alloc (.cells #[.string nv, .int .i64 vn, .int .i64 ln, .int .i64 co, .slice none 0 0, .slice iq i ic] 35)) (fun k hk hl => ⟨⟨by have hk' : wx.heap.size ≤ k := hk; omega, by omega⟩, ((Below.refl w1.heap.size w1).alloc (Nat.le_refl _) _).block k hl⟩)
      go_wp2
      go_meet
      case rel => exact ⟨w1.heap.size, iq, ic, rfl, hs1, Bn.new w1 [.string nv, .int .i64 vn, .int .i64 ln, .int .i64 co, .slice none 0 0, .slice iq i ic] 35 _ rfl, hr2, bw2.alloc hs1 _⟩
    · have bw2 : Below (S + 2) wx w1 := by rw [← hsz]; exact bw
      have hQ2 := ((((((hZ.set (i := 0) (by simp) (.string nv)).set (i := 1) (by simp) (.int .i64 vn)).set (i := 2) (by simp) (.int .i64 ln)).set (i := 3) (by simp) (.int .i64 co)).set (i := 4) (by simp) (.slice none 0 0)).set (i := 5) (by simp) (.slice iq i ic))
      have hb2 := putL_below [.string nv, .int .i64 vn, .int .i64 ln, .int .i64 co, .slice none 0 0, .slice iq i ic] w1 (S + 2) 0 bw2 (Nat.le_refl _)
      have hr2 := hr1.stay (kp_stD d) (ok' := fun k => S + 2 ≤ k ∧ k ≠ S + 2) (w' := putL w1 (S + 2) 0 [.string nv, .int .i64 vn, .int .i64 ln, .int .i64 co, .slice none 0 0, .slice iq i ic]) (fun k hk hl => ⟨by have hk' : (wx.alloc (.cells #[.string ⟨#[]⟩, .int .i64 0, .int .i64 0, .int .i64 0, .slice none 0 0, .slice none 0 0] 35)).heap.size ≤ k := hk; omega, putL_heap _ _ _ _ _ (by have hk' : (wx.alloc (.cells #[.string ⟨#[]⟩, .int .i64 0, .int .i64 0, .int .i64 0, .slice none 0 0, .slice none 0 0] 35)).heap.size ≤ k := hk; omega)⟩)
      go_wp2
      go_meet
      case rel => exact ⟨S + 2, iq, ic, rfl, Nat.le_refl _, hQ2, hr2, hb2⟩
  case rest =>
    obtain ⟨Q, iq, ic, rfl, hQ, hQb, hQr, hbq⟩ := hcut
    have hXc := hX.blk (hbq.block S (by omega))
    have hRc := hR.blk (hbq.block (S + 1) (by omega))
    have hbw := hbx.trans (hbq.mono (by omega))
    obtain ⟨wk, hwk⟩ : ∃ x, x = wc := ⟨_, rfl⟩
    subst hwk
    have hql : Q < wk.heap.size := hQb.lt
    have hws := hXc.lt
    have hwr := hRc.lt
    obtain ⟨x4, _⟩ := hXc 4 _ rfl
    go_wp2
    go_loopw [18] (fun ix wr => ∃ (j : Nat) (sl2 : Value), j ≤ n ∧ ix = .int .i64 (j : Int) ∧ Bn wr Q [.string nv, .int .i64 vn, .int .i64 ln, .int .i64 co, sl2, .slice iq i ic] ∧ OwnB wr wk.heap.size (fun _ => False) 73 4 rVarD sl2 (c.2.2.1.take j) ∧ Fx Q wk wr) (fun ix _ => n - (RowKit.intOf ix).toNat)
    case atStart => exact ⟨0, _, Nat.zero_le _, rfl, hQb, ownB_nil _ _ _ _ _ _, Fx.refl _ _⟩
    case round =>
      clear x4
      obtain ⟨j, sl2, hj, rfl, hQB, hRow, hF⟩ := hrel
      obtain ⟨acj, hacj⟩ : ∃ acj, c.2.2.1.take j = acj := ⟨_, rfl⟩
      have hlj : acj.length = j := by rw [← hacj, List.length_take, HN.out]; omega
      rw [hacj] at hRow
      have HACJ : Hid (c.2.2.1.take j = acj) := hacj
      clear hacj
      obtain ⟨ra, rc, rfl, hrl, hrm⟩ := hRow.form
      rw [hlj] at hRow hQB hrl
      have hXr := hXc.fx hF (by omega)
      have hFs := hF.size
      have hbr : Below w.heap.size w wr := hF.bel hbw (by omega) (Nat.le_refl _)
      by_cases hjl : j < n
      · have hjt : j < c.2.2.1.length := by rw [HN.out]; exact hjl
        obtain ⟨b, off, rfl, hbl, hc⟩ := varQ_at HV.out j hjt
        obtain ⟨q, hq⟩ : ∃ q, c.2.2.1[j] = q := ⟨_, rfl⟩
        rw [hq] at hc
        obtain ⟨sn, sv, sl, sc, hsv⟩ : ∃ sn sv sl sc, varV q = [.string sn, .int .i64 sv, .int .i64 sl, .int .i64 sc] := ⟨_, _, _, _, rfl⟩
        rw [hsv] at hc
        have hp : rVarD (fun b => wr.heap.size ≤ b) wr q [.string sn, .int .i64 sv, .int .i64 sl, .int .i64 sc] := hsv.symm
        have HQ : Hid (c.2.2.1[j] = q) := hq
        clear hsv hq
        have C0 := (hbr.cell (p := ⟨b, off + j * 4 + 0, none⟩) hbl).trans (hc 0 _ rfl)
        have C1 := (hbr.cell (p := ⟨b, off + j * 4 + 1, none⟩) hbl).trans (hc 1 _ rfl)
        have C2 := (hbr.cell (p := ⟨b, off + j * 4 + 2, none⟩) hbl).trans (hc 2 _ rfl)
        have C3 := (hbr.cell (p := ⟨b, off + j * 4 + 3, none⟩) hbl).trans (hc 3 _ rfl)
        rw [Nat.add_zero] at C0
        clear hc
        obtain ⟨P4, _⟩ := hXr 4 _ rfl
        obtain ⟨k4, z4⟩ := hQB 4 _ rfl
        have i3 : (j : Int) < (n : Int) := by omega
        have i4 : (0 : Int) ≤ (j : Int) := by omega
        have hali := (Below.refl wr.heap.size wr).alloc (Nat.le_refl _) (.cells #[.string sn, .int .i64 sv, .int .i64 sl, .int .i64 sc] 73)
        have hQa := hQB.on hali
        obtain ⟨m4, o4⟩ := hQa 4 _ rfl
        go_upto_region 5 with fail
        go_region_law (first
          | (refine step_pushB wr.drew rfl _ _ 32 rfl wk.heap.size (fun _ => False) 73 iv (.agg #[.string ⟨#[]⟩, .int .i64 0, .int .i64 0, .int .i64 0]) 4 40 Tryz.underlying32 hiv hiv0 hiv1 hiv2 rfl kp_varD (.slice ra j rc) acj q [.string sn, .int .i64 sv, .int .i64 sl, .int .i64 sc] wr.heap.size rfl rfl rfl (by simp [Value.oneCell']) hRow hp hFs (fun x hx => (hRow.lt x hx).2) (fun b hb => hb.elim) (by omega) (by unfold maxLen; omega) hFs ?_; intro vb wb hOb2 hgb2 hbb hat; have hBb := hQB.blk (hbb.block _ hql); obtain ⟨m5, n5⟩ := hBb 4 _ rfl; obtain ⟨vba, vbc, hvb, hvbl, hvbm⟩ := hOb2.form; rw [List.length_append, List.length_singleton, hlj] at hvb; subst hvb)
          | fail)
        all_goals (
          have hBc := hBb.set (i := 4) (by simp) (.slice vba (j + 1) vbc)
          have hRc2 := hOb2.set kp_varD (X := Q) (i := 4) hql (.slice vba (j + 1) vbc)
          have hFc := ((hF.drew).andD hbb (Nat.le_refl _)).setX (i := 4) (.slice vba (j + 1) vbc)
          have hac2 : c.2.2.1.take (j + 1) = acj ++ [q] := by rw [List.take_succ_eq_append_getElem hjt, HACJ.out, HQ.out]
          clear hQa m4 o4 hali hgb2 hbb hat hBb m5 n5 hOb2 k4 z4 P4 C0 C1 C2 C3
          go_wp2
          go_roundw
          case rel => exact ⟨j + 1, _, hjl, by go_num, hBc, by rw [hac2]; exact hRc2, hFc⟩
          case measure => simp [RowKit.intOf]; omega)
      · have i3 : ¬ (j : Int) < (n : Int) := by omega
        have hjn : j = n := by omega
        subst hjn
        have hfull : acj = c.2.2.1 := by rw [← HACJ.out]; exact List.take_of_length_le (by rw [HN.out]; omega)
        have hRr := hRc.fx hF (by omega)
        have hS2 := HS.out
        have hvars := (hRow.rd kp_varD).stay kp_varD (ok' := fun b => S + 2 ≤ b) (w' := putL wr (S + 1) 0 [.string nv, .int .i64 vn, .int .i64 ln, .int .i64 co, .slice ra j rc, .slice iq i ic]) (fun b hb hl => ⟨by omega, putL_heap _ _ _ _ _ (by omega)⟩)
        rw [hfull] at hvars
        have hstates := hQr.stay (kp_stD d) (ok' := fun b => S + 2 ≤ b) (w' := putL wr (S + 1) 0 [.string nv, .int .i64 vn, .int .i64 ln, .int .i64 co, .slice ra j rc, .slice iq i ic]) (fun b hb hl => ⟨hb.1, (putL_heap _ _ _ _ _ (by omega)).trans (hF.block b hl (fun e => hb.2 (Option.some.inj e)))⟩)
        have hfin := HR.out _ _ _ _ _ _ (hvars.stay kp_varD (ok' := fun b => w.heap.size ≤ b) (fun b hb hl => ⟨by omega, rfl⟩)) (hstates.stay (kp_stD d) (ok' := fun b => w.heap.size ≤ b) (fun b hb hl => ⟨by omega, rfl⟩))
        have hbz := putL_below [.string nv, .int .i64 vn, .int .i64 ln, .int .i64 co, .slice ra j rc, .slice iq i ic] wr (S + 1) 0 hbr (by omega)
        clear hS2
        obtain ⟨t0, _⟩ := hQB 0 _ rfl
        obtain ⟨r0, f0⟩ := hRr 0 _ rfl
        obtain ⟨t1, _⟩ := hQB 1 _ rfl
        obtain ⟨r1, f1⟩ := hRr 1 _ rfl
        obtain ⟨t2, _⟩ := hQB 2 _ rfl
        obtain ⟨r2, f2⟩ := hRr 2 _ rfl
        obtain ⟨t3, _⟩ := hQB 3 _ rfl
        obtain ⟨r3, f3⟩ := hRr 3 _ rfl
        obtain ⟨t4, _⟩ := hQB 4 _ rfl
        obtain ⟨r4, f4⟩ := hRr 4 _ rfl
        obtain ⟨t5, _⟩ := hQB 5 _ rfl
        obtain ⟨r5, f5⟩ := hRr 5 _ rfl
        have hRz := (((((hRr.set (i := 0) (by simp) (.string nv)).set (i := 1) (by simp) (.int .i64 vn)).set (i := 2) (by simp) (.int .i64 ln)).set (i := 3) (by simp) (.int .i64 co)).set (i := 4) (by simp) (.slice ra j rc)).set (i := 5) (by simp) (.slice iq i ic)
        go_wp2
        exact bodyPost_ret (our_res hRz rfl) rfl ⟨_, rfl, hfin, hbz⟩
end Go.Proofs.YtccmmkhcacglhaaGreatDoor

/- What the document's Same does. -/
namespace Go.Proofs.YtccmmkhcacglhaaGreatDoor
open Go.RowKit Go.Lib
set_option linter.unusedSimpArgs false
set_option linter.unusedVariables false
attribute [local go_sem ↓] Go.wp_at_zero Go.wp_at_succ

def SameC (d : Nat) : Prop := ∀ (ok ok' : Nat → Prop) (e : Nat) (t : T d) (u : T e) (v v' : Value) (w : World), RdT ok w d t v → RdT ok' w e u v' →
  Calls Tryz.prog 121 #[v, v'] w fun r w' => r = .returned (.bool (samC d e t u)) ∧ Below w.heap.size w w'

set_option maxRecDepth 100000 in
set_option maxHeartbeats 4000000 in
theorem same_step (d : Nat) (IH : SameC d) : SameC (d + 1) := by
  intro ok ok' e t u v v' w h h'
  match e, u, h' with
  | 0, u, _ => exact Empty.elim u
  | e + 1, u, h' =>
  obtain ⟨k, n, s, ps, rfl⟩ := T.open t
  obtain ⟨sl, rfl, hp⟩ := rdT_mk.1 h
  obtain ⟨a, cap, rfl, hlc, hcm, hcell⟩ := hp.form
  obtain ⟨k', n', s', qs, rfl⟩ := T.open u
  obtain ⟨sl', rfl, hp'⟩ := rdT_mk.1 h'
  obtain ⟨a', cap', rfl, hlc', hcm', hcell'⟩ := hp'.form
  rw [samC_mk]
  have HC : Hid (∀ (i : Nat) (hi : i < ps.length), ∃ b off c0 c1 c2 c3, a = some ⟨b, off, none⟩ ∧ b < w.heap.size ∧ RdT ok w d ps[i] (.agg #[c0, c1, c2, c3]) ∧ w.cell? ⟨b, off + i * 4, none⟩ = some c0 ∧ w.cell? ⟨b, off + i * 4 + 1, none⟩ = some c1 ∧ w.cell? ⟨b, off + i * 4 + 2, none⟩ = some c2 ∧ w.cell? ⟨b, off + i * 4 + 3, none⟩ = some c3) := hcell
  have HC' : Hid (∀ (i : Nat) (hi : i < qs.length), ∃ b off c0 c1 c2 c3, a' = some ⟨b, off, none⟩ ∧ b < w.heap.size ∧ RdT ok' w e qs[i] (.agg #[c0, c1, c2, c3]) ∧ w.cell? ⟨b, off + i * 4, none⟩ = some c0 ∧ w.cell? ⟨b, off + i * 4 + 1, none⟩ = some c1 ∧ w.cell? ⟨b, off + i * 4 + 2, none⟩ = some c2 ∧ w.cell? ⟨b, off + i * 4 + 3, none⟩ = some c3) := hcell'
  clear hcell h hp hcell' h' hp'
  have hb0 := ((Below.refl w.heap.size w).alloc (Nat.le_refl _) (.cells #[.int .i64 k, .int .i64 n, .string s, .slice a ps.length cap] 132)).alloc (by simp) (.cells #[.int .i64 k', .int .i64 n', .string s', .slice a' qs.length cap'] 132)
  by_cases c1 : k = k'
  case neg =>
    have f1 : (k != k') = true := by simpa using c1
    rw [decide_eq_false c1]
    clear HC HC'
    go_enter Tryz.func121, Tryz.ntmps121
    go_wp2
    go_ret
    exact ⟨ret_bool (by simp), hb0⟩
  by_cases c2 : n = n'
  case neg =>
    have f2 : (n != n') = true := by simpa using c2
    subst c1
    rw [decide_eq_false c2]
    clear HC HC'
    go_enter Tryz.func121, Tryz.ntmps121
    go_wp2
    go_ret
    exact ⟨ret_bool (by simp), hb0⟩
  by_cases c3 : s = s'
  case neg =>
    have f3 := bytes_ne c3
    subst c1 c2
    rw [decide_eq_false c3]
    clear HC HC'
    go_enter Tryz.func121, Tryz.ntmps121
    go_wp2
    go_ret
    exact ⟨ret_bool (by simp), hb0⟩
  subst c1 c2 c3
  by_cases c4 : ps.length = qs.length
  case neg =>
    have f4 : ((ps.length : Int) != (qs.length : Int)) = true := by simp; omega
    rw [decide_eq_false c4]
    clear HC HC'
    go_enter Tryz.func121, Tryz.ntmps121
    go_wp2
    go_ret
    exact ⟨ret_bool (by simp), hb0⟩
  rw [decide_eq_true c4, decide_eq_true rfl, decide_eq_true rfl, decide_eq_true rfl]
  simp only [Bool.true_and]
  obtain ⟨V, hV⟩ : ∃ V, allz (samC d e) ps qs = V := ⟨_, rfl⟩
  rw [hV]
  have HV : Hid (allz (samC d e) (ps.drop 0) (qs.drop 0) = V) := hV
  have HQ : Hid (ps.length = qs.length) := c4
  have f4 : ((ps.length : Int) != (qs.length : Int)) = false := by rw [c4]; simp
  clear hV c4
  go_enter Tryz.func121, Tryz.ntmps121
  go_wp2
  go_loopw [37] (fun i wr => ∃ (j : Nat), j ≤ ps.length ∧ i = .int .i64 (j : Int) ∧ Hid (allz (samC d e) (ps.drop j) (qs.drop j) = V) ∧ At4 wr w.heap.size (.int .i64 k) (.int .i64 n) (.string s) (.slice a ps.length cap) ∧ At4 wr (w.heap.size + 1) (.int .i64 k) (.int .i64 n) (.string s) (.slice a' qs.length cap') ∧ Below w.heap.size w wr) (fun i _ => ps.length - (RowKit.intOf i).toNat)
  case atStart => exact ⟨0, Nat.zero_le _, rfl, HV, (At4.new w (.int .i64 k) (.int .i64 n) (.string s) (.slice a ps.length cap) 132).keepB (B := w.heap.size + 1) ((Below.refl _ _).alloc (by simp) _) (by omega), At4.newAt _ _ _ _ _ _ _ (by simp), hb0⟩
  case round =>
    obtain ⟨j, hj, rfl, hal, hA, hA', hb⟩ := hrel
    obtain ⟨y0, y1, y2, y3⟩ := id hA
    obtain ⟨z0, z1, z2, z3⟩ := id hA'
    have hlq := HQ.out
    by_cases hlt : j < ps.length
    · obtain ⟨b, off, c0, c1, c2, c3, rfl, hbl, hr, k0, k1, k2, k3⟩ := HC.out j hlt
      obtain ⟨b', off', d0, d1, d2, d3, rfl, hbl', hr', l0, l1, l2, l3⟩ := HC'.out j (by omega)
      have C0 := (hb.cell (p := ⟨b, off + j * 4, none⟩) hbl).trans k0
      have C1 := (hb.cell (p := ⟨b, off + j * 4 + 1, none⟩) hbl).trans k1
      have C2 := (hb.cell (p := ⟨b, off + j * 4 + 2, none⟩) hbl).trans k2
      have C3 := (hb.cell (p := ⟨b, off + j * 4 + 3, none⟩) hbl).trans k3
      have D0 := (hb.cell (p := ⟨b', off' + j * 4, none⟩) hbl').trans l0
      have D1 := (hb.cell (p := ⟨b', off' + j * 4 + 1, none⟩) hbl').trans l1
      have D2 := (hb.cell (p := ⟨b', off' + j * 4 + 2, none⟩) hbl').trans l2
      have D3 := (hb.cell (p := ⟨b', off' + j * 4 + 3, none⟩) hbl').trans l3
      have hcall := IH ok ok' e ps[j] (qs[j]'(by omega)) _ _ wr.drew (RdT.below hb.drew (Nat.le_refl _) hr) (RdT.below hb.drew (Nat.le_refl _) hr')
      have hst := allz_step (samC d e) ps qs j hlt (by omega)
      rw [hal.out] at hst
      obtain ⟨z, hz⟩ : ∃ z, samC d e ps[j] (qs[j]'(by omega)) = z := ⟨_, rfl⟩
      rw [hz] at hcall hst
      have i1 : (j : Int) < (ps.length : Int) := by omega
      have i3 : (j : Int) < (qs.length : Int) := by omega
      have i2 : (0 : Int) ≤ (j : Int) := by omega
      clear k0 k1 k2 k3 hr hbl hz l0 l1 l2 l3 hr' hbl' hlq
      cases z with
      | true =>
        have hN : Hid (allz (samC d e) (ps.drop (j + 1)) (qs.drop (j + 1)) = V) := by show allz (samC d e) (ps.drop (j + 1)) (qs.drop (j + 1)) = V; rw [hst]; simp
        clear hst
        go_wp2
        go_region_held (fun w' => w'.cell? ⟨w.heap.size, 3, none⟩ = some (.slice (some ⟨b, off, none⟩) ps.length cap) ∧ w'.cell? ⟨w.heap.size + 1, 3, none⟩ = some (.slice (some ⟨b', off', none⟩) qs.length cap') ∧ w'.cell? ⟨b, off + j * 4, none⟩ = some c0 ∧ w'.cell? ⟨b, off + j * 4 + 1, none⟩ = some c1 ∧ w'.cell? ⟨b, off + j * 4 + 2, none⟩ = some c2 ∧ w'.cell? ⟨b, off + j * 4 + 3, none⟩ = some c3 ∧ w'.cell? ⟨b', off' + j * 4, none⟩ = some d0 ∧ w'.cell? ⟨b', off' + j * 4 + 1, none⟩ = some d1 ∧ w'.cell? ⟨b', off' + j * 4 + 2, none⟩ = some d2 ∧ w'.cell? ⟨b', off' + j * 4 + 3, none⟩ = some d3)
          (first | exact ⟨y3, z3, C0, C1, C2, C3, D0, D1, D2, D3⟩ | exact ⟨kc _ _ y3, kc _ _ z3, kc _ _ C0, kc _ _ C1, kc _ _ C2, kc _ _ C3, kc _ _ D0, kc _ _ D1, kc _ _ D2, kc _ _ D3⟩ | go_keep)
          (first | (go_at_call 121; refine hcall.mono ?_; rintro r w1 ⟨rfl, b1⟩; have bw : Below wr.heap.size wr w1 := ((Below.refl _ wr).drew).trans b1; have kc : ∀ p u, wr.cell? p = some u → w1.cell? p = some u := fun p u hp => (by rw [bw.cell (World.block_lt_of_cell? wr _ hp)]; exact hp)))
        go_wp2
        go_roundw
        case rel => exact ⟨j + 1, hlt, by go_num, hN, hA.keepB bw (World.block_lt_of_cell? wr _ y0), hA'.keepB bw (World.block_lt_of_cell? wr _ z0), hb.trans (bw.mono hb.size)⟩
        case measure => simp [RowKit.intOf]; omega
      | false =>
        have hF : V = false := by rw [hst]; simp
        subst hF
        clear hst
        go_wp2
        go_region_held (fun w' => w'.cell? ⟨w.heap.size, 3, none⟩ = some (.slice (some ⟨b, off, none⟩) ps.length cap) ∧ w'.cell? ⟨w.heap.size + 1, 3, none⟩ = some (.slice (some ⟨b', off', none⟩) qs.length cap') ∧ w'.cell? ⟨b, off + j * 4, none⟩ = some c0 ∧ w'.cell? ⟨b, off + j * 4 + 1, none⟩ = some c1 ∧ w'.cell? ⟨b, off + j * 4 + 2, none⟩ = some c2 ∧ w'.cell? ⟨b, off + j * 4 + 3, none⟩ = some c3 ∧ w'.cell? ⟨b', off' + j * 4, none⟩ = some d0 ∧ w'.cell? ⟨b', off' + j * 4 + 1, none⟩ = some d1 ∧ w'.cell? ⟨b', off' + j * 4 + 2, none⟩ = some d2 ∧ w'.cell? ⟨b', off' + j * 4 + 3, none⟩ = some d3)
          (first | exact ⟨y3, z3, C0, C1, C2, C3, D0, D1, D2, D3⟩ | exact ⟨kc _ _ y3, kc _ _ z3, kc _ _ C0, kc _ _ C1, kc _ _ C2, kc _ _ C3, kc _ _ D0, kc _ _ D1, kc _ _ D2, kc _ _ D3⟩ | go_keep)
          (first | (go_at_call 121; refine hcall.mono ?_; rintro r w1 ⟨rfl, b1⟩; have bw : Below wr.heap.size wr w1 := ((Below.refl _ wr).drew).trans b1; have kc : ∀ p u, wr.cell? p = some u → w1.cell? p = some u := fun p u hp => (by rw [bw.cell (World.block_lt_of_cell? wr _ hp)]; exact hp)))
        go_wp2
        go_ret
        exact ⟨rfl, hb.trans (bw.mono hb.size)⟩
    · have i1 : ¬ (j : Int) < (ps.length : Int) := by omega
      have hll := hal.out
      rw [List.drop_eq_nil_of_le (by omega)] at hll
      have hTV : V = true := by rw [← hll]; rfl
      subst hTV
      clear hlq hll
      go_wp2
      go_ret
      exact ⟨rfl, hb⟩
theorem same_any : ∀ (d : Nat), SameC d
  | 0 => fun _ _ _ t => Empty.elim t
  | d + 1 => same_step d (same_any d)
end Go.Proofs.YtccmmkhcacglhaaGreatDoor

/- The document's sameOn: true where both read one on. -/
namespace Go.Proofs.YtccmmkhcacglhaaGreatDoor
open Go.RowKit Go.Lib
set_option linter.unusedSimpArgs false
set_option linter.unusedVariables false
attribute [local go_sem ↓] Go.wp_at_zero Go.wp_at_succ

theorem sets_cells {ok : Nat → Prop} {w : World} {l : List (List UInt8 × Sx)} {v : Value} (h : RdK ok w 5 (rSetD ok w) l v) : ∃ a cap, v = .slice a l.length cap ∧ l.length ≤ cap ∧ cap ≤ maxLen ∧ ∀ (j : Nat) (hj : j < l.length), ∃ b off nm k0 k1 k2 k3 k4 k5, a = some ⟨b, off, none⟩ ∧ b < w.heap.size ∧ sD l[j].1 = .string nm ∧ RdX ok w l[j].2 (.agg #[.int .i64 k0, .int .i64 k1, .string k2, .slice k3 k4 k5]) ∧ w.cell? ⟨b, off + j * 5, none⟩ = some (.string nm) ∧ w.cell? ⟨b, off + j * 5 + 1, none⟩ = some (.int .i64 k0) ∧ w.cell? ⟨b, off + j * 5 + 2, none⟩ = some (.int .i64 k1) ∧ w.cell? ⟨b, off + j * 5 + 3, none⟩ = some (.string k2) ∧ w.cell? ⟨b, off + j * 5 + 4, none⟩ = some (.slice k3 k4 k5) := by
  obtain ⟨a, cap, rfl, h1, h2, h3⟩ := h
  refine ⟨a, cap, rfl, h1, h2, fun j hj => ?_⟩
  obtain ⟨b, off, cs, ha, _, hb, hl, ⟨c0, c1, c2, c3, rfl, hx⟩, hc⟩ := h3 j hj
  obtain ⟨k0, k1, k2, k3, k4, k5, he⟩ := hx.form
  simp only [Value.agg.injEq, Array.mk.injEq, List.cons.injEq, and_true] at he
  obtain ⟨rfl, rfl, rfl, rfl⟩ := he
  exact ⟨b, off, _, k0, k1, k2, k3, k4, k5, ha, hb, rfl, hx, hc 0 _ rfl, hc 1 _ rfl, hc 2 _ rfl, hc 3 _ rfl, hc 4 _ rfl⟩
set_option maxRecDepth 100000 in
set_option maxHeartbeats 8000000 in
theorem dsameOn_any {ok ok' : Nat → Prop} {w : World} {o : OnC} {cs cs' : List Value} (h : rOnD ok w o cs) (h' : rOnD ok' w o cs') :
    Calls Tryz.prog 80 #[.agg cs.toArray, .agg cs'.toArray] w fun e w' => e = .returned (.bool true) ∧ Below w.heap.size w w' := by
  obtain ⟨c0, c1, c2, c3, sl, h1, hx, hs⟩ := h
  obtain ⟨d0, d1, d2, d3, sl', h1', hy, hs'⟩ := h'
  obtain ⟨x1, x2, x3, x4, x5, x6, he⟩ := hx.form
  simp only [Value.agg.injEq, Array.mk.injEq, List.cons.injEq, and_true] at he
  obtain ⟨rfl, rfl, rfl, rfl⟩ := he
  obtain ⟨y1, y2, y3, y4, y5, y6, he⟩ := hy.form
  simp only [Value.agg.injEq, Array.mk.injEq, List.cons.injEq, and_true] at he
  obtain ⟨rfl, rfl, rfl, rfl⟩ := he
  obtain ⟨a, cap, rfl, hlc, hcm, hcell⟩ := sets_cells hs
  obtain ⟨a', cap', rfl, hlc', hcm', hcell'⟩ := sets_cells hs'
  unfold maxLen at hcm hcm'
  obtain ⟨ev, gb, tg, ol, oc, hov⟩ : ∃ ev gb tg ol oc, ∀ c0 c1 c2 c3 sl, [sD o.1, .bool o.2.1.1, c0, c1, c2, c3, sD o.2.2.1, sl, .int .i64 o.2.2.2.2.1, .int .i64 o.2.2.2.2.2] = [.string ev, .bool gb, c0, c1, c2, c3, .string tg, sl, .int .i64 ol, .int .i64 oc] := ⟨_, _, _, _, _, fun _ _ _ _ _ => rfl⟩
  rw [hov] at h1 h1'
  subst h1
  subst h1'
  obtain ⟨x, hxx⟩ : ∃ x, o.2.1.2 = x := ⟨_, rfl⟩
  rw [hxx] at hx hy
  obtain ⟨l, hll⟩ : ∃ l, o.2.2.2.1 = l := ⟨_, rfl⟩
  rw [hll] at hlc hlc' hcell hcell' ⊢
  have HC : Hid (∀ (j : Nat) (hj : j < l.length), ∃ b off nm k0 k1 k2 k3 k4 k5, a = some ⟨b, off, none⟩ ∧ b < w.heap.size ∧ sD l[j].1 = .string nm ∧ RdX ok w l[j].2 (.agg #[.int .i64 k0, .int .i64 k1, .string k2, .slice k3 k4 k5]) ∧ w.cell? ⟨b, off + j * 5, none⟩ = some (.string nm) ∧ w.cell? ⟨b, off + j * 5 + 1, none⟩ = some (.int .i64 k0) ∧ w.cell? ⟨b, off + j * 5 + 2, none⟩ = some (.int .i64 k1) ∧ w.cell? ⟨b, off + j * 5 + 3, none⟩ = some (.string k2) ∧ w.cell? ⟨b, off + j * 5 + 4, none⟩ = some (.slice k3 k4 k5)) := hcell
  have HC' : Hid (∀ (j : Nat) (hj : j < l.length), ∃ b off nm k0 k1 k2 k3 k4 k5, a' = some ⟨b, off, none⟩ ∧ b < w.heap.size ∧ sD l[j].1 = .string nm ∧ RdX ok' w l[j].2 (.agg #[.int .i64 k0, .int .i64 k1, .string k2, .slice k3 k4 k5]) ∧ w.cell? ⟨b, off + j * 5, none⟩ = some (.string nm) ∧ w.cell? ⟨b, off + j * 5 + 1, none⟩ = some (.int .i64 k0) ∧ w.cell? ⟨b, off + j * 5 + 2, none⟩ = some (.int .i64 k1) ∧ w.cell? ⟨b, off + j * 5 + 3, none⟩ = some (.string k2) ∧ w.cell? ⟨b, off + j * 5 + 4, none⟩ = some (.slice k3 k4 k5)) := hcell'
  obtain ⟨n, hn⟩ : ∃ n, l.length = n := ⟨_, rfl⟩
  rw [hn] at hlc hlc' ⊢
  have HN : Hid (l.length = n) := hn
  clear hcell hcell' hs hs' hxx hll hov hn
  have hb0 := ((Below.refl w.heap.size w).alloc (Nat.le_refl _) (.cells #[.string ev, .bool gb, .int .i64 x1, .int .i64 x2, .string x3, .slice x4 x5 x6, .string tg, .slice a n cap, .int .i64 ol, .int .i64 oc] 135)).alloc (by simp) (.cells #[.string ev, .bool gb, .int .i64 y1, .int .i64 y2, .string y3, .slice y4 y5 y6, .string tg, .slice a' n cap', .int .i64 ol, .int .i64 oc] 135)
  have hA0 : Bn ((w.alloc (.cells #[.string ev, .bool gb, .int .i64 x1, .int .i64 x2, .string x3, .slice x4 x5 x6, .string tg, .slice a n cap, .int .i64 ol, .int .i64 oc] 135)).alloc (.cells #[.string ev, .bool gb, .int .i64 y1, .int .i64 y2, .string y3, .slice y4 y5 y6, .string tg, .slice a' n cap', .int .i64 ol, .int .i64 oc] 135)) w.heap.size [.string ev, .bool gb, .int .i64 x1, .int .i64 x2, .string x3, .slice x4 x5 x6, .string tg, .slice a n cap, .int .i64 ol, .int .i64 oc] := (Bn.new w [.string ev, .bool gb, .int .i64 x1, .int .i64 x2, .string x3, .slice x4 x5 x6, .string tg, .slice a n cap, .int .i64 ol, .int .i64 oc] 135 _ rfl).on ((Below.refl _ _).alloc (Nat.le_refl _) _)
  have hB0 : Bn ((w.alloc (.cells #[.string ev, .bool gb, .int .i64 x1, .int .i64 x2, .string x3, .slice x4 x5 x6, .string tg, .slice a n cap, .int .i64 ol, .int .i64 oc] 135)).alloc (.cells #[.string ev, .bool gb, .int .i64 y1, .int .i64 y2, .string y3, .slice y4 y5 y6, .string tg, .slice a' n cap', .int .i64 ol, .int .i64 oc] 135)) (w.heap.size + 1) [.string ev, .bool gb, .int .i64 y1, .int .i64 y2, .string y3, .slice y4 y5 y6, .string tg, .slice a' n cap', .int .i64 ol, .int .i64 oc] := Bn.new (w.alloc (.cells #[.string ev, .bool gb, .int .i64 x1, .int .i64 x2, .string x3, .slice x4 x5 x6, .string tg, .slice a n cap, .int .i64 ol, .int .i64 oc] 135)) [.string ev, .bool gb, .int .i64 y1, .int .i64 y2, .string y3, .slice y4 y5 y6, .string tg, .slice a' n cap', .int .i64 ol, .int .i64 oc] 135 _ (by simp)
  have hcall := same_any x.1 ok ok' x.1 x.2 x.2 _ _ _ (RdT.below hb0 (Nat.le_refl _) hx) (RdT.below hb0 (Nat.le_refl _) hy)
  rw [samC_refl] at hcall
  have hsame := fun (w1 : World) (y : Sx) (v v' : Value) (h1 : RdX ok w1 y v) (h2 : RdX ok' w1 y v') => same_any y.1 ok ok' y.1 y.2 y.2 v v' w1 h1 h2
  simp only [samC_refl] at hsame
  clear hx hy
  go_enter Tryz.func80, Tryz.ntmps80
  go_upto_region 1 with fail
  generalize (w.alloc (.cells #[.string ev, .bool gb, .int .i64 x1, .int .i64 x2, .string x3, .slice x4 x5 x6, .string tg, .slice a n cap, .int .i64 ol, .int .i64 oc] 135)).alloc (.cells #[.string ev, .bool gb, .int .i64 y1, .int .i64 y2, .string y3, .slice y4 y5 y6, .string tg, .slice a' n cap', .int .i64 ol, .int .i64 oc] 135) = w0 at *
  obtain ⟨p0, _⟩ := hA0 0 _ rfl
  obtain ⟨q0, _⟩ := hB0 0 _ rfl
  obtain ⟨p1, _⟩ := hA0 1 _ rfl
  obtain ⟨q1, _⟩ := hB0 1 _ rfl
  obtain ⟨p2, _⟩ := hA0 2 _ rfl
  obtain ⟨q2, _⟩ := hB0 2 _ rfl
  obtain ⟨p3, _⟩ := hA0 3 _ rfl
  obtain ⟨q3, _⟩ := hB0 3 _ rfl
  obtain ⟨p4, _⟩ := hA0 4 _ rfl
  obtain ⟨q4, _⟩ := hB0 4 _ rfl
  obtain ⟨p5, _⟩ := hA0 5 _ rfl
  obtain ⟨q5, _⟩ := hB0 5 _ rfl
  obtain ⟨p6, _⟩ := hA0 6 _ rfl
  obtain ⟨q6, _⟩ := hB0 6 _ rfl
  obtain ⟨p7, _⟩ := hA0 7 _ rfl
  obtain ⟨q7, _⟩ := hB0 7 _ rfl
  obtain ⟨p8, _⟩ := hA0 8 _ rfl
  obtain ⟨q8, _⟩ := hB0 8 _ rfl
  obtain ⟨p9, _⟩ := hA0 9 _ rfl
  obtain ⟨q9, _⟩ := hB0 9 _ rfl
  go_wp2_with (first
    | (go_at_call 121; refine hcall.mono ?_; rintro r w1 ⟨rfl, b1⟩; obtain ⟨r6, _⟩ := (hA0.on b1) 6 _ rfl; obtain ⟨s6, _⟩ := (hB0.on b1) 6 _ rfl; obtain ⟨r7, _⟩ := (hA0.on b1) 7 _ rfl; obtain ⟨s7, _⟩ := (hB0.on b1) 7 _ rfl; obtain ⟨r8, _⟩ := (hA0.on b1) 8 _ rfl; obtain ⟨s8, _⟩ := (hB0.on b1) 8 _ rfl; obtain ⟨r9, _⟩ := (hA0.on b1) 9 _ rfl; obtain ⟨s9, _⟩ := (hB0.on b1) 9 _ rfl))
  have hA1 := hA0.on b1
  have hB1 := hB0.on b1
  have hb1 := hb0.trans (b1.mono hb0.size)
  clear hcall p0 q0 p1 q1 p2 q2 p3 q3 p4 q4 p5 q5 p6 q6 p7 q7 p8 q8 p9 q9 r6 s6 r7 s7 r8 s8 r9 s9 hA0 hB0 hb0 b1
  go_loopw [52] (fun i wr => ∃ (j : Nat), j ≤ n ∧ i = .int .i64 (j : Int) ∧ Bn wr w.heap.size [.string ev, .bool gb, .int .i64 x1, .int .i64 x2, .string x3, .slice x4 x5 x6, .string tg, .slice a n cap, .int .i64 ol, .int .i64 oc] ∧ Bn wr (w.heap.size + 1) [.string ev, .bool gb, .int .i64 y1, .int .i64 y2, .string y3, .slice y4 y5 y6, .string tg, .slice a' n cap', .int .i64 ol, .int .i64 oc] ∧ Below w.heap.size w wr) (fun i _ => n - (RowKit.intOf i).toNat)
  case atStart => exact ⟨0, Nat.zero_le _, rfl, hA1, hB1, hb1⟩
  case round =>
    clear hA1 hB1 hb1
    obtain ⟨j, hj, rfl, hA, hB, hb⟩ := hrel
    obtain ⟨y7, _⟩ := hA 7 _ rfl
    obtain ⟨z7, _⟩ := hB 7 _ rfl
    by_cases hlt : j < n
    · have hjl : j < l.length := by rw [HN.out]; exact hlt
      obtain ⟨b, off, nm, k0, k1, k2, k3, k4, k5, rfl, hbl, hnm, hr, e0, e1, e2, e3, e4⟩ := HC.out j hjl
      obtain ⟨b', off', nm', l0, l1, l2, l3, l4, l5, rfl, hbl', hnm', hr', e0', e1', e2', e3', e4'⟩ := HC'.out j hjl
      obtain rfl : nm = nm' := Value.string.inj (hnm.symm.trans hnm')
      have C0 := (hb.cell (p := ⟨b, off + j * 5, none⟩) hbl).trans e0
      have C1 := (hb.cell (p := ⟨b, off + j * 5 + 1, none⟩) hbl).trans e1
      have C2 := (hb.cell (p := ⟨b, off + j * 5 + 2, none⟩) hbl).trans e2
      have C3 := (hb.cell (p := ⟨b, off + j * 5 + 3, none⟩) hbl).trans e3
      have C4 := (hb.cell (p := ⟨b, off + j * 5 + 4, none⟩) hbl).trans e4
      have D0 := (hb.cell (p := ⟨b', off' + j * 5, none⟩) hbl').trans e0'
      have D1 := (hb.cell (p := ⟨b', off' + j * 5 + 1, none⟩) hbl').trans e1'
      have D2 := (hb.cell (p := ⟨b', off' + j * 5 + 2, none⟩) hbl').trans e2'
      have D3 := (hb.cell (p := ⟨b', off' + j * 5 + 3, none⟩) hbl').trans e3'
      have D4 := (hb.cell (p := ⟨b', off' + j * 5 + 4, none⟩) hbl').trans e4'
      have hcall := hsame wr.drew l[j].2 _ _ (RdT.below hb.drew (Nat.le_refl _) hr) (RdT.below hb.drew (Nat.le_refl _) hr')
      have i1 : (j : Int) < (n : Int) := by omega
      have i2 : (0 : Int) ≤ (j : Int) := by omega
      clear e0 e1 e2 e3 e4 e0' e1' e2' e3' e4' hr hr' hbl hbl' hnm hnm' hjl hsame
      go_wp2
      go_region_held (fun w' => w'.cell? ⟨w.heap.size, 7, none⟩ = some (.slice (some ⟨b, off, none⟩) n cap) ∧ w'.cell? ⟨w.heap.size + 1, 7, none⟩ = some (.slice (some ⟨b', off', none⟩) n cap') ∧ w'.cell? ⟨b, off + j * 5, none⟩ = some (.string nm) ∧ w'.cell? ⟨b, off + j * 5 + 1, none⟩ = some (.int .i64 k0) ∧ w'.cell? ⟨b, off + j * 5 + 2, none⟩ = some (.int .i64 k1) ∧ w'.cell? ⟨b, off + j * 5 + 3, none⟩ = some (.string k2) ∧ w'.cell? ⟨b, off + j * 5 + 4, none⟩ = some (.slice k3 k4 k5) ∧ w'.cell? ⟨b', off' + j * 5, none⟩ = some (.string nm) ∧ w'.cell? ⟨b', off' + j * 5 + 1, none⟩ = some (.int .i64 l0) ∧ w'.cell? ⟨b', off' + j * 5 + 2, none⟩ = some (.int .i64 l1) ∧ w'.cell? ⟨b', off' + j * 5 + 3, none⟩ = some (.string l2) ∧ w'.cell? ⟨b', off' + j * 5 + 4, none⟩ = some (.slice l3 l4 l5))
        (first | exact ⟨y7, z7, C0, C1, C2, C3, C4, D0, D1, D2, D3, D4⟩ | exact ⟨kc _ _ y7, kc _ _ z7, kc _ _ C0, kc _ _ C1, kc _ _ C2, kc _ _ C3, kc _ _ C4, kc _ _ D0, kc _ _ D1, kc _ _ D2, kc _ _ D3, kc _ _ D4⟩ | go_keep)
        (first | (go_at_call 121; refine hcall.mono ?_; rintro r w1 ⟨rfl, b1⟩; have bw : Below wr.heap.size wr w1 := ((Below.refl _ wr).drew).trans b1; have kc : ∀ p u, wr.cell? p = some u → w1.cell? p = some u := fun p u hp => (by rw [bw.cell (World.block_lt_of_cell? wr _ hp)]; exact hp)))
      go_wp2
      go_roundw
      case rel => exact ⟨j + 1, hlt, by go_num, hA.on bw, hB.on bw, hb.trans (bw.mono hb.size)⟩
      case measure => simp [RowKit.intOf]; omega
    · have i1 : ¬ (j : Int) < (n : Int) := by omega
      go_wp2
      go_ret
      exact ⟨rfl, hb⟩
end Go.Proofs.YtccmmkhcacglhaaGreatDoor
