import Derived.Test.YtifgbioacknjpaaGreatDoorWsc13
import Derived.Test.YtifgbioacknjpaaGreatDoorWsc12
import Derived.Test.YtifgbioacknjpaaGreatDoorWsc07
import Derived.Test.YtifgbioacknjpaaGreatDoorWsc05
import Derived.Deep.LoopGhost
import Derived.Test.YtifgbioacknjpaaGreatDoorWsc08

/- What tumbrellaw06.Theirs does: the document's chart as the program's. -/
namespace Go.Proofs.YtifgbioacknjpaaGreatDoor
open Go.RowKit Go.Lib
set_option linter.unusedSimpArgs false
set_option linter.unusedVariables false
attribute [local go_sem ↓] Go.wp_at_zero Go.wp_at_succ

theorem their_res {w4 : World} {R : Nat} {a b c d e f : Value} {tmps : Array Value} (hR : Bn w4 R [a, b, c, d, e, f]) (ht : tmps.getD 2 undef = .pointer (some ⟨R, 0, none⟩)) : (results Tryz.f7 tmps).run Tryz.prog w4 = .ok (.agg #[a, b, c, d, e, f]) w4 := by
  have ht' : tmps[2]?.getD undef = .pointer (some ⟨R, 0, none⟩) := by simpa using ht
  have c0 := (hR 0 _ rfl).1
  have c1 := (hR 1 _ rfl).1
  have c2 := (hR 2 _ rfl).1
  have c3 := (hR 3 _ rfl).1
  have c4 := (hR 4 _ rfl).1
  have c5 := (hR 5 _ rfl).1
  simp [results, Tryz.results7, go_sem, ht', c0, c1, c2, c3, c4, c5]
set_option maxRecDepth 100000 in
set_option maxHeartbeats 16000000 in
theorem theirs_ch {ok : Nat → Prop} {w : World} {d : Nat} {c : ChD d} {v : Value} (h : RdD ok w d c v) (hok : ∀ t ∈ c.2.2.2, SmS d t) (hl1 : totS d c.2.2.2 ≤ 400) (hl2 : c.2.2.1.length ≤ 3001) :
    Calls Tryz.prog 7 #[v] w fun e w' => ∃ u, e = .returned u ∧ RdC (fun b => w.heap.size ≤ b) w' d (thC d c) u ∧ Below w.heap.size w w' := by
  obtain ⟨iv, hiv, hiv0, hiv1, hiv2⟩ := info_parts Tryz.infoVar
  obtain ⟨sv, ss, rfl, hv, hs⟩ := h
  obtain ⟨a, cap, rfl, hlc, hcm⟩ := hv.form
  obtain ⟨p4, p6, rfl, _⟩ := hs.form
  unfold maxLen at hcm
  have HV := mkHid hv
  have hcall := fun w1 (b1 : Below w.heap.size w w1) => ts_any d ok w1 c.2.2.2 _ (hs.stay (kp_stD d) (fun k hk hl => ⟨hk, b1.block k hl⟩)) hok hl1
  obtain ⟨nv, hnv⟩ : ∃ nv, sD c.1.1 = .string nv := ⟨_, rfl⟩
  obtain ⟨n, hn⟩ : ∃ n, c.2.2.1.length = n := ⟨_, rfl⟩
  obtain ⟨i, hi⟩ : ∃ n, c.2.2.2.length = n := ⟨_, rfl⟩
  obtain ⟨vn, hvn⟩ : ∃ x, c.2.1 = x := ⟨_, rfl⟩
  obtain ⟨ln, hln⟩ : ∃ x, c.1.2.1 = x := ⟨_, rfl⟩
  obtain ⟨co, hco⟩ : ∃ x, c.1.2.2 = x := ⟨_, rfl⟩
  rw [hnv, hvn, hln, hco, hi, hn]
  rw [hi] at hcall
  rw [hn] at hlc hl2
  have HN : Hid (c.2.2.1.length = n) := hn
  have HR : Hid (∀ (ok' : Nat → Prop) (w' : World) (a' : Option Addr) (c' : Nat) (b' : Option Addr) (e' : Nat), RdK ok' w' 4 (rVar ok' w') c.2.2.1 (.slice a' n c') → RdK ok' w' 11 (rSt d ok' w') (c.2.2.2.map (thS d)) (.slice b' i e') → RdC ok' w' d (thC d c) (.agg #[.string nv, .int .i64 vn, .int .i64 ln, .int .i64 co, .slice a' n c', .slice b' i e'])) := by
    intro ok' w' a' c' b' e' h1 h2
    refine ⟨_, _, ?_, h1, h2⟩
    show _ = Value.agg #[sV c.1.1, .int .i64 c.2.1, .int .i64 c.1.2.1, .int .i64 c.1.2.2, _, _]
    rw [show sV c.1.1 = sD c.1.1 from rfl, hnv, hvn, hln, hco]
  have hcall2 : ∀ w1, Below w.heap.size w w1 → Calls Tryz.prog 21 #[.slice p4 i p6] w1 fun e w' => ∃ iq ic, e = .returned (.slice iq i ic) ∧ RdK (fun b => w1.heap.size ≤ b) w' 11 (rSt d (fun b => w1.heap.size ≤ b) w') (c.2.2.2.map (thS d)) (.slice iq i ic) ∧ Below w1.heap.size w1 w' := fun w1 b1 => (hcall w1 b1).mono (fun e w' hh => by
    obtain ⟨u, h1, h2, h3⟩ := hh
    obtain ⟨iq, ic, rfl, _⟩ := h2.form
    rw [List.length_map, hi] at h1 h2
    exact ⟨iq, ic, h1, h2, h3⟩)
  clear hcall hv hs hok hl1 hn hi hnv hvn hln hco
  have hal : Below w.heap.size w ((w.alloc (.cells #[.string nv, .int .i64 vn, .int .i64 ln, .int .i64 co, .slice a n cap, .slice p4 i p6] 27)).alloc (.cells #[.string ⟨#[]⟩, .int .i64 0, .int .i64 0, .int .i64 0, .slice none 0 0, .slice none 0 0] 33)) := ((Below.refl w.heap.size w).alloc (Nat.le_refl _) _).alloc (by simp) _
  have hX : Bn ((w.alloc (.cells #[.string nv, .int .i64 vn, .int .i64 ln, .int .i64 co, .slice a n cap, .slice p4 i p6] 27)).alloc (.cells #[.string ⟨#[]⟩, .int .i64 0, .int .i64 0, .int .i64 0, .slice none 0 0, .slice none 0 0] 33)) w.heap.size [.string nv, .int .i64 vn, .int .i64 ln, .int .i64 co, .slice a n cap, .slice p4 i p6] := (Bn.new w [.string nv, .int .i64 vn, .int .i64 ln, .int .i64 co, .slice a n cap, .slice p4 i p6] 27 _ rfl).on ((Below.refl _ _).alloc (Nat.le_refl _) _)
  have hR : Bn ((w.alloc (.cells #[.string nv, .int .i64 vn, .int .i64 ln, .int .i64 co, .slice a n cap, .slice p4 i p6] 27)).alloc (.cells #[.string ⟨#[]⟩, .int .i64 0, .int .i64 0, .int .i64 0, .slice none 0 0, .slice none 0 0] 33)) (w.heap.size + 1) [.string ⟨#[]⟩, .int .i64 0, .int .i64 0, .int .i64 0, .slice none 0 0, .slice none 0 0] := Bn.new (w.alloc (.cells #[.string nv, .int .i64 vn, .int .i64 ln, .int .i64 co, .slice a n cap, .slice p4 i p6] 27)) [.string ⟨#[]⟩, .int .i64 0, .int .i64 0, .int .i64 0, .slice none 0 0, .slice none 0 0] 33 _ (by simp)
  have hsz : ((w.alloc (.cells #[.string nv, .int .i64 vn, .int .i64 ln, .int .i64 co, .slice a n cap, .slice p4 i p6] 27)).alloc (.cells #[.string ⟨#[]⟩, .int .i64 0, .int .i64 0, .int .i64 0, .slice none 0 0, .slice none 0 0] 33)).heap.size = w.heap.size + 2 := by simp
  go_enter Tryz.func7, Tryz.ntmps7
  go_upto_region 1 with fail
  generalize ((w.alloc (.cells #[.string nv, .int .i64 vn, .int .i64 ln, .int .i64 co, .slice a n cap, .slice p4 i p6] 27)).alloc (.cells #[.string ⟨#[]⟩, .int .i64 0, .int .i64 0, .int .i64 0, .slice none 0 0, .slice none 0 0] 33)) = wx at *
  obtain ⟨S, hS⟩ : ∃ S, w.heap.size = S := ⟨_, rfl⟩
  rw [hS] at hX hR hsz ⊢
  have HS : Hid (w.heap.size = S) := hS
  have hbx : Below w.heap.size w wx := hal
  have hSw : w.heap.size ≤ S := by omega
  clear hS hal
  go_cut [3] (fun u3 wc => ∃ Q iq ic, u3 = .pointer (some ⟨Q, 0, none⟩) ∧ S + 2 ≤ Q ∧ Bn wc Q [.string nv, .int .i64 vn, .int .i64 ln, .int .i64 co, .slice none 0 0, .slice iq i ic] ∧ RdK (fun k => S + 2 ≤ k ∧ k ≠ Q) wc 11 (rSt d (fun k => S + 2 ≤ k ∧ k ≠ Q) wc) (c.2.2.2.map (thS d)) (.slice iq i ic) ∧ Below (S + 2) wx wc)
  case first =>
    have hbz : Below w.heap.size w (wx.alloc (.cells #[.string ⟨#[]⟩, .int .i64 0, .int .i64 0, .int .i64 0, .slice none 0 0, .slice none 0 0] 33)) := hbx.alloc hbx.size _
    have hZ0 : Bn (wx.alloc (.cells #[.string ⟨#[]⟩, .int .i64 0, .int .i64 0, .int .i64 0, .slice none 0 0, .slice none 0 0] 33)) (S + 2) [.string ⟨#[]⟩, .int .i64 0, .int .i64 0, .int .i64 0, .slice none 0 0, .slice none 0 0] := Bn.new wx [.string ⟨#[]⟩, .int .i64 0, .int .i64 0, .int .i64 0, .slice none 0 0, .slice none 0 0] 33 _ hsz.symm
    have hzx : (wx.alloc (.cells #[.string ⟨#[]⟩, .int .i64 0, .int .i64 0, .int .i64 0, .slice none 0 0, .slice none 0 0] 33)).heap.size = S + 3 := by simp; omega
    have n1 : S ≠ S + 2 := by omega
    obtain ⟨X0, _⟩ := hX 0 _ rfl
    obtain ⟨X1, _⟩ := hX 1 _ rfl
    obtain ⟨X2, _⟩ := hX 2 _ rfl
    obtain ⟨X3, _⟩ := hX 3 _ rfl
    obtain ⟨X5, _⟩ := hX 5 _ rfl
    clear HV HR hR
    go_region_held_law (fun w' => w'.cell? ⟨S, 0, none⟩ = some (.string nv) ∧ w'.cell? ⟨S, 1, none⟩ = some (.int .i64 vn) ∧ w'.cell? ⟨S, 2, none⟩ = some (.int .i64 ln) ∧ w'.cell? ⟨S, 3, none⟩ = some (.int .i64 co) ∧ w'.cell? ⟨S, 5, none⟩ = some (.slice p4 i p6))
      (((refine ⟨?_, ?_, ?_, ?_, ?_⟩ <;> (repeat (first | (with_reducible exact X0) | (with_reducible exact X1) | (with_reducible exact X2) | (with_reducible exact X3) | (with_reducible exact X5) | (with_reducible exact Y0) | (with_reducible exact Y1) | (with_reducible exact Y2) | (with_reducible exact Y3) | (with_reducible exact Y5) | (with_reducible refine cell_al ?_) | (with_reducible refine cell_dr ?_) | (with_reducible refine cell_far4 (ne_pt n1) ?_) | (with_reducible refine cell_far4 (ne_pt n2) ?_))) <;> done)))
      (first
        | (go_at_call 21; (with_reducible refine (hcall2 _ hbx.drew).mono ?_); rintro e w1 ⟨iq, ic, rfl, hr1, b1⟩; have bw : Below wx.heap.size wx w1 := ((Below.refl _ wx).drew).trans b1; have n2 : S ≠ w1.heap.size := (by have := bw.size; omega); have kc : ∀ p u, wx.cell? p = some u → w1.cell? p = some u := fun p u hp => (by rw [bw.cell (World.block_lt_of_cell? wx _ hp)]; exact hp); have Y0 := kc _ _ X0; have Y1 := kc _ _ X1; have Y2 := kc _ _ X2; have Y3 := kc _ _ X3; have Y5 := kc _ _ X5)
        | (go_at_call 21; (with_reducible refine (hcall2 _ hbz.drew).mono ?_); rintro e w1 ⟨iq, ic, rfl, hr1, b1⟩; have bz : Below (wx.alloc (.cells #[.string ⟨#[]⟩, .int .i64 0, .int .i64 0, .int .i64 0, .slice none 0 0, .slice none 0 0] 33)).heap.size (wx.alloc (.cells #[.string ⟨#[]⟩, .int .i64 0, .int .i64 0, .int .i64 0, .slice none 0 0, .slice none 0 0] 33)) w1 := ((Below.refl _ (wx.alloc (.cells #[.string ⟨#[]⟩, .int .i64 0, .int .i64 0, .int .i64 0, .slice none 0 0, .slice none 0 0] 33))).drew).trans b1; have bw : Below wx.heap.size wx w1 := ((Below.refl wx.heap.size wx).alloc (Nat.le_refl _) (.cells #[.string ⟨#[]⟩, .int .i64 0, .int .i64 0, .int .i64 0, .slice none 0 0, .slice none 0 0] 33)).trans (bz.mono (by rw [hsz, hzx]; omega)); have kc : ∀ p u, wx.cell? p = some u → w1.cell? p = some u := fun p u hp => (by rw [bw.cell (World.block_lt_of_cell? wx _ hp)]; exact hp); have Y0 := kc _ _ X0; have Y1 := kc _ _ X1; have Y2 := kc _ _ X2; have Y3 := kc _ _ X3; have Y5 := kc _ _ X5; have hZ := hZ0.on bz; obtain ⟨z0, f0⟩ := hZ 0 _ rfl; obtain ⟨z1, f1⟩ := hZ 1 _ rfl; obtain ⟨z2, f2⟩ := hZ 2 _ rfl; obtain ⟨z3, f3⟩ := hZ 3 _ rfl; obtain ⟨z4, f4⟩ := hZ 4 _ rfl; obtain ⟨z5, f5⟩ := hZ 5 _ rfl)
        | fail)
    · have bw2 : Below (S + 2) wx w1 := by rw [← hsz]; exact bw
      have hs1 : S + 2 ≤ w1.heap.size := by have := bw.size; omega
      have hr2 := hr1.stay (kp_st d) (ok' := fun k => S + 2 ≤ k ∧ k ≠ w1.heap.size) (w' := w1.alloc (.cells #[.string nv, .int .i64 vn, .int .i64 ln, .int .i64 co, .slice none 0 0, .slice iq i ic] 33)) (fun k hk hl => ⟨⟨by have hk' : wx.heap.size ≤ k := hk; omega, by omega⟩, ((Below.refl w1.heap.size w1).alloc (Nat.le_refl _) _).block k hl⟩)
      go_wp2
      go_meet
      case rel => exact ⟨w1.heap.size, iq, ic, rfl, hs1, Bn.new w1 [.string nv, .int .i64 vn, .int .i64 ln, .int .i64 co, .slice none 0 0, .slice iq i ic] 33 _ rfl, hr2, bw2.alloc hs1 _⟩
    · have bw2 : Below (S + 2) wx w1 := by rw [← hsz]; exact bw
      have hQ2 := ((((((hZ.set (i := 0) (by simp) (.string nv)).set (i := 1) (by simp) (.int .i64 vn)).set (i := 2) (by simp) (.int .i64 ln)).set (i := 3) (by simp) (.int .i64 co)).set (i := 4) (by simp) (.slice none 0 0)).set (i := 5) (by simp) (.slice iq i ic))
      have hb2 := putL_below [.string nv, .int .i64 vn, .int .i64 ln, .int .i64 co, .slice none 0 0, .slice iq i ic] w1 (S + 2) 0 bw2 (Nat.le_refl _)
      have hr2 := hr1.stay (kp_st d) (ok' := fun k => S + 2 ≤ k ∧ k ≠ S + 2) (w' := putL w1 (S + 2) 0 [.string nv, .int .i64 vn, .int .i64 ln, .int .i64 co, .slice none 0 0, .slice iq i ic]) (fun k hk hl => ⟨by have hk' : (wx.alloc (.cells #[.string ⟨#[]⟩, .int .i64 0, .int .i64 0, .int .i64 0, .slice none 0 0, .slice none 0 0] 33)).heap.size ≤ k := hk; omega, putL_heap _ _ _ _ _ (by have hk' : (wx.alloc (.cells #[.string ⟨#[]⟩, .int .i64 0, .int .i64 0, .int .i64 0, .slice none 0 0, .slice none 0 0] 33)).heap.size ≤ k := hk; omega)⟩)
      go_wp2
      go_meet
      case rel => exact ⟨S + 2, iq, ic, rfl, Nat.le_refl _, hQ2, hr2, hb2⟩
  case rest =>
    obtain ⟨Q, iq, ic, rfl, hQ, hQb, hQr, hbq⟩ := hcut
    have hXc := hX.blk (hbq.block S (by omega))
    have hRc := hR.blk (hbq.block (S + 1) (by omega))
    have hbw := hbx.trans (hbq.mono (by omega))
    obtain ⟨wk, hwk⟩ : ∃ x, x = wc := ⟨_, rfl⟩
    subst hwk
    have hql : Q < wk.heap.size := hQb.lt
    have hws := hXc.lt
    have hwr := hRc.lt
    obtain ⟨x4, _⟩ := hXc 4 _ rfl
    go_wp2
    go_loopw [18] (fun ix wr => ∃ (j : Nat) (sl2 : Value), j ≤ n ∧ ix = .int .i64 (j : Int) ∧ Bn wr Q [.string nv, .int .i64 vn, .int .i64 ln, .int .i64 co, sl2, .slice iq i ic] ∧ OwnB wr wk.heap.size (fun _ => False) 53 4 rVar sl2 (c.2.2.1.take j) ∧ Fx Q wk wr) (fun ix _ => n - (RowKit.intOf ix).toNat)
    case atStart => exact ⟨0, _, Nat.zero_le _, rfl, hQb, ownB_nil _ _ _ _ _ _, Fx.refl _ _⟩
    case round =>
      clear x4
      obtain ⟨j, sl2, hj, rfl, hQB, hRow, hF⟩ := hrel
      obtain ⟨acj, hacj⟩ : ∃ acj, c.2.2.1.take j = acj := ⟨_, rfl⟩
      have hlj : acj.length = j := by rw [← hacj, List.length_take, HN.out]; omega
      rw [hacj] at hRow
      have HACJ : Hid (c.2.2.1.take j = acj) := hacj
      clear hacj
      obtain ⟨ra, rc, rfl, hrl, hrm⟩ := hRow.form
      rw [hlj] at hRow hQB hrl
      have hXr := hXc.fx hF (by omega)
      have hFs := hF.size
      have hbr : Below w.heap.size w wr := hF.bel hbw (by omega) (Nat.le_refl _)
      by_cases hjl : j < n
      · have hjt : j < c.2.2.1.length := by rw [HN.out]; exact hjl
        obtain ⟨b, off, rfl, hbl, hc⟩ := varQ_at (show RdK ok w 4 (rVar ok w) c.2.2.1 _ from HV.out) j hjt
        obtain ⟨q, hq⟩ : ∃ q, c.2.2.1[j] = q := ⟨_, rfl⟩
        rw [hq] at hc
        obtain ⟨sn, sv, sl, sc, hsv⟩ : ∃ sn sv sl sc, varV q = [.string sn, .int .i64 sv, .int .i64 sl, .int .i64 sc] := ⟨_, _, _, _, rfl⟩
        rw [hsv] at hc
        have hp : rVar (fun b => wr.heap.size ≤ b) wr q [.string sn, .int .i64 sv, .int .i64 sl, .int .i64 sc] := hsv.symm
        have HQ : Hid (c.2.2.1[j] = q) := hq
        clear hsv hq
        have C0 := (hbr.cell (p := ⟨b, off + j * 4 + 0, none⟩) hbl).trans (hc 0 _ rfl)
        have C1 := (hbr.cell (p := ⟨b, off + j * 4 + 1, none⟩) hbl).trans (hc 1 _ rfl)
        have C2 := (hbr.cell (p := ⟨b, off + j * 4 + 2, none⟩) hbl).trans (hc 2 _ rfl)
        have C3 := (hbr.cell (p := ⟨b, off + j * 4 + 3, none⟩) hbl).trans (hc 3 _ rfl)
        rw [Nat.add_zero] at C0
        clear hc
        obtain ⟨P4, _⟩ := hXr 4 _ rfl
        obtain ⟨k4, z4⟩ := hQB 4 _ rfl
        have i3 : (j : Int) < (n : Int) := by omega
        have i4 : (0 : Int) ≤ (j : Int) := by omega
        have hali := (Below.refl wr.heap.size wr).alloc (Nat.le_refl _) (.cells #[.string sn, .int .i64 sv, .int .i64 sl, .int .i64 sc] 53)
        have hQa := hQB.on hali
        obtain ⟨m4, o4⟩ := hQa 4 _ rfl
        go_upto_region 5 with fail
        go_region_law (first
          | (refine step_pushB wr.drew rfl _ _ 30 rfl wk.heap.size (fun _ => False) 53 iv (.agg #[.string ⟨#[]⟩, .int .i64 0, .int .i64 0, .int .i64 0]) 4 40 Tryz.underlying30 hiv hiv0 hiv1 hiv2 rfl kp_var (.slice ra j rc) acj q [.string sn, .int .i64 sv, .int .i64 sl, .int .i64 sc] wr.heap.size rfl rfl rfl (by simp [Value.oneCell']) hRow hp hFs (fun x hx => (hRow.lt x hx).2) (fun b hb => hb.elim) (by omega) (by unfold maxLen; omega) hFs ?_; intro vb wb hOb2 hgb2 hbb hat; have hBb := hQB.blk (hbb.block _ hql); obtain ⟨m5, n5⟩ := hBb 4 _ rfl; obtain ⟨vba, vbc, hvb, hvbl, hvbm⟩ := hOb2.form; rw [List.length_append, List.length_singleton, hlj] at hvb; subst hvb)
          | fail)
        all_goals (
          have hBc := hBb.set (i := 4) (by simp) (.slice vba (j + 1) vbc)
          have hRc2 := hOb2.set kp_var (X := Q) (i := 4) hql (.slice vba (j + 1) vbc)
          have hFc := ((hF.drew).andD hbb (Nat.le_refl _)).setX (i := 4) (.slice vba (j + 1) vbc)
          have hac2 : c.2.2.1.take (j + 1) = acj ++ [q] := by rw [List.take_succ_eq_append_getElem hjt, HACJ.out, HQ.out]
          clear hQa m4 o4 hali hgb2 hbb hat hBb m5 n5 hOb2 k4 z4 P4 C0 C1 C2 C3
          go_wp2
          go_roundw
          case rel => exact ⟨j + 1, _, hjl, by go_num, hBc, by rw [hac2]; exact hRc2, hFc⟩
          case measure => simp [RowKit.intOf]; omega)
      · have i3 : ¬ (j : Int) < (n : Int) := by omega
        have hjn : j = n := by omega
        subst hjn
        have hfull : acj = c.2.2.1 := by rw [← HACJ.out]; exact List.take_of_length_le (by rw [HN.out]; omega)
        have hRr := hRc.fx hF (by omega)
        have hS2 := HS.out
        have hvars := (hRow.rd kp_var).stay kp_var (ok' := fun b => S + 2 ≤ b) (w' := putL wr (S + 1) 0 [.string nv, .int .i64 vn, .int .i64 ln, .int .i64 co, .slice ra j rc, .slice iq i ic]) (fun b hb hl => ⟨by omega, putL_heap _ _ _ _ _ (by omega)⟩)
        rw [hfull] at hvars
        have hstates := hQr.stay (kp_st d) (ok' := fun b => S + 2 ≤ b) (w' := putL wr (S + 1) 0 [.string nv, .int .i64 vn, .int .i64 ln, .int .i64 co, .slice ra j rc, .slice iq i ic]) (fun b hb hl => ⟨hb.1, (putL_heap _ _ _ _ _ (by omega)).trans (hF.block b hl (fun e => hb.2 (Option.some.inj e)))⟩)
        have hfin := HR.out _ _ _ _ _ _ (hvars.stay kp_var (ok' := fun b => w.heap.size ≤ b) (fun b hb hl => ⟨by omega, rfl⟩)) (hstates.stay (kp_st d) (ok' := fun b => w.heap.size ≤ b) (fun b hb hl => ⟨by omega, rfl⟩))
        have hbz := putL_below [.string nv, .int .i64 vn, .int .i64 ln, .int .i64 co, .slice ra j rc, .slice iq i ic] wr (S + 1) 0 hbr (by omega)
        clear hS2
        obtain ⟨t0, _⟩ := hQB 0 _ rfl
        obtain ⟨r0, f0⟩ := hRr 0 _ rfl
        obtain ⟨t1, _⟩ := hQB 1 _ rfl
        obtain ⟨r1, f1⟩ := hRr 1 _ rfl
        obtain ⟨t2, _⟩ := hQB 2 _ rfl
        obtain ⟨r2, f2⟩ := hRr 2 _ rfl
        obtain ⟨t3, _⟩ := hQB 3 _ rfl
        obtain ⟨r3, f3⟩ := hRr 3 _ rfl
        obtain ⟨t4, _⟩ := hQB 4 _ rfl
        obtain ⟨r4, f4⟩ := hRr 4 _ rfl
        obtain ⟨t5, _⟩ := hQB 5 _ rfl
        obtain ⟨r5, f5⟩ := hRr 5 _ rfl
        have hRz := (((((hRr.set (i := 0) (by simp) (.string nv)).set (i := 1) (by simp) (.int .i64 vn)).set (i := 2) (by simp) (.int .i64 ln)).set (i := 3) (by simp) (.int .i64 co)).set (i := 4) (by simp) (.slice ra j rc)).set (i := 5) (by simp) (.slice iq i ic)
        go_wp2
        exact bodyPost_ret (their_res hRz rfl) rfl ⟨_, rfl, hfin, hbz⟩
end Go.Proofs.YtifgbioacknjpaaGreatDoor

/- What is left to strip: the places of rows; and what follows when they are stripped. -/
namespace Go.Proofs.YtifgbioacknjpaaGreatDoor
open Go.RowKit Go.Lib
set_option linter.unusedSimpArgs false
set_option linter.unusedVariables false

abbrev Fo := (d : Nat) × List (St d)
abbrev Pd := (Nat × Nat) × Fo
def pdA (p : Pd) : Addr := ⟨p.1.1, p.1.2, none⟩
def pdV (p : Pd) : Value := .pointer (some (pdA p))
/-- The value reads as the list, stripped; all of it from block B on. -/
def RdSp (B : Nat) (w : World) (x : Fo) (v : Value) : Prop := RdK (fun b => B ≤ b) w 11 (rSt x.1 (fun b => B ≤ b) w) (x.2.map (stS x.1)) v
/-- Nothing has turned but these cells, and the blocks of X. -/
structure Agr (X : Nat → Prop) (P : List Pd) (w w' : World) : Prop where
  size : w.heap.size ≤ w'.heap.size
  block : ∀ b, b < w.heap.size → ¬ X b → (∀ p ∈ P, p.1.1 ≠ b) → w'.heap[b]? = w.heap[b]?
  cell : ∀ b o, b < w.heap.size → ¬ X b → (∀ p ∈ P, p.1 ≠ (b, o)) → w'.cell? ⟨b, o, none⟩ = w.cell? ⟨b, o, none⟩
theorem Agr.refl (X : Nat → Prop) (P : List Pd) (w : World) : Agr X P w w := ⟨Nat.le_refl _, fun _ _ _ _ => rfl, fun _ _ _ _ _ => rfl⟩
/-- When all of these are stripped, R holds. -/
def Wnd (B : Nat) (X : Nat → Prop) (P : List Pd) (w : World) (R : World → Prop) : Prop := ∀ w', Agr X P w w' → (∀ p ∈ P, ∃ v, w'.cell? (pdA p) = some v ∧ RdSp B w' p.2 v) → R w'
theorem Wnd.end {B : Nat} {X : Nat → Prop} {w : World} {R : World → Prop} (h : Wnd B X [] w R) : R w := h w (Agr.refl _ _ _) (fun p hp => by cases hp)
/-- The world has moved on, these places as they were. -/
theorem Wnd.move {B : Nat} {X X' : Nat → Prop} {P : List Pd} {w w1 : World} {R : World → Prop} (h : Wnd B X P w R) (hs : w.heap.size ≤ w1.heap.size) (hX : ∀ b, X' b → X b ∨ w.heap.size ≤ b) (hb : ∀ b, b < w.heap.size → ¬ X b → w1.heap[b]? = w.heap[b]?) : Wnd B X' P w1 R := fun w' hA hr => by
  have nx : ∀ b, b < w.heap.size → ¬ X b → ¬ X' b := fun b hl hn q => by
    rcases hX b q with h | h
    · exact hn h
    · omega
  exact h w' ⟨Nat.le_trans hs hA.size, fun b hl hn hp => (hA.block b (Nat.lt_of_lt_of_le hl hs) (nx b hl hn) hp).trans (hb b hl hn), fun b o hl hn hp => (hA.cell b o (Nat.lt_of_lt_of_le hl hs) (nx b hl hn) hp).trans (World.cell?_of_block (w := w) (a := ⟨b, o, none⟩) (hb b hl hn))⟩ hr
/-- An empty row is one at any depth. -/
theorem Wnd.zero {B : Nat} {X : Nat → Prop} {P : List Pd} {a : Nat × Nat} {l : List (St 0)} {w : World} {R : World → Prop} (h : Wnd B X (P ++ [(a, ⟨0, l⟩)]) w R) : Wnd B X (P ++ [(a, (⟨1, []⟩ : Fo))]) w R := fun w' hA hr => by
  cases l with
  | cons x _ => exact Empty.elim x
  | nil =>
    refine h w' ⟨hA.size, fun b hl hn hp => hA.block b hl hn (fun p hp' => ?_), fun b o hl hn hp => hA.cell b o hl hn (fun p hp' => ?_)⟩ (fun p hp => ?_)
    · rcases List.mem_append.1 hp' with h | h
      · exact hp p (List.mem_append_left _ h)
      · have : p = (a, (⟨1, []⟩ : Fo)) := by simpa using h
        subst this
        exact hp (a, (⟨0, []⟩ : Fo)) (List.mem_append_right _ List.mem_cons_self)
    · rcases List.mem_append.1 hp' with h | h
      · exact hp p (List.mem_append_left _ h)
      · have : p = (a, (⟨1, []⟩ : Fo)) := by simpa using h
        subst this
        exact hp (a, (⟨0, []⟩ : Fo)) (List.mem_append_right _ List.mem_cons_self)
    · rcases List.mem_append.1 hp with h | h
      · exact hr p (List.mem_append_left _ h)
      · have : p = (a, (⟨0, []⟩ : Fo)) := by simpa using h
        subst this
        obtain ⟨v, h1, a1, cap, h2, h3, h4, _⟩ := hr (a, (⟨1, []⟩ : Fo)) (List.mem_append_right _ List.mem_cons_self)
        exact ⟨v, h1, a1, cap, h2, h3, h4, fun i hi => absurd hi (by simp)⟩
/-- The rows within a row's elements. -/
def kidC (G d : Nat) : Nat → List (St (d + 1)) → List Pd
  | _, [] => []
  | i, t :: l => ((G, i * 11 + 10), ⟨d, t.2⟩) :: kidC G d (i + 1) l
theorem kid_mem {G : Nat} : ∀ {i d : Nat} {l : List (St (d + 1))} {p : Pd}, p ∈ kidC G d i l → ∃ (j : Nat) (hj : j < l.length), p = ((G, (i + j) * 11 + 10), ⟨d, l[j].2⟩)
  | i, d, [], p, h => by cases h
  | i, d, t :: l, p, h => by
    rcases List.mem_cons.1 h with rfl | h
    · exact ⟨0, by simp, rfl⟩
    · obtain ⟨j, hj, rfl⟩ := kid_mem h
      exact ⟨j + 1, by simpa using hj, by rw [show i + 1 + j = i + (j + 1) by omega]; rfl⟩
theorem kid_of {G : Nat} : ∀ {i d : Nat} {l : List (St (d + 1))} (j : Nat) (hj : j < l.length), (((G, (i + j) * 11 + 10), ⟨d, l[j].2⟩) : Pd) ∈ kidC G d i l
  | i, d, [], j, hj => by simp at hj
  | i, d, t :: l, 0, _ => List.mem_cons_self
  | i, d, t :: l, j + 1, hj => by
    have := kid_of (G := G) (i := i + 1) (d := d) (l := l) j (by simpa using hj)
    rw [show i + 1 + j = i + (j + 1) by omega] at this
    exact List.mem_cons_of_mem _ this
/-- One row stripped by itself, and put in its place. -/
theorem Wnd.step {B : Nat} {X : Nat → Prop} {P : List Pd} {p : Pd} {w w1 : World} {R : World → Prop} {d : Nat} {l : List (St (d + 1))} {okO : Nat → Prop} {wO : World} (hp : p.2 = ⟨d + 1, l⟩) (hW : Wnd B X (P ++ [p]) w R) (hX : ∀ b, X b → b < w.heap.size) (hXp : ¬ X p.1.1) (hb : Below w.heap.size w w1) (hB : B ≤ w.heap.size) (pb : p.1.1 < w.heap.size)
    (hnd : ∀ q ∈ P, q.1 ≠ p.1) (hlt : ∀ q ∈ P, q.1.1 < w.heap.size) (hc0 : ∃ v, w.cell? (pdA p) = some v) (hu : RowG w1 w.heap.size 11 l.length (rHf d okO wO) l) (hG : w.heap.size < w1.heap.size) (hm : l.length ≤ maxLen) :
    Wnd B X (P ++ kidC w.heap.size d 0 l) (w1.setCell (pdA p) (.slice (some ⟨w.heap.size, 0, none⟩) l.length l.length)) R := by
  intro w' hA hr
  obtain ⟨u, hu'⟩ : ∃ u, Value.slice (some ⟨w.heap.size, 0, none⟩) l.length l.length = u := ⟨_, rfl⟩
  rw [hu'] at hA
  have hs2 : (w1.setCell (pdA p) u).heap.size = w1.heap.size := by simp
  have hsw := hb.size
  have hA1 := hA.size
  rw [hs2] at hA1
  have hkb : ∀ q ∈ kidC w.heap.size d 0 l, q.1.1 = w.heap.size := fun q hq => by
    obtain ⟨j, hj, rfl⟩ := kid_mem hq
    rfl
  have nofar : ∀ b o, b < w.heap.size → ¬ X b → (∀ q ∈ P ++ [p], q.1 ≠ (b, o)) → w'.cell? ⟨b, o, none⟩ = w.cell? ⟨b, o, none⟩ := fun b o hl hn hq => by
    have h1 := hA.cell b o (by rw [hs2]; omega) hn (fun q hq' => by
      rcases List.mem_append.1 hq' with h | h
      · exact hq q (List.mem_append_left _ h)
      · intro e
        have := hkb q h
        rw [e] at this
        have : b = w.heap.size := this
        omega)
    rw [h1]
    have hne : p.1 ≠ (b, o) := hq p (List.mem_append_right _ List.mem_cons_self)
    have h2 : (w1.setCell (pdA p) u).cell? ⟨b, o, none⟩ = w1.cell? ⟨b, o, none⟩ := World.cell?_setCell_other w1 (pdA p) ⟨b, o, none⟩ u (fun e => hne (by
      unfold pdA at e
      simp only [Addr.mk.injEq, and_true] at e
      exact Prod.ext e.1 e.2))
    rw [h2]
    exact hb.cell (p := ⟨b, o, none⟩) hl
  refine hW w' ⟨by omega, fun b hl hn hq => ?_, nofar⟩ (fun q hq => ?_)
  · have h1 := hA.block b (by rw [hs2]; omega) hn (fun q hq' => by
      rcases List.mem_append.1 hq' with h | h
      · exact hq q (List.mem_append_left _ h)
      · rw [hkb q h]; omega)
    rw [h1, Below.heap_setCell _ _ _ _ (fun e => hq p (List.mem_append_right _ List.mem_cons_self) e.symm)]
    exact hb.block b hl
  · rcases List.mem_append.1 hq with h | h
    · exact hr q (List.mem_append_left _ h)
    · have : q = p := by simpa using h
      subst this
      have hcell : w'.cell? (pdA q) = some u := by
        have h1 := hA.cell q.1.1 q.1.2 (by rw [hs2]; omega) hXp (fun q' hq' => by
          rcases List.mem_append.1 hq' with h | h
          · exact fun e => hnd q' h e
          · intro e
            have := hkb q' h
            rw [e] at this
            have : q.1.1 = w.heap.size := this
            omega)
        show w'.cell? ⟨q.1.1, q.1.2, none⟩ = _
        rw [h1]
        obtain ⟨v, hv⟩ := hc0
        exact cell_same4 ((hb.cell (p := pdA q) pb).trans hv)
      refine ⟨u, hcell, ?_⟩
      rw [hp]
      subst hu'
      refine ⟨some ⟨w.heap.size, 0, none⟩, l.length, by rw [List.length_map], by rw [List.length_map]; exact Nat.le_refl _, hm, fun i hi => ?_⟩
      have hil : i < l.length := by simpa using hi
      obtain ⟨cs, hk, ⟨so, si, rfl, hso, hsi⟩, hcs⟩ := hu.2 i hil
      have hkid := hr _ (List.mem_append_right _ (kid_of (G := w.heap.size) (i := 0) i hil))
      obtain ⟨v, hv1, hv2⟩ := hkid
      refine ⟨w.heap.size, 0, hdV (stH l[i].1) so v, rfl, hB, by omega, rfl, ?_, fun j x hx => ?_⟩
      · have e1 : (l.map (stS (d + 1)))[i] = stS (d + 1) l[i] := by simp
        rw [e1]
        refine ⟨so, v, rfl, ?_, hv2⟩
        refine hso.stay kp_on (fun b hb' hl => ⟨by omega, ?_⟩)
        have h1 := hA.block b (by rw [hs2]; exact hl) (fun q => by have := hX b q; omega) (fun q' hq' => by
          rcases List.mem_append.1 hq' with h | h
          · have := hlt q' h; omega
          · rw [hkb q' h]; omega)
        rw [h1]
        exact Below.heap_setCell _ _ _ _ (fun e => by have e2 : b = q.1.1 := e; omega)
      · rw [Nat.zero_add]
        by_cases hj : j = 10
        · subst hj
          have : x = v := by
            have : (hdV (stH l[i].1) so v)[10]? = some v := rfl
            rw [this] at hx
            exact (Option.some.inj hx).symm
          subst this
          rw [Nat.zero_add] at hv1
          exact hv1
        · have hj11 : j < 11 := (List.getElem?_eq_some_iff.1 hx).1
          have hx' : (hdV (stH l[i].1) so si)[j]? = some x := by
            rw [← hx]
            match j, hj11, hj with
            | 0, _, _ => rfl
            | 1, _, _ => rfl
            | 2, _, _ => rfl
            | 3, _, _ => rfl
            | 4, _, _ => rfl
            | 5, _, _ => rfl
            | 6, _, _ => rfl
            | 7, _, _ => rfl
            | 8, _, _ => rfl
            | 9, _, _ => rfl
            | 10, _, h => exact absurd rfl h
          have h1 := hA.cell w.heap.size (i * 11 + j) (by rw [hs2]; exact hG) (fun q => by have := hX _ q; omega) (fun q' hq' => by
            rcases List.mem_append.1 hq' with h | h
            · intro e; have := hlt q' h; rw [e] at this; exact absurd this (by simp)
            · obtain ⟨j', hj', rfl⟩ := kid_mem h
              intro e
              have : (0 + j') * 11 + 10 = i * 11 + j := congrArg Prod.snd e
              omega)
          rw [h1, World.cell?_setCell_far _ _ _ _ (by show q.1.1 ≠ w.heap.size; omega)]
          exact hcs j x hx'
/-- How much is left. -/
def szL : (d : Nat) → List (St d) → Nat
  | 0, _ => 1
  | d + 1, l => (l.map (fun t => szL d t.2)).sum + 1
def szF (p : Pd) : Nat := szL p.2.1 p.2.2

def StOk : (d : Nat) → St d → Prop
  | 0, t => Empty.elim t
  | d + 1, t => HdOk t.1 ∧ t.2.length ≤ 100000 ∧ ∀ x ∈ t.2, StOk d x
def FoOk (x : Fo) : Prop := x.2.length ≤ 100000 ∧ ∀ t ∈ x.2, StOk x.1 t
def POk (N : Nat) (X : Nat → Prop) (w : World) (p : Pd) : Prop :=
  N ≤ p.1.1 ∧ p.1.1 < w.heap.size ∧ w.frozen? (pdA p) = false ∧ ¬ X p.1.1 ∧ FoOk p.2 ∧ ∃ u, w.cell? (pdA p) = some u ∧ RdK (fun b => b < N) w 11 (rSt p.2.1 (fun b => b < N) w) p.2.2 u
structure PInv (N : Nat) (R : World → Prop) (X : Nat → Prop) (w : World) (v : Value) (P : List Pd) : Prop where
  row : w.ownsRow N 65 1 v P.length (P.map pdV)
  ok : ∀ p ∈ P, POk N X w p
  nd : P.Pairwise (fun a b => a.1 ≠ b.1)
  wnd : Wnd (N + 2) X P w R
  x1 : ∀ b, X b → b < w.heap.size ∧ N ≤ b
  x2 : ∀ g, v.ownBlock = some g → X g
  big : N + 2 ≤ w.heap.size
/-- The last one, an empty row, as one at depth 1. -/
theorem PInv.deep {N : Nat} {R : World → Prop} {X : Nat → Prop} {w : World} {v : Value} {P : List Pd} {p : Pd} (h : PInv N R X w v (P ++ [p])) : ∃ (d : Nat) (l : List (St (d + 1))), PInv N R X w v (P ++ [(p.1, ⟨d + 1, l⟩)]) ∧ szF p = szL (d + 1) l := by
  obtain ⟨a, d, l⟩ := p
  cases d with
  | succ d => exact ⟨d, l, h, rfl⟩
  | zero =>
    cases l with
    | cons x _ => exact Empty.elim x
    | nil =>
      refine ⟨0, [], ⟨?_, fun q hq => ?_, ?_, h.wnd.zero, h.x1, h.x2, h.big⟩, rfl⟩
      · have := h.row
        rw [List.map_append, List.length_append] at this ⊢
        exact this
      · rcases List.mem_append.1 hq with hq | hq
        · exact h.ok q (List.mem_append_left _ hq)
        · have e : q = (a, (⟨1, []⟩ : Fo)) := by simpa using hq
          subst e
          obtain ⟨h1, h2, h3, h4, h5, u, h6, a1, cap, h7, h8, h9, _⟩ := h.ok (a, (⟨0, []⟩ : Fo)) (List.mem_append_right _ List.mem_cons_self)
          exact ⟨h1, h2, h3, h4, ⟨by simp, fun t ht => by cases ht⟩, u, h6, a1, cap, h7, h8, h9, fun i hi => absurd hi (by simp)⟩
      · have := h.nd
        rw [List.pairwise_append] at this ⊢
        refine ⟨this.1, List.pairwise_singleton _ _, fun x hx y hy => ?_⟩
        have e : y = (a, (⟨1, []⟩ : Fo)) := by simpa using hy
        subst e
        exact this.2.2 x hx (a, (⟨0, []⟩ : Fo)) List.mem_cons_self
theorem kid_pair {G d : Nat} : ∀ (i : Nat) (l : List (St (d + 1))), (kidC G d i l).Pairwise (fun a b => a.1 ≠ b.1)
  | i, [] => List.Pairwise.nil
  | i, t :: l => by
    refine List.Pairwise.cons (fun q hq => ?_) (kid_pair (i + 1) l)
    obtain ⟨j, hj, rfl⟩ := kid_mem hq
    intro e
    have : i * 11 + 10 = (i + 1 + j) * 11 + 10 := congrArg Prod.snd e
    omega
theorem PInv.step {N : Nat} {R : World → Prop} {X : Nat → Prop} {w w1 w2 : World} {v v2 : Value} {P : List Pd} {a : Nat × Nat} {d : Nat} {l : List (St (d + 1))} {g : Nat} (h : PInv N R X w v (P ++ [(a, ⟨d + 1, l⟩)])) (hb : Below w.heap.size w w1) (hu : RowG w1 w.heap.size 11 l.length (rHf d (fun b => b < N) w) l) (hG : w.heap.size < w1.heap.size) (hv : v.ownBlock = some g)
    (hrow : w2.ownsRow N 65 1 v2 (P ++ kidC w.heap.size d 0 l).length ((P ++ kidC w.heap.size d 0 l).map pdV)) (hgr : (w1.setCell ⟨a.1, a.2, none⟩ (.slice (some ⟨w.heap.size, 0, none⟩) l.length l.length)).grownBy w2 (some g)) (hl2 : ∀ g', v2.ownBlock = some g' → g = g' ∨ w1.heap.size ≤ g') (hl3 : ∀ g', v2.ownBlock = some g' → g' < w2.heap.size) :
    PInv N R (fun b => X b ∨ v2.ownBlock = some b) w2 v2 (P ++ kidC w.heap.size d 0 l) := by
  have hN := h.big
  obtain ⟨U, hU⟩ : ∃ U, Value.slice (some ⟨w.heap.size, 0, none⟩) l.length l.length = U := ⟨_, rfl⟩
  rw [hU] at hgr
  have hs1 : (w1.setCell ⟨a.1, a.2, none⟩ U).heap.size = w1.heap.size := by simp
  have hXg := h.x2 g hv
  obtain ⟨g1, g2⟩ := h.x1 g hXg
  have hpo := h.ok (a, ⟨d + 1, l⟩) (List.mem_append_right _ List.mem_cons_self)
  obtain ⟨p1, p2, p3, p4, p5, u0, p6, p7⟩ := hpo
  have p1 : N ≤ a.1 := p1
  have p2 : a.1 < w.heap.size := p2
  have p4 : ¬ X a.1 := p4
  have hag : a.1 ≠ g := fun e => p4 (e ▸ hXg)
  have hsw := hb.size
  have hgs := hgr.size
  rw [hs1] at hgs
  have far : ∀ b, b < w1.heap.size → b ≠ g → w2.heap[b]? = (w1.setCell ⟨a.1, a.2, none⟩ U).heap[b]? := fun b hl hn => hgr.block b (by rw [hs1]; exact hl) (fun e => hn (Option.some.inj e))
  have far2 : ∀ b, b < w1.heap.size → b ≠ g → b ≠ a.1 → w2.heap[b]? = w1.heap[b]? := fun b hl hn hn2 => (far b hl hn).trans (Below.heap_setCell _ _ _ _ (fun e => hn2 e))
  have far3 : ∀ b, b < w.heap.size → b ≠ g → b ≠ a.1 → w2.heap[b]? = w.heap[b]? := fun b hl hn hn2 => (far2 b (by omega) hn hn2).trans (hb.block b hl)
  have low : ∀ b, b < N → b < w.heap.size → b < N ∧ w2.heap[b]? = w.heap[b]? := fun b hbN hl => ⟨hbN, far3 b hl (by omega) (by omega)⟩
  have hnd := List.pairwise_append.1 h.nd
  have hne : ∀ q ∈ P, q.1 ≠ a := fun q hq => hnd.2.2 q hq (a, ⟨d + 1, l⟩) List.mem_cons_self
  have nX : ∀ b, b < w1.heap.size → ¬ X b → ¬ (X b ∨ v2.ownBlock = some b) := fun b hl hn q => by
    rcases q with q | q
    · exact hn q
    · rcases hl2 b q with e | e
      · exact hn (e ▸ hXg)
      · omega
  refine ⟨hrow, fun q hq => ?_, ?_, ?_, fun b q => ?_, fun g' hg' => .inr hg', by omega⟩
  · rcases List.mem_append.1 hq with hq | hq
    · obtain ⟨q1, q2, q3, q4, q5, u, q6, q7⟩ := h.ok q (List.mem_append_left _ hq)
      have hqg : q.1.1 ≠ g := fun e => q4 (e ▸ hXg)
      have hblk := far q.1.1 (by omega) hqg
      have hne2 : (⟨a.1, a.2, none⟩ : Addr) ≠ pdA q := fun e => hne q hq (by
        unfold pdA at e
        simp only [Addr.mk.injEq, and_true] at e
        exact Prod.ext e.1.symm e.2.symm)
      refine ⟨q1, by omega, ?_, nX _ (by omega) q4, q5, u, ?_, q7.stay (kp_st _) low⟩
      · rw [show pdA q = ⟨q.1.1, q.1.2, none⟩ from rfl] at q3 ⊢
        rw [frozen_of_block hblk, World.frozen?_setCell, hb.frozen (p := ⟨q.1.1, q.1.2, none⟩) q2]
        exact q3
      · rw [World.cell?_of_block (w := w1.setCell ⟨a.1, a.2, none⟩ U) (a := pdA q) hblk, World.cell?_setCell_other w1 _ _ U hne2, hb.cell (p := pdA q) q2]
        exact q6
    · obtain ⟨j, hj, rfl⟩ := kid_mem hq
      obtain ⟨cs, hk, ⟨so, si, rfl, hso, hsi⟩, hcs⟩ := hu.2 j hj
      have hGg : w.heap.size ≠ g := by omega
      have hblk := far2 w.heap.size hG hGg (by omega)
      have hc10 := hcs 10 si rfl
      have hfr := (hu.1 (j * 11 + 10) (mul_in hj (by omega))).2
      refine ⟨by show N ≤ w.heap.size; omega, by show w.heap.size < _; omega, ?_, nX _ hG (fun q => absurd (show w.heap.size < w.heap.size from (h.x1 _ q).1) (Nat.lt_irrefl _)), ⟨(p5.2 _ (List.getElem_mem hj)).2.1, (p5.2 _ (List.getElem_mem hj)).2.2⟩, si, ?_, hsi.stay (kp_st d) low⟩
      · show w2.frozen? ⟨w.heap.size, (0 + j) * 11 + 10, none⟩ = false
        rw [Nat.zero_add, frozen_of_block hblk]
        exact hfr
      · show w2.cell? ⟨w.heap.size, (0 + j) * 11 + 10, none⟩ = some si
        rw [Nat.zero_add, World.cell?_of_block (w := w1) (a := ⟨w.heap.size, j * 11 + 10, none⟩) hblk]
        exact hc10
  · rw [List.pairwise_append]
    refine ⟨hnd.1, kid_pair 0 l, fun q hq k hk => ?_⟩
    obtain ⟨j, hj, rfl⟩ := kid_mem hk
    intro e
    have h1 := (h.ok q (List.mem_append_left _ hq)).2.1
    rw [e] at h1
    exact absurd h1 (by simp)
  · have hst := Wnd.step (p := (a, ⟨d + 1, l⟩)) rfl h.wnd (fun b q => (h.x1 b q).1) p4 hb hN p2 (fun q hq => hne q hq) (fun q hq => (h.ok q (List.mem_append_left _ hq)).2.1) ⟨u0, p6⟩ hu hG (by unfold maxLen; have := p5.1; simp only at this; omega)
    rw [hU] at hst
    refine hst.move (by show (w1.setCell ⟨a.1, a.2, none⟩ U).heap.size ≤ _; rw [hs1]; exact hgs) (fun b q => ?_) (fun b hl hn => ?_)
    · rcases q with q | q
      · exact .inl q
      · rcases hl2 b q with e | e
        · exact .inl (e ▸ hXg)
        · right
          show (w1.setCell ⟨a.1, a.2, none⟩ U).heap.size ≤ b
          rw [hs1]; exact e
    · have hl' : b < w1.heap.size := by
        have : b < (w1.setCell ⟨a.1, a.2, none⟩ U).heap.size := hl
        rw [hs1] at this; exact this
      exact far b hl' (fun e => hn (e ▸ hXg))
  · rcases q with q | q
    · have := h.x1 b q
      exact ⟨by omega, this.2⟩
    · refine ⟨hl3 b q, ?_⟩
      rcases hl2 b q with e | e
      · omega
      · omega
end Go.Proofs.YtifgbioacknjpaaGreatDoor

/- What the program's Strip does. -/
namespace Go.Proofs.YtifgbioacknjpaaGreatDoor
open Go.RowKit Go.Lib
set_option linter.unusedSimpArgs false
set_option linter.unusedVariables false
attribute [local go_sem ↓] Go.wp_at_zero Go.wp_at_succ

end Go.Proofs.YtifgbioacknjpaaGreatDoor

/- What a small chart is as the program has it. Math alone. -/
namespace Go.Proofs.YtifgbioacknjpaaGreatDoor
open Go.RowKit Go.Lib
set_option linter.unusedSimpArgs false
set_option linter.unusedVariables false

theorem smx_ok {x : Sx} (h : SmX x) : ExOk (clX x) ∧ cntX (clX x) ≤ 1000 := by
  obtain ⟨h1, h2⟩ := small_cln (d := x.1) (t := x.2) h
  have h3 : cntX (clX x) ≤ 1000 := h1
  exact ⟨⟨cl_cln x.1 x.2, by omega, h2⟩, h3⟩
theorem isIf_ne {v : Value} (h : isIf v = true) : v ≠ .nilIface := fun e => by rw [e] at h; exact absurd h (by decide)
theorem thO_k {o : OnC} (h : OnS o) : OnK (thO o) := by
  obtain ⟨h1, h2, h3, h4, h5⟩ := h
  refine ⟨by show o.1.length ≤ _; omega, by show o.2.2.1.length ≤ _; omega, fun hg => ?_, fun s hs => ?_⟩
  · have hg2 : (o.2.1.1 && isIf (exX o.2.1.2)) = true := hg
    rw [Bool.and_eq_true] at hg2
    obtain ⟨q1, q2⟩ := smx_ok h3
    exact ⟨q1, q2, by show exX (clX o.2.1.2) ≠ _; rw [exX_cl]; exact isIf_ne hg2.2⟩
  · obtain ⟨s', hs', rfl⟩ := List.mem_map.1 (show s ∈ o.2.2.2.1.map thT from hs)
    obtain ⟨q1, q2⟩ := h5 s' hs'
    obtain ⟨q3, q4⟩ := smx_ok q2
    exact ⟨⟨by show s'.1.length ≤ _; omega, q3⟩, q4⟩
theorem thO_cl (o : OnC) : OnCl (thO o) := ⟨fun _ => cl_cln _ _, fun s hs => by
  obtain ⟨s', hs', rfl⟩ := List.mem_map.1 (show s ∈ o.2.2.2.1.map thT from hs)
  exact cl_cln _ _⟩
theorem thS_k : ∀ (d : Nat) (t : St d), SmS d t → StK d (thS d t)
  | 0, t, _ => Empty.elim t
  | d + 1, t, h => by
    obtain ⟨⟨h1, h2, h3, h4, h5⟩, h6⟩ := h
    refine ⟨⟨by show t.1.1.1.length ≤ _; omega, by show t.1.2.2.1.1.length ≤ _; omega, by show t.1.2.2.1.2.length ≤ _; omega, fun o ho => ?_⟩, fun x hx => ?_⟩
    · obtain ⟨o', ho', rfl⟩ := List.mem_map.1 (show o ∈ t.1.2.2.2.2.map thO from ho)
      exact thO_k (h5 o' ho')
    · obtain ⟨x', hx', rfl⟩ := List.mem_map.1 (show x ∈ t.2.map (thS d) from hx)
      exact thS_k d x' (h6 x' hx')
theorem thS_cl : ∀ (d : Nat) (t : St d), StCl d (thS d t)
  | 0, t => Empty.elim t
  | d + 1, t => ⟨fun o ho => by
      obtain ⟨o', ho', rfl⟩ := List.mem_map.1 (show o ∈ t.1.2.2.2.2.map thO from ho)
      exact thO_cl o', fun x hx => by
      obtain ⟨x', hx', rfl⟩ := List.mem_map.1 (show x ∈ t.2.map (thS d) from hx)
      exact thS_cl d x'⟩
theorem chK_th {d : Nat} {c : ChD d} (h : SmCh d c) (hw : WfC d c) : ChK d (thC d c) := by
  obtain ⟨h1, h2, h3, h4⟩ := h
  refine ⟨by show c.1.1.length ≤ _; omega, fun x hx => hw.2.1 x hx, fun t ht => ?_⟩
  obtain ⟨t', ht', rfl⟩ := List.mem_map.1 (show t ∈ c.2.2.2.map (thS d) from ht)
  exact thS_k d t' (h4 t' ht')
theorem chCl_th {d : Nat} (c : ChD d) : ∀ t ∈ (thC d c).2.2.2, StCl d t := fun t ht => by
  obtain ⟨t', ht', rfl⟩ := List.mem_map.1 (show t ∈ c.2.2.2.map (thS d) from ht)
  exact thS_cl d t'
end Go.Proofs.YtifgbioacknjpaaGreatDoor
