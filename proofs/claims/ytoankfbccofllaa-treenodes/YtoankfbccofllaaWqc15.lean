import Derived.Test.YtoankfbccofllaaWqc14
import Derived.Test.YtoankfbccofllaaWqc07
import Derived.Test.YtoankfbccofllaaWqc09
import Derived.Test.YtoankfbccofllaaWqc06
import Derived.Test.YtoankfbccofllaaWqc11
import Derived.Test.YtoankfbccofllaaWqc02
import Derived.Deep.LoopGhost
import Derived.Test.YtoankfbccofllaaRows
import Derived.Test.YtoankfbccofllaaWqc04
import Derived.Deep.RegionHeldLaw
import Derived.Lib.AppendIntMem
import Derived.Test.YtoankfbccofllaaWqc10
import Derived.Test.YtoankfbccofllaaWqc08
import Derived.Test.YtoankfbccofllaaWqc12
import Derived.Test.YtoankfbccofllaaWqc01
import Derived.ProofKit
import Derived.OpenShut
import Derived.ShutString
import Derived.ChangeOld
import Derived.SizedLaws
import Derived.Below

/- What tumbrellaw06.Theirs does: the document's chart as the program's. -/
namespace Go.Proofs.Ytoankfbccofllaa
open Go.RowKit Go.Lib
set_option linter.unusedSimpArgs false
set_option linter.unusedVariables false
attribute [local go_sem ↓] Go.wp_at_zero Go.wp_at_succ

theorem their_res {w4 : World} {R : Nat} {a b c d e f : Value} {tmps : Array Value} (hR : Bn w4 R [a, b, c, d, e, f]) (ht : tmps.getD 2 undef = .pointer (some ⟨R, 0, none⟩)) : (results Try.f8 tmps).run Try.prog w4 = .ok (.agg #[a, b, c, d, e, f]) w4 := by
  have ht' : tmps[2]?.getD undef = .pointer (some ⟨R, 0, none⟩) := by simpa using ht
  have c0 := (hR 0 _ rfl).1
  have c1 := (hR 1 _ rfl).1
  have c2 := (hR 2 _ rfl).1
  have c3 := (hR 3 _ rfl).1
  have c4 := (hR 4 _ rfl).1
  have c5 := (hR 5 _ rfl).1
  simp [results, Try.results8, go_sem, ht', c0, c1, c2, c3, c4, c5]
set_option maxRecDepth 100000 in
set_option maxHeartbeats 16000000 in
theorem theirs_ch {ok : Nat → Prop} {w : World} {d : Nat} {c : ChD d} {v : Value} (h : RdD ok w d c v) (hok : ∀ t ∈ c.2.2.2, SmS d t) (hl1 : totS d c.2.2.2 ≤ 400) (hl2 : c.2.2.1.length ≤ 3001) :
    Calls Try.prog 8 #[v] w fun e w' => ∃ u, e = .returned u ∧ RdC (fun b => w.heap.size ≤ b) w' d (thC d c) u ∧ Below w.heap.size w w' := by
  obtain ⟨iv, hiv, hiv0, hiv1, hiv2⟩ := info_parts Try.infoVar
  obtain ⟨sv, ss, rfl, hv, hs⟩ := h
  obtain ⟨a, cap, rfl, hlc, hcm⟩ := hv.form
  obtain ⟨p4, p6, rfl, _⟩ := hs.form
  unfold maxLen at hcm
  have HV := mkHid hv
  have hcall := fun w1 (b1 : Below w.heap.size w w1) => ts_any d ok w1 c.2.2.2 _ (hs.stay (kp_stD d) (fun k hk hl => ⟨hk, b1.block k hl⟩)) hok hl1
  obtain ⟨nv, hnv⟩ : ∃ nv, sD c.1.1 = .string nv := ⟨_, rfl⟩
  obtain ⟨n, hn⟩ : ∃ n, c.2.2.1.length = n := ⟨_, rfl⟩
  obtain ⟨i, hi⟩ : ∃ n, c.2.2.2.length = n := ⟨_, rfl⟩
  obtain ⟨vn, hvn⟩ : ∃ x, c.2.1 = x := ⟨_, rfl⟩
  obtain ⟨ln, hln⟩ : ∃ x, c.1.2.1 = x := ⟨_, rfl⟩
  obtain ⟨co, hco⟩ : ∃ x, c.1.2.2 = x := ⟨_, rfl⟩
  rw [hnv, hvn, hln, hco, hi, hn]
  rw [hi] at hcall
  rw [hn] at hlc hl2
  have HN : Hid (c.2.2.1.length = n) := hn
  have HR : Hid (∀ (ok' : Nat → Prop) (w' : World) (a' : Option Addr) (c' : Nat) (b' : Option Addr) (e' : Nat), RdK ok' w' 4 (rVar ok' w') c.2.2.1 (.slice a' n c') → RdK ok' w' 11 (rSt d ok' w') (c.2.2.2.map (thS d)) (.slice b' i e') → RdC ok' w' d (thC d c) (.agg #[.string nv, .int .i64 vn, .int .i64 ln, .int .i64 co, .slice a' n c', .slice b' i e'])) := by
    intro ok' w' a' c' b' e' h1 h2
    refine ⟨_, _, ?_, h1, h2⟩
    show _ = Value.agg #[sV c.1.1, .int .i64 c.2.1, .int .i64 c.1.2.1, .int .i64 c.1.2.2, _, _]
    rw [show sV c.1.1 = sD c.1.1 from rfl, hnv, hvn, hln, hco]
  have hcall2 : ∀ w1, Below w.heap.size w w1 → Calls Try.prog 21 #[.slice p4 i p6] w1 fun e w' => ∃ iq ic, e = .returned (.slice iq i ic) ∧ RdK (fun b => w1.heap.size ≤ b) w' 11 (rSt d (fun b => w1.heap.size ≤ b) w') (c.2.2.2.map (thS d)) (.slice iq i ic) ∧ Below w1.heap.size w1 w' := fun w1 b1 => (hcall w1 b1).mono (fun e w' hh => by
    obtain ⟨u, h1, h2, h3⟩ := hh
    obtain ⟨iq, ic, rfl, _⟩ := h2.form
    rw [List.length_map, hi] at h1 h2
    exact ⟨iq, ic, h1, h2, h3⟩)
  clear hcall hv hs hok hl1 hn hi hnv hvn hln hco
  have hal : Below w.heap.size w ((w.alloc (.cells #[.string nv, .int .i64 vn, .int .i64 ln, .int .i64 co, .slice a n cap, .slice p4 i p6] 27)).alloc (.cells #[.string ⟨#[]⟩, .int .i64 0, .int .i64 0, .int .i64 0, .slice none 0 0, .slice none 0 0] 37)) := ((Below.refl w.heap.size w).alloc (Nat.le_refl _) _).alloc (by simp) _
  have hX : Bn ((w.alloc (.cells #[.string nv, .int .i64 vn, .int .i64 ln, .int .i64 co, .slice a n cap, .slice p4 i p6] 27)).alloc (.cells #[.string ⟨#[]⟩, .int .i64 0, .int .i64 0, .int .i64 0, .slice none 0 0, .slice none 0 0] 37)) w.heap.size [.string nv, .int .i64 vn, .int .i64 ln, .int .i64 co, .slice a n cap, .slice p4 i p6] := (Bn.new w [.string nv, .int .i64 vn, .int .i64 ln, .int .i64 co, .slice a n cap, .slice p4 i p6] 27 _ rfl).on ((Below.refl _ _).alloc (Nat.le_refl _) _)
  have hR : Bn ((w.alloc (.cells #[.string nv, .int .i64 vn, .int .i64 ln, .int .i64 co, .slice a n cap, .slice p4 i p6] 27)).alloc (.cells #[.string ⟨#[]⟩, .int .i64 0, .int .i64 0, .int .i64 0, .slice none 0 0, .slice none 0 0] 37)) (w.heap.size + 1) [.string ⟨#[]⟩, .int .i64 0, .int .i64 0, .int .i64 0, .slice none 0 0, .slice none 0 0] := Bn.new (w.alloc (.cells #[.string nv, .int .i64 vn, .int .i64 ln, .int .i64 co, .slice a n cap, .slice p4 i p6] 27)) [.string ⟨#[]⟩, .int .i64 0, .int .i64 0, .int .i64 0, .slice none 0 0, .slice none 0 0] 37 _ (by simp)
  have hsz : ((w.alloc (.cells #[.string nv, .int .i64 vn, .int .i64 ln, .int .i64 co, .slice a n cap, .slice p4 i p6] 27)).alloc (.cells #[.string ⟨#[]⟩, .int .i64 0, .int .i64 0, .int .i64 0, .slice none 0 0, .slice none 0 0] 37)).heap.size = w.heap.size + 2 := by simp
  go_enter Try.func8, Try.ntmps8
  go_upto_region 1 with fail
  generalize ((w.alloc (.cells #[.string nv, .int .i64 vn, .int .i64 ln, .int .i64 co, .slice a n cap, .slice p4 i p6] 27)).alloc (.cells #[.string ⟨#[]⟩, .int .i64 0, .int .i64 0, .int .i64 0, .slice none 0 0, .slice none 0 0] 37)) = wx at *
  obtain ⟨S, hS⟩ : ∃ S, w.heap.size = S := ⟨_, rfl⟩
  rw [hS] at hX hR hsz ⊢
  have HS : Hid (w.heap.size = S) := hS
  have hbx : Below w.heap.size w wx := hal
  have hSw : w.heap.size ≤ S := by omega
  clear hS hal
  go_cut [3] (fun u3 wc => ∃ Q iq ic, u3 = .pointer (some ⟨Q, 0, none⟩) ∧ S + 2 ≤ Q ∧ Bn wc Q [.string nv, .int .i64 vn, .int .i64 ln, .int .i64 co, .slice none 0 0, .slice iq i ic] ∧ RdK (fun k => S + 2 ≤ k ∧ k ≠ Q) wc 11 (rSt d (fun k => S + 2 ≤ k ∧ k ≠ Q) wc) (c.2.2.2.map (thS d)) (.slice iq i ic) ∧ Below (S + 2) wx wc)
  case first =>
    have hbz : Below w.heap.size w (wx.alloc (.cells #[.string ⟨#[]⟩, .int .i64 0, .int .i64 0, .int .i64 0, .slice none 0 0, .slice none 0 0] 37)) := hbx.alloc hbx.size _
    have hZ0 : Bn (wx.alloc (.cells #[.string ⟨#[]⟩, .int .i64 0, .int .i64 0, .int .i64 0, .slice none 0 0, .slice none 0 0] 37)) (S + 2) [.string ⟨#[]⟩, .int .i64 0, .int .i64 0, .int .i64 0, .slice none 0 0, .slice none 0 0] := Bn.new wx [.string ⟨#[]⟩, .int .i64 0, .int .i64 0, .int .i64 0, .slice none 0 0, .slice none 0 0] 37 _ hsz.symm
    have hzx : (wx.alloc (.cells #[.string ⟨#[]⟩, .int .i64 0, .int .i64 0, .int .i64 0, .slice none 0 0, .slice none 0 0] 37)).heap.size = S + 3 := by simp; omega
    have n1 : S ≠ S + 2 := by omega
    obtain ⟨X0, _⟩ := hX 0 _ rfl
    obtain ⟨X1, _⟩ := hX 1 _ rfl
    obtain ⟨X2, _⟩ := hX 2 _ rfl
    obtain ⟨X3, _⟩ := hX 3 _ rfl
    obtain ⟨X5, _⟩ := hX 5 _ rfl
    clear HV HR hR
    go_region_held_law (fun w' => w'.cell? ⟨S, 0, none⟩ = some (.string nv) ∧ w'.cell? ⟨S, 1, none⟩ = some (.int .i64 vn) ∧ w'.cell? ⟨S, 2, none⟩ = some (.int .i64 ln) ∧ w'.cell? ⟨S, 3, none⟩ = some (.int .i64 co) ∧ w'.cell? ⟨S, 5, none⟩ = some (.slice p4 i p6))
      (((refine ⟨?_, ?_, ?_, ?_, ?_⟩ <;> (repeat (first | (with_reducible exact X0) | (with_reducible exact X1) | (with_reducible exact X2) | (with_reducible exact X3) | (with_reducible exact X5) | (with_reducible exact Y0) | (with_reducible exact Y1) | (with_reducible exact Y2) | (with_reducible exact Y3) | (with_reducible exact Y5) | (with_reducible refine cell_al ?_) | (with_reducible refine cell_dr ?_) | (with_reducible refine cell_far4 (ne_pt n1) ?_) | (with_reducible refine cell_far4 (ne_pt n2) ?_))) <;> done)))
      (first
        | (go_at_call 21; (with_reducible refine (hcall2 _ hbx.drew).mono ?_); rintro e w1 ⟨iq, ic, rfl, hr1, b1⟩; have bw : Below wx.heap.size wx w1 := ((Below.refl _ wx).drew).trans b1; have n2 : S ≠ w1.heap.size := (by have := bw.size; omega); have kc : ∀ p u, wx.cell? p = some u → w1.cell? p = some u := fun p u hp => (by rw [bw.cell (World.block_lt_of_cell? wx _ hp)]; exact hp); have Y0 := kc _ _ X0; have Y1 := kc _ _ X1; have Y2 := kc _ _ X2; have Y3 := kc _ _ X3; have Y5 := kc _ _ X5)
        | (go_at_call 21; (with_reducible refine (hcall2 _ hbz.drew).mono ?_); rintro e w1 ⟨iq, ic, rfl, hr1, b1⟩; have bz : Below (wx.alloc (.cells #[.string ⟨#[]⟩, .int .i64 0, .int .i64 0, .int .i64 0, .slice none 0 0, .slice none 0 0] 37)).heap.size (wx.alloc (.cells #[.string ⟨#[]⟩, .int .i64 0, .int .i64 0, .int .i64 0, .slice none 0 0, .slice none 0 0] 37)) w1 := ((Below.refl _ (wx.alloc (.cells #[.string ⟨#[]⟩, .int .i64 0, .int .i64 0, .int .i64 0, .slice none 0 0, .slice none 0 0] 37))).drew).trans b1; have bw : Below wx.heap.size wx w1 := ((Below.refl wx.heap.size wx).alloc (Nat.le_refl _) (.cells #[.string ⟨#[]⟩, .int .i64 0, .int .i64 0, .int .i64 0, .slice none 0 0, .slice none 0 0] 37)).trans (bz.mono (by rw [hsz, hzx]; omega)); have kc : ∀ p u, wx.cell? p = some u → w1.cell? p = some u := fun p u hp => (by rw [bw.cell (World.block_lt_of_cell? wx _ hp)]; exact hp); have Y0 := kc _ _ X0; have Y1 := kc _ _ X1; have Y2 := kc _ _ X2; have Y3 := kc _ _ X3; have Y5 := kc _ _ X5; have hZ := hZ0.on bz; obtain ⟨z0, f0⟩ := hZ 0 _ rfl; obtain ⟨z1, f1⟩ := hZ 1 _ rfl; obtain ⟨z2, f2⟩ := hZ 2 _ rfl; obtain ⟨z3, f3⟩ := hZ 3 _ rfl; obtain ⟨z4, f4⟩ := hZ 4 _ rfl; obtain ⟨z5, f5⟩ := hZ 5 _ rfl)
        | fail)
    · have bw2 : Below (S + 2) wx w1 := by rw [← hsz]; exact bw
      have hs1 : S + 2 ≤ w1.heap.size := by have := bw.size; omega
      have hr2 := hr1.stay (kp_st d) (ok' := fun k => S + 2 ≤ k ∧ k ≠ w1.heap.size) (w' := w1.alloc (.cells #[.string nv, .int .i64 vn, .int .i64 ln, .int .i64 co, .slice none 0 0, .slice iq i ic] 37)) (fun k hk hl => ⟨⟨by have hk' : wx.heap.size ≤ k := hk; omega, by omega⟩, ((Below.refl w1.heap.size w1).alloc (Nat.le_refl _) _).block k hl⟩)
      go_wp2
      go_meet
      case rel => exact ⟨w1.heap.size, iq, ic, rfl, hs1, Bn.new w1 [.string nv, .int .i64 vn, .int .i64 ln, .int .i64 co, .slice none 0 0, .slice iq i ic] 37 _ rfl, hr2, bw2.alloc hs1 _⟩
    · have bw2 : Below (S + 2) wx w1 := by rw [← hsz]; exact bw
      have hQ2 := ((((((hZ.set (i := 0) (by simp) (.string nv)).set (i := 1) (by simp) (.int .i64 vn)).set (i := 2) (by simp) (.int .i64 ln)).set (i := 3) (by simp) (.int .i64 co)).set (i := 4) (by simp) (.slice none 0 0)).set (i := 5) (by simp) (.slice iq i ic))
      have hb2 := putL_below [.string nv, .int .i64 vn, .int .i64 ln, .int .i64 co, .slice none 0 0, .slice iq i ic] w1 (S + 2) 0 bw2 (Nat.le_refl _)
      have hr2 := hr1.stay (kp_st d) (ok' := fun k => S + 2 ≤ k ∧ k ≠ S + 2) (w' := putL w1 (S + 2) 0 [.string nv, .int .i64 vn, .int .i64 ln, .int .i64 co, .slice none 0 0, .slice iq i ic]) (fun k hk hl => ⟨by have hk' : (wx.alloc (.cells #[.string ⟨#[]⟩, .int .i64 0, .int .i64 0, .int .i64 0, .slice none 0 0, .slice none 0 0] 37)).heap.size ≤ k := hk; omega, putL_heap _ _ _ _ _ (by have hk' : (wx.alloc (.cells #[.string ⟨#[]⟩, .int .i64 0, .int .i64 0, .int .i64 0, .slice none 0 0, .slice none 0 0] 37)).heap.size ≤ k := hk; omega)⟩)
      go_wp2
      go_meet
      case rel => exact ⟨S + 2, iq, ic, rfl, Nat.le_refl _, hQ2, hr2, hb2⟩
  case rest =>
    obtain ⟨Q, iq, ic, rfl, hQ, hQb, hQr, hbq⟩ := hcut
    have hXc := hX.blk (hbq.block S (by omega))
    have hRc := hR.blk (hbq.block (S + 1) (by omega))
    have hbw := hbx.trans (hbq.mono (by omega))
    obtain ⟨wk, hwk⟩ : ∃ x, x = wc := ⟨_, rfl⟩
    subst hwk
    have hql : Q < wk.heap.size := hQb.lt
    have hws := hXc.lt
    have hwr := hRc.lt
    obtain ⟨x4, _⟩ := hXc 4 _ rfl
    go_wp2
    go_loopw [18] (fun ix wr => ∃ (j : Nat) (sl2 : Value), j ≤ n ∧ ix = .int .i64 (j : Int) ∧ Bn wr Q [.string nv, .int .i64 vn, .int .i64 ln, .int .i64 co, sl2, .slice iq i ic] ∧ OwnB wr wk.heap.size (fun _ => False) 69 4 rVar sl2 (c.2.2.1.take j) ∧ Fx Q wk wr) (fun ix _ => n - (RowKit.intOf ix).toNat)
    case atStart => exact ⟨0, _, Nat.zero_le _, rfl, hQb, ownB_nil _ _ _ _ _ _, Fx.refl _ _⟩
    case round =>
      clear x4
      obtain ⟨j, sl2, hj, rfl, hQB, hRow, hF⟩ := hrel
      obtain ⟨acj, hacj⟩ : ∃ acj, c.2.2.1.take j = acj := ⟨_, rfl⟩
      have hlj : acj.length = j := by rw [← hacj, List.length_take, HN.out]; omega
      rw [hacj] at hRow
      have HACJ : Hid (c.2.2.1.take j = acj) := hacj
      clear hacj
      obtain ⟨ra, rc, rfl, hrl, hrm⟩ := hRow.form
      rw [hlj] at hRow hQB hrl
      have hXr := hXc.fx hF (by omega)
      have hFs := hF.size
      have hbr : Below w.heap.size w wr := hF.bel hbw (by omega) (Nat.le_refl _)
      by_cases hjl : j < n
      · have hjt : j < c.2.2.1.length := by rw [HN.out]; exact hjl
        obtain ⟨b, off, rfl, hbl, hc⟩ := varQ_at (show RdK ok w 4 (rVar ok w) c.2.2.1 _ from HV.out) j hjt
        obtain ⟨q, hq⟩ : ∃ q, c.2.2.1[j] = q := ⟨_, rfl⟩
        rw [hq] at hc
        obtain ⟨sn, sv, sl, sc, hsv⟩ : ∃ sn sv sl sc, varV q = [.string sn, .int .i64 sv, .int .i64 sl, .int .i64 sc] := ⟨_, _, _, _, rfl⟩
        rw [hsv] at hc
        have hp : rVar (fun b => wr.heap.size ≤ b) wr q [.string sn, .int .i64 sv, .int .i64 sl, .int .i64 sc] := hsv.symm
        have HQ : Hid (c.2.2.1[j] = q) := hq
        clear hsv hq
        have C0 := (hbr.cell (p := ⟨b, off + j * 4 + 0, none⟩) hbl).trans (hc 0 _ rfl)
        have C1 := (hbr.cell (p := ⟨b, off + j * 4 + 1, none⟩) hbl).trans (hc 1 _ rfl)
        have C2 := (hbr.cell (p := ⟨b, off + j * 4 + 2, none⟩) hbl).trans (hc 2 _ rfl)
        have C3 := (hbr.cell (p := ⟨b, off + j * 4 + 3, none⟩) hbl).trans (hc 3 _ rfl)
        rw [Nat.add_zero] at C0
        clear hc
        obtain ⟨P4, _⟩ := hXr 4 _ rfl
        obtain ⟨k4, z4⟩ := hQB 4 _ rfl
        have i3 : (j : Int) < (n : Int) := by omega
        have i4 : (0 : Int) ≤ (j : Int) := by omega
        have hali := (Below.refl wr.heap.size wr).alloc (Nat.le_refl _) (.cells #[.string sn, .int .i64 sv, .int .i64 sl, .int .i64 sc] 69)
        have hQa := hQB.on hali
        obtain ⟨m4, o4⟩ := hQa 4 _ rfl
        go_upto_region 5 with fail
        go_region_law (first
          | (refine step_pushB wr.drew rfl _ _ 34 rfl wk.heap.size (fun _ => False) 69 iv (.agg #[.string ⟨#[]⟩, .int .i64 0, .int .i64 0, .int .i64 0]) 4 40 Try.underlying34 hiv hiv0 hiv1 hiv2 rfl kp_var (.slice ra j rc) acj q [.string sn, .int .i64 sv, .int .i64 sl, .int .i64 sc] wr.heap.size rfl rfl rfl (by simp [Value.oneCell']) hRow hp hFs (fun x hx => (hRow.lt x hx).2) (fun b hb => hb.elim) (by omega) (by unfold maxLen; omega) hFs ?_; intro vb wb hOb2 hgb2 hbb hat; have hBb := hQB.blk (hbb.block _ hql); obtain ⟨m5, n5⟩ := hBb 4 _ rfl; obtain ⟨vba, vbc, hvb, hvbl, hvbm⟩ := hOb2.form; rw [List.length_append, List.length_singleton, hlj] at hvb; subst hvb)
          | fail)
        all_goals (
          have hBc := hBb.set (i := 4) (by simp) (.slice vba (j + 1) vbc)
          have hRc2 := hOb2.set kp_var (X := Q) (i := 4) hql (.slice vba (j + 1) vbc)
          have hFc := ((hF.drew).andD hbb (Nat.le_refl _)).setX (i := 4) (.slice vba (j + 1) vbc)
          have hac2 : c.2.2.1.take (j + 1) = acj ++ [q] := by rw [List.take_succ_eq_append_getElem hjt, HACJ.out, HQ.out]
          clear hQa m4 o4 hali hgb2 hbb hat hBb m5 n5 hOb2 k4 z4 P4 C0 C1 C2 C3
          go_wp2
          go_roundw
          case rel => exact ⟨j + 1, _, hjl, by go_num, hBc, by rw [hac2]; exact hRc2, hFc⟩
          case measure => simp [RowKit.intOf]; omega)
      · have i3 : ¬ (j : Int) < (n : Int) := by omega
        have hjn : j = n := by omega
        subst hjn
        have hfull : acj = c.2.2.1 := by rw [← HACJ.out]; exact List.take_of_length_le (by rw [HN.out]; omega)
        have hRr := hRc.fx hF (by omega)
        have hS2 := HS.out
        have hvars := (hRow.rd kp_var).stay kp_var (ok' := fun b => S + 2 ≤ b) (w' := putL wr (S + 1) 0 [.string nv, .int .i64 vn, .int .i64 ln, .int .i64 co, .slice ra j rc, .slice iq i ic]) (fun b hb hl => ⟨by omega, putL_heap _ _ _ _ _ (by omega)⟩)
        rw [hfull] at hvars
        have hstates := hQr.stay (kp_st d) (ok' := fun b => S + 2 ≤ b) (w' := putL wr (S + 1) 0 [.string nv, .int .i64 vn, .int .i64 ln, .int .i64 co, .slice ra j rc, .slice iq i ic]) (fun b hb hl => ⟨hb.1, (putL_heap _ _ _ _ _ (by omega)).trans (hF.block b hl (fun e => hb.2 (Option.some.inj e)))⟩)
        have hfin := HR.out _ _ _ _ _ _ (hvars.stay kp_var (ok' := fun b => w.heap.size ≤ b) (fun b hb hl => ⟨by omega, rfl⟩)) (hstates.stay (kp_st d) (ok' := fun b => w.heap.size ≤ b) (fun b hb hl => ⟨by omega, rfl⟩))
        have hbz := putL_below [.string nv, .int .i64 vn, .int .i64 ln, .int .i64 co, .slice ra j rc, .slice iq i ic] wr (S + 1) 0 hbr (by omega)
        clear hS2
        obtain ⟨t0, _⟩ := hQB 0 _ rfl
        obtain ⟨r0, f0⟩ := hRr 0 _ rfl
        obtain ⟨t1, _⟩ := hQB 1 _ rfl
        obtain ⟨r1, f1⟩ := hRr 1 _ rfl
        obtain ⟨t2, _⟩ := hQB 2 _ rfl
        obtain ⟨r2, f2⟩ := hRr 2 _ rfl
        obtain ⟨t3, _⟩ := hQB 3 _ rfl
        obtain ⟨r3, f3⟩ := hRr 3 _ rfl
        obtain ⟨t4, _⟩ := hQB 4 _ rfl
        obtain ⟨r4, f4⟩ := hRr 4 _ rfl
        obtain ⟨t5, _⟩ := hQB 5 _ rfl
        obtain ⟨r5, f5⟩ := hRr 5 _ rfl
        have hRz := (((((hRr.set (i := 0) (by simp) (.string nv)).set (i := 1) (by simp) (.int .i64 vn)).set (i := 2) (by simp) (.int .i64 ln)).set (i := 3) (by simp) (.int .i64 co)).set (i := 4) (by simp) (.slice ra j rc)).set (i := 5) (by simp) (.slice iq i ic)
        go_wp2
        exact bodyPost_ret (their_res hRz rfl) rfl ⟨_, rfl, hfin, hbz⟩

theorem flM_len : ∀ (d k : Nat) (l : List (St d)), (flM d k (l.map (thS d))).length = totS d l
  | 0, k, l => by simp [flM, totS]
  | d + 1, k, [] => by simp [flM, totS]
  | d + 1, k, t :: r => by
    have h1 := flM_len d (k + 1) t.2
    have h2 := flM_len (d + 1) k r
    have e : flM (d + 1) k ((t :: r).map (thS (d + 1))) = (k, ⟨d + 1, thS (d + 1) t⟩) :: (flM d (k + 1) (t.2.map (thS d)) ++ flM (d + 1) k (r.map (thS (d + 1)))) := by
      simp only [flM, List.map_cons, List.flatMap_cons, List.cons_append]
      rfl
    rw [e, List.length_cons, List.length_append, h1, h2]
    show _ = ((t :: r).map (fun t : St (d + 1) => 1 + totS d t.2)).sum
    rw [List.map_cons, List.sum_cons]
    show totS d t.2 + totS (d + 1) r + 1 = 1 + totS d t.2 + totS (d + 1) r
    omega
theorem flM_names : ∀ (d k : Nat) (l : List (St d)), (∀ t ∈ l, SmS d t) → ∀ y ∈ flM d k (l.map (thS d)), (nd0 y).1.size ≤ 140737488351232
  | 0, k, l, _, y, hy => by simp [flM] at hy
  | d + 1, k, l, h, y, hy => by
    simp only [flM, List.mem_flatMap, List.mem_map, List.mem_cons] at hy
    obtain ⟨u, ⟨t, ht, rfl⟩, hy⟩ := hy
    have hs := h t ht
    rcases hy with rfl | hy
    · have h1 : t.1.1.1.length ≤ 20050 := hs.1.1
      show t.1.1.1.toArray.size ≤ _
      simp
      omega
    · exact flM_names d (k + 1) t.2 hs.2 y hy
theorem rdC_letT {ok : Nat → Prop} {w : World} {d : Nat} {c : ChG d} {v : Value} (h : RdC ok w d c v) : ∃ a b e f g h' i j k l, v = .agg #[.string a, .int .i64 b, .int .i64 e, .int .i64 f, .slice g h' i, .slice j k l] := by
  obtain ⟨sv, ss, rfl, h1, h2⟩ := h
  obtain ⟨a, cap, rfl, _⟩ := h1.form
  obtain ⟨a', cap', rfl, _⟩ := h2.form
  exact ⟨_, _, _, _, _, _, _, _, _, _, rfl⟩
theorem rdD_letT {ok : Nat → Prop} {w : World} {d : Nat} {c : ChD d} {v : Value} (h : RdD ok w d c v) : ∃ a b e f g h' i j k l, v = .agg #[.string a, .int .i64 b, .int .i64 e, .int .i64 f, .slice g h' i, .slice j k l] := by
  obtain ⟨sv, ss, rfl, h1, h2⟩ := h
  obtain ⟨a, cap, rfl, _⟩ := h1.form
  obtain ⟨a', cap', rfl, _⟩ := h2.form
  exact ⟨_, _, _, _, _, _, _, _, _, _, rfl⟩
/-- Theirs, then Nodes: the nodes of the chart. -/
theorem nodes_th {ok : Nat → Prop} {w : World} {d : Nat} {c : ChD d} {v : Value} (hsm : SmCh d c) (h : RdC ok w d (thC d c) v) (hok : ∀ b, ok b → b < w.heap.size) :
    Calls Try.prog 7 #[v] w fun e w' => ∃ ra rn rc l, e = .returned (.slice ra rn rc) ∧ RdNd (fun b => w.heap.size ≤ b) w' l (.slice ra rn rc) ∧ fmB l = true ∧ l.length = rn ∧ l = ndsM (flM d 0 (thC d c).2.2.2) ∧ Below w.heap.size w w' := by
  refine (tnodes_any h hok (by show (flM d 0 (c.2.2.2.map (thS d))).length ≤ _; rw [flM_len]; have := hsm.2.2.1; omega) (flM_names d 0 c.2.2.2 hsm.2.2.2)).mono ?_
  rintro e w' ⟨r, rfl, hr, hb⟩
  obtain ⟨a, cap, rfl, _⟩ := hr.form
  exact ⟨_, _, _, _, rfl, hr, ndsM_formed d _, rfl, rfl, hb⟩
theorem RdS.at' {w : World} {v : Value} {ls : List ByteArray} (h : RdS w v ls) : ∃ a cap, v = .slice a ls.length cap ∧ ls.length ≤ maxLen ∧ ∀ (i : Nat) (hi : i < ls.length), ∃ g, a = some ⟨g, 0, none⟩ ∧ w.cell? ⟨g, i, none⟩ = some (.string ls[i]) := by
  rcases h.form with ⟨rfl, rfl⟩ | ⟨g, cap, rfl, h1, h2, h3⟩
  · exact ⟨none, 0, rfl, by simp [maxLen], fun i hi => by simp at hi⟩
  · exact ⟨_, _, rfl, by omega, fun i hi => ⟨g, rfl, h3 i hi⟩⟩
end Go.Proofs.Ytoankfbccofllaa

/- Nothing of it is needed here. -/
namespace Go.Proofs.Ytoankfbccofllaa
end Go.Proofs.Ytoankfbccofllaa

/- binText, operandText, textOf: the text of an expression. -/
namespace Go.Proofs.Ytoankfbccofllaa
open Go.RowKit Go.Lib
set_option linter.unusedSimpArgs false
set_option linter.unusedVariables false
attribute [local go_sem ↓] Go.wp_at_zero Go.wp_at_succ
attribute [local go_sem] as_lit_lit as_ref_lit as_ref_ref as_not_lit as_not_ref as_not_not as_neg_lit as_neg_ref as_neg_not as_neg_neg as_bin_lit as_bin_ref as_bin_not as_bin_neg as_bin_bin
/-- The table of powers of ten. -/
def Pow (w : World) : Prop := Lib.TabIs Try.prog w "internal/strconv.uint64pow10" .u64 Lib.pow10Tab
theorem Pow.below {w w' : World} (h : Pow w) (hb : Below w.heap.size w w') : Pow w' := tabBelow_of_tabIs h w' hb
theorem as_lit_bin (w : World) (n : Value) : (Instr.typeAssert (.iface 102 (.agg #[n])) 88 109 true).run Try.prog w = .ok (.tuple #[.agg #[.string ⟨#[]⟩, .nilIface, .nilIface], .bool false]) w := by kernel_rfl
theorem as_ref_bin (w : World) (n : Value) : (Instr.typeAssert (.iface 104 (.agg #[n])) 88 109 true).run Try.prog w = .ok (.tuple #[.agg #[.string ⟨#[]⟩, .nilIface, .nilIface], .bool false]) w := by kernel_rfl
theorem as_not_bin (w : World) (n : Value) : (Instr.typeAssert (.iface 106 (.agg #[n])) 88 109 true).run Try.prog w = .ok (.tuple #[.agg #[.string ⟨#[]⟩, .nilIface, .nilIface], .bool false]) w := by kernel_rfl
theorem as_neg_bin (w : World) (n : Value) : (Instr.typeAssert (.iface 107 (.agg #[n])) 88 109 true).run Try.prog w = .ok (.tuple #[.agg #[.string ⟨#[]⟩, .nilIface, .nilIface], .bool false]) w := by kernel_rfl
attribute [local go_sem] as_lit_bin as_ref_bin as_not_bin as_neg_bin
end Go.Proofs.Ytoankfbccofllaa

/- guard.Print. -/
namespace Go.Proofs.Ytoankfbccofllaa
open Go.RowKit Go.Lib
set_option linter.unusedSimpArgs false
set_option linter.unusedVariables false
attribute [local go_sem ↓] Go.wp_at_zero Go.wp_at_succ
end Go.Proofs.Ytoankfbccofllaa

/- The text of a chart and its words. Math alone. -/
namespace Go.Proofs.Ytoankfbccofllaa
open Go.RowKit Go.Lib
set_option linter.unusedSimpArgs false
set_option linter.unusedVariables false

def blk (c : UInt8) : Prop := c = 32 ∨ c = 9 ∨ c = 10
end Go.Proofs.Ytoankfbccofllaa

/- Package show's rightName, rightNumber, rightExpression. -/
namespace Go.Proofs.Ytoankfbccofllaa
open Go.RowKit Go.Lib
set_option linter.unusedSimpArgs false
set_option linter.unusedVariables false
attribute [local go_sem ↓] Go.wp_at_zero Go.wp_at_succ


def SetK (s : List UInt8 × Sx) : Prop := SetOk s ∧ cntX s.2 ≤ 1000

def OnK (o : OnC) : Prop := o.1.length ≤ 140737488351232 ∧ o.2.2.1.length ≤ 140737488351232 ∧ (o.2.1.1 = true → ExOk o.2.1.2 ∧ cntX o.2.1.2 ≤ 1000 ∧ exX o.2.1.2 ≠ .nilIface) ∧ ∀ s ∈ o.2.2.2.1, SetK s





end Go.Proofs.Ytoankfbccofllaa

/- A formed chart's pieces fit. Math alone. -/
namespace Go.Proofs.Ytoankfbccofllaa
open Go.RowKit Go.Lib
set_option linter.unusedSimpArgs false
set_option linter.unusedVariables false


theorem smx_ok {x : Sx} (h : SmX x) : ExOk (clX x) ∧ cntX (clX x) ≤ 1000 := by
  obtain ⟨h1, h2⟩ := small_cln (d := x.1) (t := x.2) h
  have h3 : cntX (clX x) ≤ 1000 := h1
  exact ⟨⟨cl_cln x.1 x.2, by omega, h2⟩, h3⟩
theorem isIf_ne {v : Value} (h : isIf v = true) : v ≠ .nilIface := fun e => by rw [e] at h; exact absurd h (by decide)
theorem thO_k {o : OnC} (h : OnS o) : OnK (thO o) := by
  obtain ⟨h1, h2, h3, h4, h5⟩ := h
  refine ⟨by show o.1.length ≤ _; omega, by show o.2.2.1.length ≤ _; omega, fun hg => ?_, fun s hs => ?_⟩
  · have hg2 : (o.2.1.1 && isIf (exX o.2.1.2)) = true := hg
    rw [Bool.and_eq_true] at hg2
    obtain ⟨q1, q2⟩ := smx_ok h3
    exact ⟨q1, q2, by show exX (clX o.2.1.2) ≠ _; rw [exX_cl]; exact isIf_ne hg2.2⟩
  · obtain ⟨s', hs', rfl⟩ := List.mem_map.1 (show s ∈ o.2.2.2.1.map thT from hs)
    obtain ⟨q1, q2⟩ := h5 s' hs'
    obtain ⟨q3, q4⟩ := smx_ok q2
    exact ⟨⟨by show s'.1.length ≤ _; omega, q3⟩, q4⟩
theorem thO_ok {o : OnC} (h : OnS o) : OnOk (thO o) := by
  obtain ⟨k1, k2, k3, k4⟩ := thO_k h
  exact ⟨k1, k2, fun hg => (k3 hg).1, fun s hs => (k4 s hs).1, by show (o.2.2.2.1.map thT).length ≤ _; rw [List.length_map]; have := h.2.2.2.1; omega⟩
theorem thS_ok : ∀ (d : Nat) (t : St d), SmS d t → totS d [t] ≤ 400 → StOk d (thS d t)
  | 0, t, _, _ => Empty.elim t
  | d + 1, t, h, ht => by
    obtain ⟨⟨h1, h2, h3, h4, h5⟩, h6⟩ := h
    have ht2 : totS d t.2 ≤ 400 := by
      have e : totS (d + 1) [t] = (1 + totS d t.2) + 0 := rfl
      omega
    refine ⟨⟨by show t.1.1.1.length ≤ _; omega, by show t.1.2.2.1.1.length ≤ _; omega, by show t.1.2.2.1.2.length ≤ _; omega, by show (t.1.2.2.2.2.map thO).length ≤ _; rw [List.length_map]; omega, fun o ho => ?_⟩, ?_, fun x hx => ?_⟩
    · obtain ⟨o', ho', rfl⟩ := List.mem_map.1 (show o ∈ t.1.2.2.2.2.map thO from ho)
      exact thO_ok (h5 o' ho')
    · show (t.2.map (thS d)).length ≤ _
      rw [List.length_map]
      match d, t.2, ht2 with
      | 0, [], _ => simp
      | 0, x :: _, _ => exact Empty.elim x
      | d + 1, l, hl => have := tot_len l; omega
    · obtain ⟨x', hx', rfl⟩ := List.mem_map.1 (show x ∈ t.2.map (thS d) from hx)
      refine thS_ok d x' (h6 x' hx') ?_
      match d, t.2, x', hx', ht2 with
      | 0, _, x', _, _ => exact Empty.elim x'
      | d + 1, l, x', hx', hl =>
        have e : ∀ (l : List (St (d + 1))) (y : St (d + 1)), y ∈ l → totS (d + 1) [y] ≤ totS (d + 1) l := fun l => by
          induction l with
          | nil => intro y hy; cases hy
          | cons z r ih =>
            intro y hy
            have e1 : totS (d + 1) (z :: r) = (1 + totS d z.2) + totS (d + 1) r := rfl
            have e2 : totS (d + 1) [y] = (1 + totS d y.2) + 0 := rfl
            rcases List.mem_cons.1 hy with rfl | hy
            · omega
            · have := ih y hy; omega
        have := e l x' hx'
        omega
theorem sz_tot : ∀ (d : Nat) (l : List (St d)), szL d (l.map (thS d)) ≤ totS d l + 1
  | 0, l => Nat.le_refl _
  | d + 1, l => by
    show ((l.map (thS (d + 1))).map (fun t : St (d + 1) => szL d t.2)).sum + 1 ≤ (l.map (fun t : St (d + 1) => 1 + totS d t.2)).sum + 1
    rw [List.map_map]
    induction l with
    | nil => simp
    | cons x r ih =>
      rw [List.map_cons, List.map_cons, List.sum_cons, List.sum_cons]
      have h1 := sz_tot d x.2
      have h2 : ((fun t : St (d + 1) => szL d t.2) ∘ thS (d + 1)) x = szL d (x.2.map (thS d)) := rfl
      omega
theorem tot_one : ∀ {d : Nat} {l : List (St d)} {t : St d}, t ∈ l → totS d [t] ≤ totS d l
  | 0, _, t, _ => Empty.elim t
  | d + 1, z :: r, t, h => by
    have e1 : totS (d + 1) (z :: r) = (1 + totS d z.2) + totS (d + 1) r := rfl
    have e2 : totS (d + 1) [t] = (1 + totS d t.2) + 0 := rfl
    rcases List.mem_cons.1 h with rfl | h
    · omega
    · have := tot_one h; omega
theorem tot_length : ∀ {d : Nat} (l : List (St d)), l.length ≤ totS d l
  | 0, [] => Nat.le_refl _
  | 0, x :: _ => Empty.elim x
  | d + 1, l => tot_len l
theorem chOk_th {d : Nat} {c : ChD d} (h : SmCh d c) (hw : WfC d c) : ChOk d (thC d c) := by
  obtain ⟨h1, h2, h3, h4⟩ := h
  refine ⟨by show c.1.1.length ≤ _; omega, by show c.2.2.1.length ≤ _; omega, fun x hx => hw.2.1 x hx, ⟨?_, fun t ht => ?_⟩, ?_⟩
  · show (c.2.2.2.map (thS d)).length ≤ _
    rw [List.length_map]
    have := tot_length c.2.2.2
    omega
  · obtain ⟨t', ht', rfl⟩ := List.mem_map.1 (show t ∈ c.2.2.2.map (thS d) from ht)
    exact thS_ok d t' (h4 t' ht') (Nat.le_trans (tot_one ht') h3)
  · show szL d (c.2.2.2.map (thS d)) ≤ _
    have := sz_tot d c.2.2.2
    omega
end Go.Proofs.Ytoankfbccofllaa

/- TreeNodes: a chart's states are numbered, and lie in one another, as the document says; these nodes are formed; and the state of a number is that one. -/
namespace Go.Proofs.Ytoankfbccofllaa
open Go.RowKit Go.Lib
set_option linter.unusedSimpArgs false
set_option linter.unusedVariables false
attribute [local go_sem ↓] Go.wp_at_zero Go.wp_at_succ
/-- A flat state, as the program has it. -/
def thF (x : Nat × SgS) : Nat × SgS := (x.1, ⟨x.2.1, thS x.2.1 x.2.2⟩)
theorem flM_thF : ∀ (d k : Nat) (l : List (St d)), flM d k (l.map (thS d)) = (flM d k l).map thF
  | 0, k, l => by simp [flM]
  | d + 1, k, [] => by simp [flM]
  | d + 1, k, t :: r => by
    have h1 := flM_thF d (k + 1) t.2
    have h2 := flM_thF (d + 1) k r
    have e : flM (d + 1) k ((t :: r).map (thS (d + 1))) = (k, ⟨d + 1, thS (d + 1) t⟩) :: (flM d (k + 1) (t.2.map (thS d)) ++ flM (d + 1) k (r.map (thS (d + 1)))) := by
      simp only [flM, List.map_cons, List.flatMap_cons, List.cons_append]
      rfl
    rw [e, flM_cons, h1, h2, List.map_cons, List.map_append]
    rfl
theorem nd0_th (x : Nat × SgS) : nd0 (thF x) = nd0 x := by
  obtain ⟨k, e, t⟩ := x
  cases e with
  | zero => exact Empty.elim t
  | succ e => rfl
theorem nds_th (d : Nat) (l : List (St d)) : ndsM (flM d 0 (l.map (thS d))) = ndsM (flM d 0 l) := by
  unfold ndsM
  rw [flM_thF, List.length_map, List.map_map]
  have : nd0 ∘ thF = nd0 := funext nd0_th
  rw [this]
set_option maxRecDepth 100000 in
set_option maxHeartbeats 4000000 in
theorem stateT_neg {w : World} (a : ByteArray) (b e f : Int) (g : Option Addr) (h' i : Nat) (j : Option Addr) (k l : Nat) (x : Int) (hx : x < 0) :
    Calls Try.prog 13 #[.agg #[.string a, .int .i64 b, .int .i64 e, .int .i64 f, .slice g h' i, .slice j k l], .int .i64 x] w fun e w' => e = .returned (.tuple #[.agg zSt.toArray, .bool false]) ∧ Below w.heap.size w w' := by
  have hb : Below w.heap.size w ((((w.alloc (.cells #[.string a, .int .i64 b, .int .i64 e, .int .i64 f, .slice g h' i, .slice j k l] 37)).alloc (.cells #[.int .i64 x] 3)).alloc (.cells zSt.toArray 45)).alloc (.cells #[.bool false] 4)) := ((((Below.refl _ w).alloc (Nat.le_refl _) _).alloc (by simp) _).alloc (by simp; omega) _).alloc (by simp; omega) _
  have hR2 : Bn ((((w.alloc (.cells #[.string a, .int .i64 b, .int .i64 e, .int .i64 f, .slice g h' i, .slice j k l] 37)).alloc (.cells #[.int .i64 x] 3)).alloc (.cells zSt.toArray 45)).alloc (.cells #[.bool false] 4)) (w.heap.size + 2) zSt := (Bn.new _ zSt 45 (w.heap.size + 2) (by simp)).on ((Below.refl _ _).alloc (Nat.le_refl _) _)
  have hR3 : Bn ((((w.alloc (.cells #[.string a, .int .i64 b, .int .i64 e, .int .i64 f, .slice g h' i, .slice j k l] 37)).alloc (.cells #[.int .i64 x] 3)).alloc (.cells zSt.toArray 45)).alloc (.cells #[.bool false] 4)) (w.heap.size + 3) [.bool false] := Bn.new _ [.bool false] 4 (w.heap.size + 3) (by simp)
  go_enter Try.func13, Try.ntmps13
  go_upto_region 2 with fail
  unfold zSt at hb hR2 hR3
  generalize ((((w.alloc (.cells #[.string a, .int .i64 b, .int .i64 e, .int .i64 f, .slice g h' i, .slice j k l] 37)).alloc (.cells #[.int .i64 x] 3)).alloc (.cells [.string ⟨#[]⟩, .int .i64 0, .int .i64 0, .bool false, .bool false, .string ⟨#[]⟩, .string ⟨#[]⟩, .int .i64 0, .int .i64 0, .slice none 0 0, .slice none 0 0].toArray 45)).alloc (.cells #[.bool false] 4)) = wx at *
  obtain ⟨r0, f0⟩ := hR2 0 _ rfl
  obtain ⟨r1, f1⟩ := hR2 1 _ rfl
  obtain ⟨r2, f2⟩ := hR2 2 _ rfl
  obtain ⟨r3, f3⟩ := hR2 3 _ rfl
  obtain ⟨r4, f4⟩ := hR2 4 _ rfl
  obtain ⟨r5, f5⟩ := hR2 5 _ rfl
  obtain ⟨r6, f6⟩ := hR2 6 _ rfl
  obtain ⟨r7, f7⟩ := hR2 7 _ rfl
  obtain ⟨r8, f8⟩ := hR2 8 _ rfl
  obtain ⟨r9, f9⟩ := hR2 9 _ rfl
  obtain ⟨r10, f10⟩ := hR2 10 _ rfl
  obtain ⟨k0, m0⟩ := hR3 0 _ rfl
  have hRz : Bn (putL wx (w.heap.size + 2) 0 [.string ⟨#[]⟩, .int .i64 0, .int .i64 0, .bool false, .bool false, .string ⟨#[]⟩, .string ⟨#[]⟩, .int .i64 0, .int .i64 0, .slice none 0 0, .slice none 0 0]) (w.heap.size + 2) [.string ⟨#[]⟩, .int .i64 0, .int .i64 0, .bool false, .bool false, .string ⟨#[]⟩, .string ⟨#[]⟩, .int .i64 0, .int .i64 0, .slice none 0 0, .slice none 0 0] := (((((((((((hR2.set (i := 0) (by simp) (.string ⟨#[]⟩)).set (i := 1) (by simp) (.int .i64 0)).set (i := 2) (by simp) (.int .i64 0)).set (i := 3) (by simp) (.bool false)).set (i := 4) (by simp) (.bool false)).set (i := 5) (by simp) (.string ⟨#[]⟩)).set (i := 6) (by simp) (.string ⟨#[]⟩)).set (i := 7) (by simp) (.int .i64 0)).set (i := 8) (by simp) (.int .i64 0)).set (i := 9) (by simp) (.slice none 0 0)).set (i := 10) (by simp) (.slice none 0 0))
  have hRz2 : Bn ((putL wx (w.heap.size + 2) 0 [.string ⟨#[]⟩, .int .i64 0, .int .i64 0, .bool false, .bool false, .string ⟨#[]⟩, .string ⟨#[]⟩, .int .i64 0, .int .i64 0, .slice none 0 0, .slice none 0 0]).setCell ⟨w.heap.size + 3, 0, none⟩ (.bool false)) (w.heap.size + 2) [.string ⟨#[]⟩, .int .i64 0, .int .i64 0, .bool false, .bool false, .string ⟨#[]⟩, .string ⟨#[]⟩, .int .i64 0, .int .i64 0, .slice none 0 0, .slice none 0 0] := hRz.far (i := 0) (by omega) _
  have hRw : Bn ((putL wx (w.heap.size + 2) 0 [.string ⟨#[]⟩, .int .i64 0, .int .i64 0, .bool false, .bool false, .string ⟨#[]⟩, .string ⟨#[]⟩, .int .i64 0, .int .i64 0, .slice none 0 0, .slice none 0 0]).setCell ⟨w.heap.size + 3, 0, none⟩ (.bool false)) (w.heap.size + 3) [.bool false] := (hR3.blk (putL_heap _ _ _ _ _ (by omega))).set (i := 0) (by simp) (.bool false)
  have hBz : Below w.heap.size w ((putL wx (w.heap.size + 2) 0 [.string ⟨#[]⟩, .int .i64 0, .int .i64 0, .bool false, .bool false, .string ⟨#[]⟩, .string ⟨#[]⟩, .int .i64 0, .int .i64 0, .slice none 0 0, .slice none 0 0]).setCell ⟨w.heap.size + 3, 0, none⟩ (.bool false)) := (putL_below _ wx (w.heap.size + 2) 0 hb (by omega)).setCell (p := ⟨w.heap.size + 3, 0, none⟩) (by simp) _
  go_wp2
  exact bodyPost_ret (stt_res hRz2 hRw rfl rfl) rfl ⟨rfl, hBz⟩
theorem told_pick {d : Nat} {l : List (St d)} {i0 e : Nat} {t : St (e + 1)} (hi : i0 < (flM d 0 (l.map (thS d))).length) (hi' : i0 < (flP d (-1) 0 l).length) (hx : ((flP d (-1) 0 l)[i0]).2 = ⟨e + 1, t⟩) : ((flM d 0 (l.map (thS d)))[i0]).2 = ⟨e + 1, thS (e + 1) t⟩ := by
  have hi2 : i0 < (flM d 0 l).length := by rw [flM_thF, List.length_map] at hi; exact hi
  have h1 : ((flM d 0 l)[i0]).2 = ⟨e + 1, t⟩ := by
    have := congrArg (fun z => z[i0]?) (flP_st d 0 (-1) 0 l)
    simp only [List.getElem?_map, List.getElem?_eq_getElem hi2, List.getElem?_eq_getElem hi', Option.map_some, Option.some.injEq] at this
    rw [← this]; exact hx
  have h2 : (flM d 0 (l.map (thS d)))[i0] = thF ((flM d 0 l)[i0]) := by
    have := congrArg (fun z => z[i0]?) (flM_thF d 0 l)
    simp only [List.getElem?_map, List.getElem?_eq_getElem hi, List.getElem?_eq_getElem hi2, Option.map_some, Option.some.injEq] at this
    exact this
  rw [h2]
  generalize (flM d 0 l)[i0] = y at *
  obtain ⟨k, s⟩ := y
  simp only at h1
  subst h1
  rfl
set_option maxRecDepth 100000 in
set_option maxHeartbeats 16000000 in
theorem treeNodes_walk {w : World} {d : Nat} {c : ChD d} {v : Value} (hr : RdD (fun _ => True) w d c v) (hwf : WfC d c) (x : Int) (wfx : (Lit.int .i64 x).wf = true) :
    Calls Try.prog 3 #[v, .int .i64 x] w fun e w' => e = .returned (.bool true) ∧ Below w.heap.size w w' := by
  obtain ⟨g0, g1, g2, g3, g4, g5, g6, g7, g8, g9, rfl⟩ := rdD_letT hr
  have h1 := fun w1 => awakeT_any w1
  have hal : Below w.heap.size w (w.alloc (.cells #[.string g0, .int .i64 g1, .int .i64 g2, .int .i64 g3, .slice g4 g5 g6, .slice g7 g8 g9] 27)) := (Below.refl w.heap.size w).alloc (Nat.le_refl _) _
  have hX : Bn (w.alloc (.cells #[.string g0, .int .i64 g1, .int .i64 g2, .int .i64 g3, .slice g4 g5 g6, .slice g7 g8 g9] 27)) w.heap.size [.string g0, .int .i64 g1, .int .i64 g2, .int .i64 g3, .slice g4 g5 g6, .slice g7 g8 g9] := Bn.new w [.string g0, .int .i64 g1, .int .i64 g2, .int .i64 g3, .slice g4 g5 g6, .slice g7 g8 g9] 27 _ rfl
  have h2 := fun w1 (b : Below w.heap.size w w1) => small_any (hr.keep (ok' := fun _ => True) (fun k hk hl => ⟨trivial, b.block k hl⟩)) hwf (w := w1)
  go_enter Try.func3, Try.ntmps3
  go_upto_region 1 with fail
  generalize (w.alloc (.cells #[.string g0, .int .i64 g1, .int .i64 g2, .int .i64 g3, .slice g4 g5 g6, .slice g7 g8 g9] 27)) = wx at *
  obtain ⟨x0, _⟩ := hX 0 _ rfl
  obtain ⟨x1, _⟩ := hX 1 _ rfl
  obtain ⟨x2, _⟩ := hX 2 _ rfl
  obtain ⟨x3, _⟩ := hX 3 _ rfl
  obtain ⟨x4, _⟩ := hX 4 _ rfl
  obtain ⟨x5, _⟩ := hX 5 _ rfl
  go_upto_if 16 with (first
    | (go_at_call 4; refine (h1 _).mono ?_; rintro e w1 ⟨rfl, b1⟩; have x0 := (b1.cell (p := ⟨w.heap.size, 0, none⟩) hX.lt).trans x0; have x1 := (b1.cell (p := ⟨w.heap.size, 1, none⟩) hX.lt).trans x1; have x2 := (b1.cell (p := ⟨w.heap.size, 2, none⟩) hX.lt).trans x2; have x3 := (b1.cell (p := ⟨w.heap.size, 3, none⟩) hX.lt).trans x3; have x4 := (b1.cell (p := ⟨w.heap.size, 4, none⟩) hX.lt).trans x4; have x5 := (b1.cell (p := ⟨w.heap.size, 5, none⟩) hX.lt).trans x5)
    | (go_at_call 5; refine (h2 _ (hal.trans (b1.mono hal.size))).mono ?_; rintro e w2 ⟨bb, rfl, hsm, b2⟩)
    | fail)
  have hb1 := hal.trans (b1.mono hal.size)
  have hb2 := hb1.trans (b2.mono hb1.size)
  have hX2 := (hX.on b1).on b2
  clear b1 b2 hX hal h2 hb1 x0 x1 x2 x3 x4 x5
  cases bb with
  | false =>
    go_wp2_with (first
      | (go_at_call 4; refine (h1 _).mono ?_; rintro e w3 ⟨rfl, b3⟩)
      | fail)
    go_ret
    exact ⟨rfl, hb2.trans (b3.mono hb2.size)⟩
  | true =>
    replace hsm := hsm rfl
    have hlenM : (flM d 0 c.2.2.2).length ≤ 400 := by
      have := hsm.2.2.1
      rw [← flM_len d 0, flM_thF, List.length_map] at this
      exact this
    have hlth : (flM d 0 (c.2.2.2.map (thS d))).length ≤ 400 := by rw [flM_thF, List.length_map]; exact hlenM
    have HCK := hidOf (chOk_th hsm hwf)
    obtain ⟨L, hL⟩ : ∃ L, ndsM (flM d 0 c.2.2.2) = L := ⟨_, rfl⟩
    have HFM : Hid (fmB L = true) := by rw [← hL]; exact ndsM_formed d _
    have HLL : Hid (L.length ≤ 40) := by
      show _ ≤ _
      rw [← hL]
      unfold ndsM
      split <;> simp <;> omega
    have h3 : ∀ w1, Below w2.heap.size w2 w1 → Calls Try.prog 8 #[.agg #[.string g0, .int .i64 g1, .int .i64 g2, .int .i64 g3, .slice g4 g5 g6, .slice g7 g8 g9]] w1 fun e w' => ∃ e0 e1 e2 e3 e4 e5 e6 e7 e8 e9, e = .returned (.agg #[.string e0, .int .i64 e1, .int .i64 e2, .int .i64 e3, .slice e4 e5 e6, .slice e7 e8 e9]) ∧ RdC (fun b => w1.heap.size ≤ b ∧ b < w'.heap.size) w' d (thC d c) (.agg #[.string e0, .int .i64 e1, .int .i64 e2, .int .i64 e3, .slice e4 e5 e6, .slice e7 e8 e9]) ∧ Below w1.heap.size w1 w' := fun w1 b1 => (theirs_ch (hr.keep (ok' := fun _ => True) (fun k hk hl => ⟨trivial, (hb2.trans (b1.mono hb2.size)).block k hl⟩)) hsm.2.2.2 hsm.2.2.1 (by have := hsm.2.1; omega)).mono (fun e w' hh => by
      obtain ⟨u, q1, q2, q3⟩ := hh
      obtain ⟨e0, e1, e2, e3, e4, e5, e6, e7, e8, e9, rfl⟩ := rdC_letT q2
      exact ⟨e0, e1, e2, e3, e4, e5, e6, e7, e8, e9, q1, q2.keep (fun k hk hl => ⟨⟨hk, hl⟩, rfl⟩), q3⟩)
    have h4 : ∀ {ok : Nat → Prop} w1 v, RdC ok w1 d (thC d c) v → ∀ w2, Below w1.heap.size w1 w2 → Calls Try.prog 7 #[v] w2 fun e w' => ∃ ra rn rc, e = .returned (.slice ra rn rc) ∧ RdNd (fun b => w2.heap.size ≤ b) w' L (.slice ra rn rc) ∧ Below w2.heap.size w2 w' := fun {ok} w1 v h w2 b => (nodes_th hsm (h.keep (ok' := fun b => ok b ∧ b < w2.heap.size) (w' := w2) (fun k hk hl => ⟨⟨hk, Nat.lt_of_lt_of_le hl b.size⟩, b.block k hl⟩)) (fun b hb => hb.2)).mono (fun e w' hh => by
      obtain ⟨ra, rn, rc, l, q1, q2, q3, q4, q5, q6⟩ := hh
      have : l = L := by rw [q5, ← hL]; exact nds_th d c.2.2.2
      subst this
      exact ⟨ra, rn, rc, q1, q2, q6⟩)
    have h5 : ∀ {ok : Nat → Prop} w1 a n c, RdNd ok w1 L (.slice a n c) → ∀ w2, Below w1.heap.size w1 w2 → Calls Try.prog 6 #[.slice a n c] w2 fun e w' => ∃ oa on oc, e = .returned (.slice oa on oc) ∧ RdNd (fun b => w2.heap.size ≤ b) w' L (.slice oa on oc) ∧ Below w2.heap.size w2 w' := fun {ok} w1 a n c h w2 b => (oursN_any (h.on kp_nd b) (by have := HLL.out; omega)).mono (fun e w' hh => by
      obtain ⟨u, q1, q2, q3⟩ := hh
      obtain ⟨ua, uc, rfl, _⟩ := q2.form
      exact ⟨ua, _, uc, q1, q2, q3⟩)
    have hss : RdK (fun _ => True) w 11 (rStD d (fun _ => True) w) c.2.2.2 (.slice g7 g8 g9) := by
      obtain ⟨sv, ss, he, q1, q2⟩ := hr
      simp only [Value.agg.injEq, Array.mk.injEq, List.cons.injEq, and_true] at he
      rw [he.2.2.2.2.2]
      exact q2
    have h6 : ∀ w1, Below w2.heap.size w2 w1 → Calls Try.prog 9 #[.agg #[.string g0, .int .i64 g1, .int .i64 g2, .int .i64 g3, .slice g4 g5 g6, .slice g7 g8 g9]] w1 fun e w' => ∃ da dn dc, e = .returned (.slice da dn dc) ∧ RdNd (fun b => w1.heap.size ≤ b) w' L (.slice da dn dc) ∧ Below w1.heap.size w1 w' := fun w1 b1 => (nodesD_any g0 g1 g2 g3 g4 g7 g5 g6 g8 g9 (hss.stay (kp_stD d) (ok' := fun _ => True) (w' := w1) (fun k hk hl => ⟨trivial, (hb2.trans (b1.mono hb2.size)).block k hl⟩)) hlenM).mono (fun e w' hh => by
      obtain ⟨a, n, c, q1, q2, q3⟩ := hh
      rw [hL] at q2
      exact ⟨a, n, c, q1, q2, q3⟩)
    have h7 := fun w1 (b1 : Below w2.heap.size w2 w1) => allD_any hss (hb2.trans (b1.mono hb2.size)) (by omega)
    have HSS := hidOf hss
    clear hss
    obtain ⟨S, hS⟩ : ∃ S, w.heap.size = S := ⟨_, rfl⟩
    rw [hS] at hX2 ⊢
    have HS := hidOf hS
    clear hS
    have hSl := hX2.lt
    obtain ⟨z0, _⟩ := hX2 0 _ rfl
    obtain ⟨z1, _⟩ := hX2 1 _ rfl
    obtain ⟨z2, _⟩ := hX2 2 _ rfl
    obtain ⟨z3, _⟩ := hX2 3 _ rfl
    obtain ⟨z4, _⟩ := hX2 4 _ rfl
    obtain ⟨z5, _⟩ := hX2 5 _ rfl
    have y0 := z0
    have y1 := z1
    have y2 := z2
    have y3 := z3
    have y4 := z4
    have y5 := z5
    have hB := Below.refl w2.heap.size w2
    go_upto_region 3 with fail
    go_cut [5, 6] (fun v5 v6 wc => ∃ oa on oc da dn dc, v5 = .slice oa on oc ∧ v6 = .slice da dn dc ∧ Hid (RdNd (fun _ => True) wc L (.slice oa on oc)) ∧ Hid (RdNd (fun _ => True) wc L (.slice da dn dc)) ∧ Below w2.heap.size w2 wc)
    case first =>
      go_region_held_law (fun w' => w'.cell? ⟨S, 0, none⟩ = some (.string g0) ∧ w'.cell? ⟨S, 1, none⟩ = some (.int .i64 g1) ∧ w'.cell? ⟨S, 2, none⟩ = some (.int .i64 g2) ∧ w'.cell? ⟨S, 3, none⟩ = some (.int .i64 g3) ∧ w'.cell? ⟨S, 4, none⟩ = some (.slice g4 g5 g6) ∧ w'.cell? ⟨S, 5, none⟩ = some (.slice g7 g8 g9))
        ((refine ⟨?_, ?_, ?_, ?_, ?_, ?_⟩ <;> (repeat (first | (with_reducible exact y0) | (with_reducible exact y1) | (with_reducible exact y2) | (with_reducible exact y3) | (with_reducible exact y4) | (with_reducible exact y5) | (with_reducible refine cell_dr ?_))) <;> done))
        (first
          | (go_at_call 8; (first | (with_reducible refine (h3 _ hB).mono ?_) | (with_reducible refine (h3 _ hB.drew).mono ?_)); rintro e w3 ⟨e0, e1, e2, e3, e4, e5, e6, e7, e8, e9, rfl, hr3, b3⟩; (first | have hB := Below.nxtd hB b3 | have hB := Below.nxt hB b3); have y0 := (hB.cell (p := ⟨S, 0, none⟩) hSl).trans z0; have y1 := (hB.cell (p := ⟨S, 1, none⟩) hSl).trans z1; have y2 := (hB.cell (p := ⟨S, 2, none⟩) hSl).trans z2; have y3 := (hB.cell (p := ⟨S, 3, none⟩) hSl).trans z3; have y4 := (hB.cell (p := ⟨S, 4, none⟩) hSl).trans z4; have y5 := (hB.cell (p := ⟨S, 5, none⟩) hSl).trans z5; (first | have hRD := Below.nxtd hRD b3 | have hRD := Below.nxt hRD b3 | skip); have hR3 := Below.refl w3.heap.size w3)
          | (go_at_call 7; (first | (with_reducible refine (h4 _ _ hr3 _ hR3).mono ?_) | (with_reducible refine (h4 _ _ hr3 _ hR3.drew).mono ?_)); rintro e w4 ⟨ra, rn, rc, rfl, hr4, b4⟩; (first | have hB := Below.nxtd hB b4 | have hB := Below.nxt hB b4); have y0 := (hB.cell (p := ⟨S, 0, none⟩) hSl).trans z0; have y1 := (hB.cell (p := ⟨S, 1, none⟩) hSl).trans z1; have y2 := (hB.cell (p := ⟨S, 2, none⟩) hSl).trans z2; have y3 := (hB.cell (p := ⟨S, 3, none⟩) hSl).trans z3; have y4 := (hB.cell (p := ⟨S, 4, none⟩) hSl).trans z4; have y5 := (hB.cell (p := ⟨S, 5, none⟩) hSl).trans z5; (first | have hRD := Below.nxtd hRD b4 | have hRD := Below.nxt hRD b4 | skip); have hR4 := Below.refl w4.heap.size w4)
          | (go_at_call 6; (first | (with_reducible refine (h5 _ _ _ _ hr4 _ hR4).mono ?_) | (with_reducible refine (h5 _ _ _ _ hr4 _ hR4.drew).mono ?_)); rintro e w5 ⟨oa, on, oc, rfl, hr5, b5⟩; (first | have hB := Below.nxtd hB b5 | have hB := Below.nxt hB b5); have y0 := (hB.cell (p := ⟨S, 0, none⟩) hSl).trans z0; have y1 := (hB.cell (p := ⟨S, 1, none⟩) hSl).trans z1; have y2 := (hB.cell (p := ⟨S, 2, none⟩) hSl).trans z2; have y3 := (hB.cell (p := ⟨S, 3, none⟩) hSl).trans z3; have y4 := (hB.cell (p := ⟨S, 4, none⟩) hSl).trans z4; have y5 := (hB.cell (p := ⟨S, 5, none⟩) hSl).trans z5; (first | have hRD := Below.nxtd hRD b5 | have hRD := Below.nxt hRD b5 | skip); have hR5 := Below.refl w5.heap.size w5)
          | (go_at_call 9; (first | (with_reducible refine (h6 _ hB).mono ?_) | (with_reducible refine (h6 _ hB.drew).mono ?_)); rintro e w6 ⟨da, dn, dc, rfl, hr6, b6⟩; (first | have hB := Below.nxtd hB b6 | have hB := Below.nxt hB b6); have y0 := (hB.cell (p := ⟨S, 0, none⟩) hSl).trans z0; have y1 := (hB.cell (p := ⟨S, 1, none⟩) hSl).trans z1; have y2 := (hB.cell (p := ⟨S, 2, none⟩) hSl).trans z2; have y3 := (hB.cell (p := ⟨S, 3, none⟩) hSl).trans z3; have y4 := (hB.cell (p := ⟨S, 4, none⟩) hSl).trans z4; have y5 := (hB.cell (p := ⟨S, 5, none⟩) hSl).trans z5; (first | have hR3 := Below.nxtd hR3 b6 | have hR3 := Below.nxt hR3 b6 | skip); (first | have hR4 := Below.nxtd hR4 b6 | have hR4 := Below.nxt hR4 b6 | skip); (first | have hR5 := Below.nxtd hR5 b6 | have hR5 := Below.nxt hR5 b6 | skip); have hRD := Below.refl w6.heap.size w6)
          | fail)
      all_goals (
        have q5 := hidOf (hr5.stay kp_nd (ok' := fun _ => True) (fun k hk hl => ⟨trivial, hR5.block k hl⟩))
        have q6 := hidOf (hr6.stay kp_nd (ok' := fun _ => True) (fun k hk hl => ⟨trivial, hRD.block k hl⟩))
        go_wp2
        go_meet
        case rel => exact ⟨oa, on, oc, da, dn, dc, rfl, rfl, q5, q6, hB⟩)
    case rest =>
      obtain ⟨oa, on, oc, da, dn, dc, rfl, rfl, H5, H6, hBc⟩ := hcut
      have hsame : Calls Try.prog 10 #[.slice oa on oc, .slice da dn dc] wc fun e w' => e = .returned (.bool true) ∧ Below wc.heap.size wc w' := sameN_any H5.out H6.out
      have hth : ∀ w1, Below wc.heap.size wc w1 → Calls Try.prog 12 #[.slice da dn dc] w1 fun e w' => ∃ ta tn tc, e = .returned (.slice ta tn tc) ∧ Hid (RdNd (fun b => w1.heap.size ≤ b) w' L (.slice ta tn tc)) ∧ Below w1.heap.size w1 w' := fun w1 b => (theirsN_any (H6.out.on kp_nd b) (by have := HLL.out; omega)).mono (fun e w' hh => by
        obtain ⟨u, q1, q2, q3⟩ := hh
        obtain ⟨ua, uc, rfl, _⟩ := q2.form
        exact ⟨ua, _, uc, q1, q2, q3⟩)
      have hfm : ∀ {ok : Nat → Prop} w1 a n c, Hid (RdNd ok w1 L (.slice a n c)) → Calls Try.prog 11 #[.slice a n c] w1 fun e w' => e = .returned (.bool true) ∧ Below w1.heap.size w1 w' := fun {ok} w1 a n c h => by
        have := tformed_any h.out
        rw [HFM.out] at this
        exact this
      obtain ⟨q, hq⟩ : ∃ q : Bool, decide (0 ≤ x ∧ x < ((flM d 0 c.2.2.2).length : Int)) = q := ⟨_, rfl⟩
      have hx63 : x < 9223372036854775808 := by simp [Lit.wf, IntKind.min, IntKind.max, IntKind.bits, IntKind.signed] at wfx; omega
      have h8 : ∀ {ok : Nat → Prop} w1 e0 e1 e2 e3 e4 e5 e6 e7 e8 e9, RdC ok w1 d (thC d c) (.agg #[.string e0, .int .i64 e1, .int .i64 e2, .int .i64 e3, .slice e4 e5 e6, .slice e7 e8 e9]) → (∀ b, ok b → b < w1.heap.size) → Calls Try.prog 13 #[.agg #[.string e0, .int .i64 e1, .int .i64 e2, .int .i64 e3, .slice e4 e5 e6, .slice e7 e8 e9], .int .i64 x] w1 fun e w' => ∃ (nm : ByteArray) (i1 i2 : Int) (c3 c4 : Bool) (c5 c6 : ByteArray) (c7 c8 : Int) (u1 : Option Addr) (no u3 : Nat) (u4 : Option Addr) (ni u6 : Nat), e = .returned (.tuple #[.agg #[.string nm, .int .i64 i1, .int .i64 i2, .bool c3, .bool c4, .string c5, .string c6, .int .i64 c7, .int .i64 c8, .slice u1 no u3, .slice u4 ni u6], .bool q]) ∧ Hid ((q = false → nm = ⟨#[]⟩) ∧ (q = true → ∃ (i0 e : Nat) (t : St (e + 1)) (hi : i0 < (flP d (-1) 0 c.2.2.2).length), x = i0 ∧ ((flP d (-1) 0 c.2.2.2)[i0]).2 = ⟨e + 1, t⟩ ∧ nm = ⟨t.1.1.1.toArray⟩ ∧ no = t.1.2.2.2.2.length ∧ ni = t.2.length)) ∧ Below w1.heap.size w1 w' := fun {ok} w1 e0 e1 e2 e3 e4 e5 e6 e7 e8 e9 hrd hokb => by
        by_cases hneg : x < 0
        · have hqf : q = false := by rw [← hq, decide_eq_false_iff_not]; omega
          refine (stateT_neg e0 e1 e2 e3 e4 e5 e6 e7 e8 e9 x hneg).mono ?_
          rintro e w' ⟨rfl, hb⟩
          exact ⟨_, _, _, _, _, _, _, _, _, _, _, _, _, _, _, by rw [hqf]; rfl, ⟨fun _ => rfl, fun h => by rw [hqf] at h; cases h⟩, hb⟩
        · obtain ⟨i0, rfl⟩ : ∃ i0 : Nat, x = i0 := ⟨x.toNat, by omega⟩
          refine (stateT_any hrd hokb (Nat.le_trans hlth (by omega)) HCK.out.fo.2 HCK.out.sz i0 (by omega)).mono ?_
          rintro e w' ⟨a, b, c3, d3, e3', f, g, h, i, j, k, qq, rfl, hcase, hb⟩
          rcases hcase with ⟨rfl, hi0, htl⟩ | ⟨rfl, hge, hz⟩
          · have hi0' : i0 < (flM d 0 (c.2.2.2.map (thS d))).length := hi0
            have hiM : i0 < (flM d 0 c.2.2.2).length := by rw [flM_thF, List.length_map] at hi0'; exact hi0'
            have hqt : q = true := by rw [← hq, decide_eq_true_eq]; omega
            have hiP : i0 < (flP d (-1) 0 c.2.2.2).length := by rw [flP_len d 0]; exact hiM
            obtain ⟨sp, hsp⟩ : ∃ sp, ((flP d (-1) 0 c.2.2.2)[i0]).2 = sp := ⟨_, rfl⟩
            obtain ⟨e, t⟩ := sp
            cases e with
            | zero => exact Empty.elim t
            | succ e =>
              have hp := told_pick hi0' hiP hsp
              have htl' : tlS ((flM d 0 (c.2.2.2.map (thS d)))[i0]).2 (.agg #[a, b, c3, d3, e3', f, g, h, i, j, k]) := htl
              rw [hp] at htl'
              obtain ⟨i1, i2, c3, c4, c5, c6, c7, c8, u1, u3, u4, u6, hv⟩ := htl'
              have ho : (thS (e + 1) t).1.2.2.2.2.length = t.1.2.2.2.2.length := by show (t.1.2.2.2.2.map thO).length = _; simp
              have hi2 : (thS (e + 1) t).2.length = t.2.length := by show (t.2.map (thS e)).length = _; simp
              rw [ho, hi2] at hv
              refine ⟨⟨t.1.1.1.toArray⟩, i1, i2, c3, c4, c5, c6, c7, c8, u1, t.1.2.2.2.2.length, u3, u4, t.2.length, u6, ?_, ⟨fun h => (by rw [hqt] at h; cases h), fun _ => ⟨i0, e, t, hiP, rfl, hsp, rfl, rfl, rfl⟩⟩, hb⟩
              rw [hqt, hv]
              rfl
          · have hge' : (flM d 0 (c.2.2.2.map (thS d))).length ≤ i0 := hge
            rw [flM_thF, List.length_map] at hge'
            have hqf : q = false := by rw [← hq, decide_eq_false_iff_not]; omega
            simp only [zSt, List.cons.injEq, and_true] at hz
            obtain ⟨rfl, rfl, rfl, rfl, rfl, rfl, rfl, rfl, rfl, rfl, rfl⟩ := hz
            exact ⟨_, _, _, _, _, _, _, _, _, _, _, _, _, _, _, by rw [hqf], ⟨fun _ => rfl, fun h => by rw [hqf] at h; cases h⟩, hb⟩
      have hB := hBc
      clear y0 y1 y2 y3 y4 y5
      have y0 := (hB.cell (p := ⟨S, 0, none⟩) hSl).trans z0
      have y1 := (hB.cell (p := ⟨S, 1, none⟩) hSl).trans z1
      have y2 := (hB.cell (p := ⟨S, 2, none⟩) hSl).trans z2
      have y3 := (hB.cell (p := ⟨S, 3, none⟩) hSl).trans z3
      have y4 := (hB.cell (p := ⟨S, 4, none⟩) hSl).trans z4
      have y5 := (hB.cell (p := ⟨S, 5, none⟩) hSl).trans z5
      have HQ := hidOf hq
      clear hq hr h1 h4 h5 h6 x0 x1 x2 x3 x4 x5
      go_upto_region 6 with (first
        | (go_at_call 10; refine hsame.mono ?_; rintro e w3 ⟨rfl, b3⟩; have hC := b3; have hB := Below.nxt hB b3)
        | (go_at_call 12; refine (hth _ hC).mono ?_; rintro e w4 ⟨ta, tn, tc, rfl, hr4, b4⟩; have hB := Below.nxt hB b4)
        | (go_at_call 11; refine (hfm _ _ _ _ hr4).mono ?_; rintro e w5 ⟨rfl, b5⟩; have hB := Below.nxt hB b5)
        | fail)
      clear y0 y1 y2 y3 y4 y5 hsame hth hfm H5 H6
      have y0 := (hB.cell (p := ⟨S, 0, none⟩) hSl).trans z0
      have y1 := (hB.cell (p := ⟨S, 1, none⟩) hSl).trans z1
      have y2 := (hB.cell (p := ⟨S, 2, none⟩) hSl).trans z2
      have y3 := (hB.cell (p := ⟨S, 3, none⟩) hSl).trans z3
      have y4 := (hB.cell (p := ⟨S, 4, none⟩) hSl).trans z4
      have y5 := (hB.cell (p := ⟨S, 5, none⟩) hSl).trans z5
      go_upto_region 7 with (first
        | (go_at_call 8; refine (h3 _ hB).mono ?_; rintro e w6 ⟨e0, e1, e2, e3, e4, e5, e6, e7, e8, e9, rfl, hr6, b6⟩; have hB := Below.nxt hB b6)
        | (go_at_call 13; refine (h8 _ _ _ _ _ _ _ _ _ _ _ hr6 (fun b hb => hb.2)).mono ?_; rintro e w7 ⟨nm, i1, i2, c3, c4, c5, c6, c7, c8, u1, no, u3, u4, ni, u6, rfl, hft, b7⟩; have hB := Below.nxt hB b7)
        | fail)
      have hal7 : Below w7.heap.size w7 (w7.alloc (.cells #[.string nm, .int .i64 i1, .int .i64 i2, .bool c3, .bool c4, .string c5, .string c6, .int .i64 c7, .int .i64 c8, .slice u1 no u3, .slice u4 ni u6] 45)) := (Below.refl _ _).alloc (Nat.le_refl _) _
      have hbx : Bn (w7.alloc (.cells #[.string nm, .int .i64 i1, .int .i64 i2, .bool c3, .bool c4, .string c5, .string c6, .int .i64 c7, .int .i64 c8, .slice u1 no u3, .slice u4 ni u6] 45)) w7.heap.size [.string nm, .int .i64 i1, .int .i64 i2, .bool c3, .bool c4, .string c5, .string c6, .int .i64 c7, .int .i64 c8, .slice u1 no u3, .slice u4 ni u6] := Bn.new w7 [.string nm, .int .i64 i1, .int .i64 i2, .bool c3, .bool c4, .string c5, .string c6, .int .i64 c7, .int .i64 c8, .slice u1 no u3, .slice u4 ni u6] 45 _ rfl
      have hB7 := Below.nxt hB hal7
      obtain ⟨B, hBB⟩ : ∃ B, w7.heap.size = B := ⟨_, rfl⟩
      rw [hBB] at hbx
      clear y0 y1 y2 y3 y4 y5 h3 h8 hr6 hal7 hB
      generalize w7.alloc (.cells #[.string nm, .int .i64 i1, .int .i64 i2, .bool c3, .bool c4, .string c5, .string c6, .int .i64 c7, .int .i64 c8, .slice u1 no u3, .slice u4 ni u6] 45) = w8 at *
      rw [hBB]
      clear hBB
      have y5 := (hB7.cell (p := ⟨S, 5, none⟩) hSl).trans z5
      go_upto_region 8 with (first
        | (go_at_call 14; refine (h7 _ hB7).mono ?_; rintro e w9 ⟨fa, fn, fc, rfl, hF, b9⟩)
        | fail)
      have hbx9 := hbx.on b9
      have hB9 := Below.nxt hB7 b9
      have hbw : Below w.heap.size w w9 := hb2.trans (hB9.mono hb2.size)
      obtain ⟨_, _, he, hfc, hfm⟩ := hF.form
      simp only [Value.slice.injEq] at he
      obtain ⟨rfl, hfn, rfl⟩ := he
      have HRD := hidOf (hF.rd (kp_fl (fun _ => True) w))
      have HFN : Hid ((flP d (-1) 0 c.2.2.2).length = fn) := hfn.symm
      have hfn2 : ((flM d 0 c.2.2.2).length : Int) = fn := by rw [hfn, flP_len d 0]
      have hQ := HQ.out
      rw [hfn2] at hQ
      have hfnl : fn ≤ 400 := by omega
      clear hF hfn hfn2 y5 h7 hbx b9 hB9 hB7 z0 z1 z2 z3 z4 z5 HQ hfc hfm
      obtain ⟨X0, _⟩ := hbx9 0 _ rfl
      obtain ⟨X9, _⟩ := hbx9 9 _ rfl
      obtain ⟨X10, _⟩ := hbx9 10 _ rfl
      cases q with
      | false =>
        have hnm := hft.out.1 rfl
        subst hnm
        rw [decide_eq_false_iff_not] at hQ
        by_cases hneg : x < 0
        · clear hQ
          go_wp2
          go_ret
          exact ⟨rfl, hbw⟩
        · have hge : x ≥ (fn : Int) := by omega
          clear hQ
          go_wp2
          go_ret
          exact ⟨rfl, hbw⟩
      | true =>
        rw [decide_eq_true_eq] at hQ
        obtain ⟨i0, e, t, hi, rfl, hsp, hnm, hno, hni⟩ := hft.out.2 rfl
        have hlt0 : ¬ ((i0 : Int) < 0) := by omega
        have hge0 : ¬ ((i0 : Int) ≥ (fn : Int)) := by omega
        have hlt1 : (i0 : Int) < (fn : Int) := by omega
        have hlt2 : (0 : Int) ≤ (i0 : Int) := by omega
        clear hQ
        obtain ⟨b, off, e', t', p1, p3, p4, p6, rfl, _, hbl, hx, _, hc⟩ := fl_at HRD.out i0 hi
        rw [hx] at hsp
        simp only [Sigma.mk.injEq, Nat.add_right_cancel_iff] at hsp
        obtain ⟨rfl, hsp⟩ := hsp
        obtain rfl := eq_of_heq hsp
        have C0 := hc 0 _ rfl
        have C9 := hc 9 _ rfl
        have C10 := hc 10 _ rfl
        rw [Nat.add_zero] at C0
        have C0' : w9.cell? ⟨b, off + i0 * 12, none⟩ = some (.string nm) := by rw [hnm]; exact C0
        have C9' : w9.cell? ⟨b, off + i0 * 12 + 9, none⟩ = some (.slice p1 no p3) := by rw [hno]; exact C9
        have C10' : w9.cell? ⟨b, off + i0 * 12 + 10, none⟩ = some (.slice p4 ni p6) := by rw [hni]; exact C10
        clear C0 C9 C10 hc hnm hno hni hx hft HRD
        go_upto_region 10 with fail
        go_quiet (fail)
        go_wp2
        go_ret
        exact ⟨rfl, ⟨hbw.os, hbw.tape, hbw.output, hbw.size, hbw.block⟩⟩
end Go.Proofs.Ytoankfbccofllaa

/- An argument that is a slice of bytes, opened: the bytes that it reads as, each from 0 to 255, and their number within the form's reach. -/
namespace Go.Proofs.Ytoankfbccofllaa
open Go.ChangeShapes Go.WideShapes Go.ChangeAt Go.RowKit

end Go.Proofs.Ytoankfbccofllaa
