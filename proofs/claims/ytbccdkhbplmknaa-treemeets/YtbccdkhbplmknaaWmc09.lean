import Derived.Test.YtbccdkhbplmknaaWmc07
import Derived.Test.YtbccdkhbplmknaaWmc04
import Derived.Test.YtbccdkhbplmknaaWmc08
import Derived.Test.YtbccdkhbplmknaaWmc02
import Derived.Test.YtbccdkhbplmknaaWmc05
import Derived.Deep.CutBlock
import Derived.Test.YtbccdkhbplmknaaWmc01
import Derived.ProofKit
import Derived.OpenShut
import Derived.ShutString
import Derived.ChangeOld
import Derived.SizedLaws
import Derived.Below

/- What the program's stripVar is, and each over variables. -/
namespace Go.Proofs.Ytbccdkhbplmknaa
open Go.RowKit Go.Lib
set_option linter.unusedSimpArgs false
set_option linter.unusedVariables false
attribute [local go_sem ↓] Go.wp_at_zero Go.wp_at_succ

theorem varQ_at {ok : Nat → Prop} {w : World} {l : List (List UInt8 × Int × Pl)} {a : Option Addr} {n cap : Nat} (h : RdK ok w 4 (rVar ok w) l (.slice a n cap)) (j : Nat) (hj : j < l.length) : ∃ b off, a = some ⟨b, off, none⟩ ∧ b < w.heap.size ∧ ∀ i u, (varV l[j])[i]? = some u → w.cell? ⟨b, off + j * 4 + i, none⟩ = some u := by
  obtain ⟨a1, cap1, he, h1, h2, h3⟩ := h
  simp only [Value.slice.injEq] at he
  obtain ⟨rfl, rfl, rfl⟩ := he
  obtain ⟨b, off, cs, ha, _, hb, hl, hr, hc⟩ := h3 j hj
  have hr : cs = varV l[j] := hr
  subst hr
  exact ⟨b, off, ha, hb, hc⟩

theorem their_res {w4 : World} {R : Nat} {a b c d e f : Value} {tmps : Array Value} (hR : Bn w4 R [a, b, c, d, e, f]) (ht : tmps.getD 2 undef = .pointer (some ⟨R, 0, none⟩)) : (results Try.f11 tmps).run Try.prog w4 = .ok (.agg #[a, b, c, d, e, f]) w4 := by
  have ht' : tmps[2]?.getD undef = .pointer (some ⟨R, 0, none⟩) := by simpa using ht
  have c0 := (hR 0 _ rfl).1
  have c1 := (hR 1 _ rfl).1
  have c2 := (hR 2 _ rfl).1
  have c3 := (hR 3 _ rfl).1
  have c4 := (hR 4 _ rfl).1
  have c5 := (hR 5 _ rfl).1
  simp [results, Try.results11, go_sem, ht', c0, c1, c2, c3, c4, c5]
set_option maxRecDepth 100000 in
set_option maxHeartbeats 16000000 in
theorem theirs_ch {ok : Nat → Prop} {w : World} {d : Nat} {c : ChD d} {v : Value} (h : RdD ok w d c v) (hok : ∀ t ∈ c.2.2.2, SmS d t) (hl1 : totS d c.2.2.2 ≤ 400) (hl2 : c.2.2.1.length ≤ 3001) :
    Calls Try.prog 11 #[v] w fun e w' => ∃ u, e = .returned u ∧ RdC (fun b => w.heap.size ≤ b) w' d (thC d c) u ∧ Below w.heap.size w w' := by
  obtain ⟨iv, hiv, hiv0, hiv1, hiv2⟩ := info_parts Try.infoVar
  obtain ⟨sv, ss, rfl, hv, hs⟩ := h
  obtain ⟨a, cap, rfl, hlc, hcm⟩ := hv.form
  obtain ⟨p4, p6, rfl, _⟩ := hs.form
  unfold maxLen at hcm
  have HV := mkHid hv
  have hcall := fun w1 (b1 : Below w.heap.size w w1) => ts_any d ok w1 c.2.2.2 _ (hs.stay (kp_stD d) (fun k hk hl => ⟨hk, b1.block k hl⟩)) hok hl1
  obtain ⟨nv, hnv⟩ : ∃ nv, sD c.1.1 = .string nv := ⟨_, rfl⟩
  obtain ⟨n, hn⟩ : ∃ n, c.2.2.1.length = n := ⟨_, rfl⟩
  obtain ⟨i, hi⟩ : ∃ n, c.2.2.2.length = n := ⟨_, rfl⟩
  obtain ⟨vn, hvn⟩ : ∃ x, c.2.1 = x := ⟨_, rfl⟩
  obtain ⟨ln, hln⟩ : ∃ x, c.1.2.1 = x := ⟨_, rfl⟩
  obtain ⟨co, hco⟩ : ∃ x, c.1.2.2 = x := ⟨_, rfl⟩
  rw [hnv, hvn, hln, hco, hi, hn]
  rw [hi] at hcall
  rw [hn] at hlc hl2
  have HN : Hid (c.2.2.1.length = n) := hn
  have HR : Hid (∀ (ok' : Nat → Prop) (w' : World) (a' : Option Addr) (c' : Nat) (b' : Option Addr) (e' : Nat), RdK ok' w' 4 (rVar ok' w') c.2.2.1 (.slice a' n c') → RdK ok' w' 11 (rSt d ok' w') (c.2.2.2.map (thS d)) (.slice b' i e') → RdC ok' w' d (thC d c) (.agg #[.string nv, .int .i64 vn, .int .i64 ln, .int .i64 co, .slice a' n c', .slice b' i e'])) := by
    intro ok' w' a' c' b' e' h1 h2
    refine ⟨_, _, ?_, h1, h2⟩
    show _ = Value.agg #[sV c.1.1, .int .i64 c.2.1, .int .i64 c.1.2.1, .int .i64 c.1.2.2, _, _]
    rw [show sV c.1.1 = sD c.1.1 from rfl, hnv, hvn, hln, hco]
  have hcall2 : ∀ w1, Below w.heap.size w w1 → Calls Try.prog 33 #[.slice p4 i p6] w1 fun e w' => ∃ iq ic, e = .returned (.slice iq i ic) ∧ RdK (fun b => w1.heap.size ≤ b) w' 11 (rSt d (fun b => w1.heap.size ≤ b) w') (c.2.2.2.map (thS d)) (.slice iq i ic) ∧ Below w1.heap.size w1 w' := fun w1 b1 => (hcall w1 b1).mono (fun e w' hh => by
    obtain ⟨u, h1, h2, h3⟩ := hh
    obtain ⟨iq, ic, rfl, _⟩ := h2.form
    rw [List.length_map, hi] at h1 h2
    exact ⟨iq, ic, h1, h2, h3⟩)
  clear hcall hv hs hok hl1 hn hi hnv hvn hln hco
  have hal : Below w.heap.size w ((w.alloc (.cells #[.string nv, .int .i64 vn, .int .i64 ln, .int .i64 co, .slice a n cap, .slice p4 i p6] 27)).alloc (.cells #[.string ⟨#[]⟩, .int .i64 0, .int .i64 0, .int .i64 0, .slice none 0 0, .slice none 0 0] 37)) := ((Below.refl w.heap.size w).alloc (Nat.le_refl _) _).alloc (by simp) _
  have hX : Bn ((w.alloc (.cells #[.string nv, .int .i64 vn, .int .i64 ln, .int .i64 co, .slice a n cap, .slice p4 i p6] 27)).alloc (.cells #[.string ⟨#[]⟩, .int .i64 0, .int .i64 0, .int .i64 0, .slice none 0 0, .slice none 0 0] 37)) w.heap.size [.string nv, .int .i64 vn, .int .i64 ln, .int .i64 co, .slice a n cap, .slice p4 i p6] := (Bn.new w [.string nv, .int .i64 vn, .int .i64 ln, .int .i64 co, .slice a n cap, .slice p4 i p6] 27 _ rfl).on ((Below.refl _ _).alloc (Nat.le_refl _) _)
  have hR : Bn ((w.alloc (.cells #[.string nv, .int .i64 vn, .int .i64 ln, .int .i64 co, .slice a n cap, .slice p4 i p6] 27)).alloc (.cells #[.string ⟨#[]⟩, .int .i64 0, .int .i64 0, .int .i64 0, .slice none 0 0, .slice none 0 0] 37)) (w.heap.size + 1) [.string ⟨#[]⟩, .int .i64 0, .int .i64 0, .int .i64 0, .slice none 0 0, .slice none 0 0] := Bn.new (w.alloc (.cells #[.string nv, .int .i64 vn, .int .i64 ln, .int .i64 co, .slice a n cap, .slice p4 i p6] 27)) [.string ⟨#[]⟩, .int .i64 0, .int .i64 0, .int .i64 0, .slice none 0 0, .slice none 0 0] 37 _ (by simp)
  have hsz : ((w.alloc (.cells #[.string nv, .int .i64 vn, .int .i64 ln, .int .i64 co, .slice a n cap, .slice p4 i p6] 27)).alloc (.cells #[.string ⟨#[]⟩, .int .i64 0, .int .i64 0, .int .i64 0, .slice none 0 0, .slice none 0 0] 37)).heap.size = w.heap.size + 2 := by simp
  go_enter Try.func11, Try.ntmps11
  go_upto_region 1 with fail
  generalize ((w.alloc (.cells #[.string nv, .int .i64 vn, .int .i64 ln, .int .i64 co, .slice a n cap, .slice p4 i p6] 27)).alloc (.cells #[.string ⟨#[]⟩, .int .i64 0, .int .i64 0, .int .i64 0, .slice none 0 0, .slice none 0 0] 37)) = wx at *
  obtain ⟨S, hS⟩ : ∃ S, w.heap.size = S := ⟨_, rfl⟩
  rw [hS] at hX hR hsz ⊢
  have HS : Hid (w.heap.size = S) := hS
  have hbx : Below w.heap.size w wx := hal
  have hSw : w.heap.size ≤ S := by omega
  clear hS hal
  go_cut [3] (fun u3 wc => ∃ Q iq ic, u3 = .pointer (some ⟨Q, 0, none⟩) ∧ S + 2 ≤ Q ∧ Bn wc Q [.string nv, .int .i64 vn, .int .i64 ln, .int .i64 co, .slice none 0 0, .slice iq i ic] ∧ RdK (fun k => S + 2 ≤ k ∧ k ≠ Q) wc 11 (rSt d (fun k => S + 2 ≤ k ∧ k ≠ Q) wc) (c.2.2.2.map (thS d)) (.slice iq i ic) ∧ Below (S + 2) wx wc)
  case first =>
    have hbz : Below w.heap.size w (wx.alloc (.cells #[.string ⟨#[]⟩, .int .i64 0, .int .i64 0, .int .i64 0, .slice none 0 0, .slice none 0 0] 37)) := hbx.alloc hbx.size _
    have hZ0 : Bn (wx.alloc (.cells #[.string ⟨#[]⟩, .int .i64 0, .int .i64 0, .int .i64 0, .slice none 0 0, .slice none 0 0] 37)) (S + 2) [.string ⟨#[]⟩, .int .i64 0, .int .i64 0, .int .i64 0, .slice none 0 0, .slice none 0 0] := Bn.new wx [.string ⟨#[]⟩, .int .i64 0, .int .i64 0, .int .i64 0, .slice none 0 0, .slice none 0 0] 37 _ hsz.symm
    have hzx : (wx.alloc (.cells #[.string ⟨#[]⟩, .int .i64 0, .int .i64 0, .int .i64 0, .slice none 0 0, .slice none 0 0] 37)).heap.size = S + 3 := by simp; omega
    have n1 : S ≠ S + 2 := by omega
    obtain ⟨X0, _⟩ := hX 0 _ rfl
    obtain ⟨X1, _⟩ := hX 1 _ rfl
    obtain ⟨X2, _⟩ := hX 2 _ rfl
    obtain ⟨X3, _⟩ := hX 3 _ rfl
    obtain ⟨X5, _⟩ := hX 5 _ rfl
    clear HV HR hR
    go_region_held_law (fun w' => w'.cell? ⟨S, 0, none⟩ = some (.string nv) ∧ w'.cell? ⟨S, 1, none⟩ = some (.int .i64 vn) ∧ w'.cell? ⟨S, 2, none⟩ = some (.int .i64 ln) ∧ w'.cell? ⟨S, 3, none⟩ = some (.int .i64 co) ∧ w'.cell? ⟨S, 5, none⟩ = some (.slice p4 i p6))
      (((refine ⟨?_, ?_, ?_, ?_, ?_⟩ <;> (repeat (first | (with_reducible exact X0) | (with_reducible exact X1) | (with_reducible exact X2) | (with_reducible exact X3) | (with_reducible exact X5) | (with_reducible exact Y0) | (with_reducible exact Y1) | (with_reducible exact Y2) | (with_reducible exact Y3) | (with_reducible exact Y5) | (with_reducible refine cell_al ?_) | (with_reducible refine cell_dr ?_) | (with_reducible refine cell_far4 (ne_pt n1) ?_) | (with_reducible refine cell_far4 (ne_pt n2) ?_))) <;> done)))
      (first
        | (go_at_call 33; (with_reducible refine (hcall2 _ hbx.drew).mono ?_); rintro e w1 ⟨iq, ic, rfl, hr1, b1⟩; have bw : Below wx.heap.size wx w1 := ((Below.refl _ wx).drew).trans b1; have n2 : S ≠ w1.heap.size := (by have := bw.size; omega); have kc : ∀ p u, wx.cell? p = some u → w1.cell? p = some u := fun p u hp => (by rw [bw.cell (World.block_lt_of_cell? wx _ hp)]; exact hp); have Y0 := kc _ _ X0; have Y1 := kc _ _ X1; have Y2 := kc _ _ X2; have Y3 := kc _ _ X3; have Y5 := kc _ _ X5)
        | (go_at_call 33; (with_reducible refine (hcall2 _ hbz.drew).mono ?_); rintro e w1 ⟨iq, ic, rfl, hr1, b1⟩; have bz : Below (wx.alloc (.cells #[.string ⟨#[]⟩, .int .i64 0, .int .i64 0, .int .i64 0, .slice none 0 0, .slice none 0 0] 37)).heap.size (wx.alloc (.cells #[.string ⟨#[]⟩, .int .i64 0, .int .i64 0, .int .i64 0, .slice none 0 0, .slice none 0 0] 37)) w1 := ((Below.refl _ (wx.alloc (.cells #[.string ⟨#[]⟩, .int .i64 0, .int .i64 0, .int .i64 0, .slice none 0 0, .slice none 0 0] 37))).drew).trans b1; have bw : Below wx.heap.size wx w1 := ((Below.refl wx.heap.size wx).alloc (Nat.le_refl _) (.cells #[.string ⟨#[]⟩, .int .i64 0, .int .i64 0, .int .i64 0, .slice none 0 0, .slice none 0 0] 37)).trans (bz.mono (by rw [hsz, hzx]; omega)); have kc : ∀ p u, wx.cell? p = some u → w1.cell? p = some u := fun p u hp => (by rw [bw.cell (World.block_lt_of_cell? wx _ hp)]; exact hp); have Y0 := kc _ _ X0; have Y1 := kc _ _ X1; have Y2 := kc _ _ X2; have Y3 := kc _ _ X3; have Y5 := kc _ _ X5; have hZ := hZ0.on bz; obtain ⟨z0, f0⟩ := hZ 0 _ rfl; obtain ⟨z1, f1⟩ := hZ 1 _ rfl; obtain ⟨z2, f2⟩ := hZ 2 _ rfl; obtain ⟨z3, f3⟩ := hZ 3 _ rfl; obtain ⟨z4, f4⟩ := hZ 4 _ rfl; obtain ⟨z5, f5⟩ := hZ 5 _ rfl)
        | fail)
    · have bw2 : Below (S + 2) wx w1 := by rw [← hsz]; exact bw
      have hs1 : S + 2 ≤ w1.heap.size := by have := bw.size; omega
      have hr2 := hr1.stay (kp_st d) (ok' := fun k => S + 2 ≤ k ∧ k ≠ w1.heap.size) (w' := w1.alloc (.cells #[.string nv, .int .i64 vn, .int .i64 ln, .int .i64 co, .slice none 0 0, .slice iq i ic] 37)) (fun k hk hl => ⟨⟨by have hk' : wx.heap.size ≤ k := hk; omega, by omega⟩, ((Below.refl w1.heap.size w1).alloc (Nat.le_refl _) _).block k hl⟩)
      go_wp2
      go_meet
      case rel => exact ⟨w1.heap.size, iq, ic, rfl, hs1, Bn.new w1 [.string nv, .int .i64 vn, .int .i64 ln, .int .i64 co, .slice none 0 0, .slice iq i ic] 37 _ rfl, hr2, bw2.alloc hs1 _⟩
    · have bw2 : Below (S + 2) wx w1 := by rw [← hsz]; exact bw
      have hQ2 := ((((((hZ.set (i := 0) (by simp) (.string nv)).set (i := 1) (by simp) (.int .i64 vn)).set (i := 2) (by simp) (.int .i64 ln)).set (i := 3) (by simp) (.int .i64 co)).set (i := 4) (by simp) (.slice none 0 0)).set (i := 5) (by simp) (.slice iq i ic))
      have hb2 := putL_below [.string nv, .int .i64 vn, .int .i64 ln, .int .i64 co, .slice none 0 0, .slice iq i ic] w1 (S + 2) 0 bw2 (Nat.le_refl _)
      have hr2 := hr1.stay (kp_st d) (ok' := fun k => S + 2 ≤ k ∧ k ≠ S + 2) (w' := putL w1 (S + 2) 0 [.string nv, .int .i64 vn, .int .i64 ln, .int .i64 co, .slice none 0 0, .slice iq i ic]) (fun k hk hl => ⟨by have hk' : (wx.alloc (.cells #[.string ⟨#[]⟩, .int .i64 0, .int .i64 0, .int .i64 0, .slice none 0 0, .slice none 0 0] 37)).heap.size ≤ k := hk; omega, putL_heap _ _ _ _ _ (by have hk' : (wx.alloc (.cells #[.string ⟨#[]⟩, .int .i64 0, .int .i64 0, .int .i64 0, .slice none 0 0, .slice none 0 0] 37)).heap.size ≤ k := hk; omega)⟩)
      go_wp2
      go_meet
      case rel => exact ⟨S + 2, iq, ic, rfl, Nat.le_refl _, hQ2, hr2, hb2⟩
  case rest =>
    obtain ⟨Q, iq, ic, rfl, hQ, hQb, hQr, hbq⟩ := hcut
    have hXc := hX.blk (hbq.block S (by omega))
    have hRc := hR.blk (hbq.block (S + 1) (by omega))
    have hbw := hbx.trans (hbq.mono (by omega))
    obtain ⟨wk, hwk⟩ : ∃ x, x = wc := ⟨_, rfl⟩
    subst hwk
    have hql : Q < wk.heap.size := hQb.lt
    have hws := hXc.lt
    have hwr := hRc.lt
    obtain ⟨x4, _⟩ := hXc 4 _ rfl
    go_wp2
    go_loopw [18] (fun ix wr => ∃ (j : Nat) (sl2 : Value), j ≤ n ∧ ix = .int .i64 (j : Int) ∧ Bn wr Q [.string nv, .int .i64 vn, .int .i64 ln, .int .i64 co, sl2, .slice iq i ic] ∧ OwnB wr wk.heap.size (fun _ => False) 84 4 rVar sl2 (c.2.2.1.take j) ∧ Fx Q wk wr) (fun ix _ => n - (RowKit.intOf ix).toNat)
    case atStart => exact ⟨0, _, Nat.zero_le _, rfl, hQb, ownB_nil _ _ _ _ _ _, Fx.refl _ _⟩
    case round =>
      clear x4
      obtain ⟨j, sl2, hj, rfl, hQB, hRow, hF⟩ := hrel
      obtain ⟨acj, hacj⟩ : ∃ acj, c.2.2.1.take j = acj := ⟨_, rfl⟩
      have hlj : acj.length = j := by rw [← hacj, List.length_take, HN.out]; omega
      rw [hacj] at hRow
      have HACJ : Hid (c.2.2.1.take j = acj) := hacj
      clear hacj
      obtain ⟨ra, rc, rfl, hrl, hrm⟩ := hRow.form
      rw [hlj] at hRow hQB hrl
      have hXr := hXc.fx hF (by omega)
      have hFs := hF.size
      have hbr : Below w.heap.size w wr := hF.bel hbw (by omega) (Nat.le_refl _)
      by_cases hjl : j < n
      · have hjt : j < c.2.2.1.length := by rw [HN.out]; exact hjl
        obtain ⟨b, off, rfl, hbl, hc⟩ := varQ_at (show RdK ok w 4 (rVar ok w) c.2.2.1 _ from HV.out) j hjt
        obtain ⟨q, hq⟩ : ∃ q, c.2.2.1[j] = q := ⟨_, rfl⟩
        rw [hq] at hc
        obtain ⟨sn, sv, sl, sc, hsv⟩ : ∃ sn sv sl sc, varV q = [.string sn, .int .i64 sv, .int .i64 sl, .int .i64 sc] := ⟨_, _, _, _, rfl⟩
        rw [hsv] at hc
        have hp : rVar (fun b => wr.heap.size ≤ b) wr q [.string sn, .int .i64 sv, .int .i64 sl, .int .i64 sc] := hsv.symm
        have HQ : Hid (c.2.2.1[j] = q) := hq
        clear hsv hq
        have C0 := (hbr.cell (p := ⟨b, off + j * 4 + 0, none⟩) hbl).trans (hc 0 _ rfl)
        have C1 := (hbr.cell (p := ⟨b, off + j * 4 + 1, none⟩) hbl).trans (hc 1 _ rfl)
        have C2 := (hbr.cell (p := ⟨b, off + j * 4 + 2, none⟩) hbl).trans (hc 2 _ rfl)
        have C3 := (hbr.cell (p := ⟨b, off + j * 4 + 3, none⟩) hbl).trans (hc 3 _ rfl)
        rw [Nat.add_zero] at C0
        clear hc
        obtain ⟨P4, _⟩ := hXr 4 _ rfl
        obtain ⟨k4, z4⟩ := hQB 4 _ rfl
        have i3 : (j : Int) < (n : Int) := by omega
        have i4 : (0 : Int) ≤ (j : Int) := by omega
        have hali := (Below.refl wr.heap.size wr).alloc (Nat.le_refl _) (.cells #[.string sn, .int .i64 sv, .int .i64 sl, .int .i64 sc] 84)
        have hQa := hQB.on hali
        obtain ⟨m4, o4⟩ := hQa 4 _ rfl
        go_upto_region 5 with fail
        go_region_law (first
          | (refine step_pushB wr.drew rfl _ _ 34 rfl wk.heap.size (fun _ => False) 84 iv (.agg #[.string ⟨#[]⟩, .int .i64 0, .int .i64 0, .int .i64 0]) 4 40 Try.underlying34 hiv hiv0 hiv1 hiv2 rfl kp_var (.slice ra j rc) acj q [.string sn, .int .i64 sv, .int .i64 sl, .int .i64 sc] wr.heap.size rfl rfl rfl (by simp [Value.oneCell']) hRow hp hFs (fun x hx => (hRow.lt x hx).2) (fun b hb => hb.elim) (by omega) (by unfold maxLen; omega) hFs ?_; intro vb wb hOb2 hgb2 hbb hat; have hBb := hQB.blk (hbb.block _ hql); obtain ⟨m5, n5⟩ := hBb 4 _ rfl; obtain ⟨vba, vbc, hvb, hvbl, hvbm⟩ := hOb2.form; rw [List.length_append, List.length_singleton, hlj] at hvb; subst hvb)
          | fail)
        all_goals (
          have hBc := hBb.set (i := 4) (by simp) (.slice vba (j + 1) vbc)
          have hRc2 := hOb2.set kp_var (X := Q) (i := 4) hql (.slice vba (j + 1) vbc)
          have hFc := ((hF.drew).andD hbb (Nat.le_refl _)).setX (i := 4) (.slice vba (j + 1) vbc)
          have hac2 : c.2.2.1.take (j + 1) = acj ++ [q] := by rw [List.take_succ_eq_append_getElem hjt, HACJ.out, HQ.out]
          clear hQa m4 o4 hali hgb2 hbb hat hBb m5 n5 hOb2 k4 z4 P4 C0 C1 C2 C3
          go_wp2
          go_roundw
          case rel => exact ⟨j + 1, _, hjl, by go_num, hBc, by rw [hac2]; exact hRc2, hFc⟩
          case measure => simp [RowKit.intOf]; omega)
      · have i3 : ¬ (j : Int) < (n : Int) := by omega
        have hjn : j = n := by omega
        subst hjn
        have hfull : acj = c.2.2.1 := by rw [← HACJ.out]; exact List.take_of_length_le (by rw [HN.out]; omega)
        have hRr := hRc.fx hF (by omega)
        have hS2 := HS.out
        have hvars := (hRow.rd kp_var).stay kp_var (ok' := fun b => S + 2 ≤ b) (w' := putL wr (S + 1) 0 [.string nv, .int .i64 vn, .int .i64 ln, .int .i64 co, .slice ra j rc, .slice iq i ic]) (fun b hb hl => ⟨by omega, putL_heap _ _ _ _ _ (by omega)⟩)
        rw [hfull] at hvars
        have hstates := hQr.stay (kp_st d) (ok' := fun b => S + 2 ≤ b) (w' := putL wr (S + 1) 0 [.string nv, .int .i64 vn, .int .i64 ln, .int .i64 co, .slice ra j rc, .slice iq i ic]) (fun b hb hl => ⟨hb.1, (putL_heap _ _ _ _ _ (by omega)).trans (hF.block b hl (fun e => hb.2 (Option.some.inj e)))⟩)
        have hfin := HR.out _ _ _ _ _ _ (hvars.stay kp_var (ok' := fun b => w.heap.size ≤ b) (fun b hb hl => ⟨by omega, rfl⟩)) (hstates.stay (kp_st d) (ok' := fun b => w.heap.size ≤ b) (fun b hb hl => ⟨by omega, rfl⟩))
        have hbz := putL_below [.string nv, .int .i64 vn, .int .i64 ln, .int .i64 co, .slice ra j rc, .slice iq i ic] wr (S + 1) 0 hbr (by omega)
        clear hS2
        obtain ⟨t0, _⟩ := hQB 0 _ rfl
        obtain ⟨r0, f0⟩ := hRr 0 _ rfl
        obtain ⟨t1, _⟩ := hQB 1 _ rfl
        obtain ⟨r1, f1⟩ := hRr 1 _ rfl
        obtain ⟨t2, _⟩ := hQB 2 _ rfl
        obtain ⟨r2, f2⟩ := hRr 2 _ rfl
        obtain ⟨t3, _⟩ := hQB 3 _ rfl
        obtain ⟨r3, f3⟩ := hRr 3 _ rfl
        obtain ⟨t4, _⟩ := hQB 4 _ rfl
        obtain ⟨r4, f4⟩ := hRr 4 _ rfl
        obtain ⟨t5, _⟩ := hQB 5 _ rfl
        obtain ⟨r5, f5⟩ := hRr 5 _ rfl
        have hRz := (((((hRr.set (i := 0) (by simp) (.string nv)).set (i := 1) (by simp) (.int .i64 vn)).set (i := 2) (by simp) (.int .i64 ln)).set (i := 3) (by simp) (.int .i64 co)).set (i := 4) (by simp) (.slice ra j rc)).set (i := 5) (by simp) (.slice iq i ic)
        go_wp2
        exact bodyPost_ret (their_res hRz rfl) rfl ⟨_, rfl, hfin, hbz⟩
end Go.Proofs.Ytbccdkhbplmknaa

/- Nodes, by parents: what is met on the way up. Math alone. -/
namespace Go.Proofs.Ytbccdkhbplmknaa
set_option linter.unusedVariables false

end Go.Proofs.Ytbccdkhbplmknaa

/- What the document's lies answers. -/
namespace Go.Proofs.Ytbccdkhbplmknaa
open Go.RowKit Go.Lib
set_option linter.unusedSimpArgs false
set_option linter.unusedVariables false
attribute [local go_sem ↓] Go.wp_at_zero Go.wp_at_succ




def ndA : Nd := (⟨#[97]⟩, (-1, 0, 1), (false, false, true))
theorem fdA0 : fdB [ndA] ⟨#[97]⟩ = 0 := by kernel_rfl
theorem wiA0 : wiB [] (-1) (-1) = true := by kernel_rfl
theorem rdA (w : World) : RdNd (fun _ => True) (w.alloc (.cells #[.string ⟨#[97]⟩, .int .i64 (-1), .int .i64 0, .int .i64 1, .bool false, .bool false, .bool true] 72)) [ndA] (.slice (some ⟨w.heap.size, 0, none⟩) 1 1) := by
  refine ⟨_, 1, rfl, Nat.le_refl _, by simp [maxLen], fun i hi => ?_⟩
  have : i = 0 := by simp at hi; omega
  subst this
  refine ⟨w.heap.size, 0, ndV ndA, rfl, trivial, by simp, rfl, rfl, fun j u hu => ?_⟩
  have := (Bn.new w (ndV ndA) 72 _ rfl j u hu).1
  rw [show 0 + 0 * 7 + j = j by omega]
  exact this
set_option maxRecDepth 100000 in
set_option maxHeartbeats 4000000 in
theorem awakeT_any (w : World) : Calls Try.prog 7 #[] w fun e w' => e = .returned (.bool true) ∧ Below w.heap.size w w' := by
  have hb0 := (Below.refl w.heap.size w).alloc (Nat.le_refl _) (.cells #[.string ⟨#[97]⟩, .int .i64 (-1), .int .i64 0, .int .i64 1, .bool false, .bool false, .bool true] 72)
  have hfd := find_any (rdA w) ⟨#[97]⟩
  rw [fdA0] at hfd
  have hwi := fun w1 => twithin_any (rdK_none (fun _ => True) w1 7 (rNd (fun _ => True) w1)) (-1) (-1)
  rw [wiA0] at hwi
  go_enter Try.func7, Try.ntmps7
  go_wp2_with (first | (go_at_call 28; refine hfd.mono ?_; rintro e w1 ⟨rfl, b1⟩) | (go_at_call 19; refine (hwi _).mono ?_; rintro e w2 ⟨rfl, b2⟩) | fail)
  go_ret
  exact ⟨rfl, (hb0.trans (b1.mono hb0.size)).trans (b2.mono (Nat.le_trans hb0.size b1.size))⟩

theorem flM_len : ∀ (d k : Nat) (l : List (St d)), (flM d k (l.map (thS d))).length = totS d l
  | 0, k, l => by simp [flM, totS]
  | d + 1, k, [] => by simp [flM, totS]
  | d + 1, k, t :: r => by
    have h1 := flM_len d (k + 1) t.2
    have h2 := flM_len (d + 1) k r
    have e : flM (d + 1) k ((t :: r).map (thS (d + 1))) = (k, ⟨d + 1, thS (d + 1) t⟩) :: (flM d (k + 1) (t.2.map (thS d)) ++ flM (d + 1) k (r.map (thS (d + 1)))) := by
      simp only [flM, List.map_cons, List.flatMap_cons, List.cons_append]
      rfl
    rw [e, List.length_cons, List.length_append, h1, h2]
    show _ = ((t :: r).map (fun t : St (d + 1) => 1 + totS d t.2)).sum
    rw [List.map_cons, List.sum_cons]
    show totS d t.2 + totS (d + 1) r + 1 = 1 + totS d t.2 + totS (d + 1) r
    omega
theorem flM_names : ∀ (d k : Nat) (l : List (St d)), (∀ t ∈ l, SmS d t) → ∀ y ∈ flM d k (l.map (thS d)), (nd0 y).1.size ≤ 140737488351232
  | 0, k, l, _, y, hy => by simp [flM] at hy
  | d + 1, k, l, h, y, hy => by
    simp only [flM, List.mem_flatMap, List.mem_map, List.mem_cons] at hy
    obtain ⟨u, ⟨t, ht, rfl⟩, hy⟩ := hy
    have hs := h t ht
    rcases hy with rfl | hy
    · have h1 : t.1.1.1.length ≤ 20050 := hs.1.1
      show t.1.1.1.toArray.size ≤ _
      simp
      omega
    · exact flM_names d (k + 1) t.2 hs.2 y hy
theorem rdC_letT {ok : Nat → Prop} {w : World} {d : Nat} {c : ChG d} {v : Value} (h : RdC ok w d c v) : ∃ a b e f g h' i j k l, v = .agg #[.string a, .int .i64 b, .int .i64 e, .int .i64 f, .slice g h' i, .slice j k l] := by
  obtain ⟨sv, ss, rfl, h1, h2⟩ := h
  obtain ⟨a, cap, rfl, _⟩ := h1.form
  obtain ⟨a', cap', rfl, _⟩ := h2.form
  exact ⟨_, _, _, _, _, _, _, _, _, _, rfl⟩
theorem rdD_letT {ok : Nat → Prop} {w : World} {d : Nat} {c : ChD d} {v : Value} (h : RdD ok w d c v) : ∃ a b e f g h' i j k l, v = .agg #[.string a, .int .i64 b, .int .i64 e, .int .i64 f, .slice g h' i, .slice j k l] := by
  obtain ⟨sv, ss, rfl, h1, h2⟩ := h
  obtain ⟨a, cap, rfl, _⟩ := h1.form
  obtain ⟨a', cap', rfl, _⟩ := h2.form
  exact ⟨_, _, _, _, _, _, _, _, _, _, rfl⟩
/-- Theirs, then Nodes: the nodes of the chart. -/
theorem nodes_th {ok : Nat → Prop} {w : World} {d : Nat} {c : ChD d} {v : Value} (hsm : SmCh d c) (h : RdC ok w d (thC d c) v) (hok : ∀ b, ok b → b < w.heap.size) :
    Calls Try.prog 10 #[v] w fun e w' => ∃ ra rn rc l, e = .returned (.slice ra rn rc) ∧ RdNd (fun b => w.heap.size ≤ b) w' l (.slice ra rn rc) ∧ fmB l = true ∧ l.length = rn ∧ l = ndsM (flM d 0 (thC d c).2.2.2) ∧ Below w.heap.size w w' := by
  refine (tnodes_any h hok (by show (flM d 0 (c.2.2.2.map (thS d))).length ≤ _; rw [flM_len]; have := hsm.2.2.1; omega) (flM_names d 0 c.2.2.2 hsm.2.2.2)).mono ?_
  rintro e w' ⟨r, rfl, hr, hb⟩
  obtain ⟨a, cap, rfl, _⟩ := hr.form
  exact ⟨_, _, _, _, rfl, hr, ndsM_formed d _, rfl, rfl, hb⟩
set_option maxRecDepth 100000 in
set_option maxHeartbeats 16000000 in
theorem treeMeets_walk {w : World} {d : Nat} {c : ChD d} {v : Value} (hr : RdD (fun _ => True) w d c v) (hwf : WfC d c) (a : Int) (wfa : (Lit.int .u8 a).wf = true) (b : Int) (wfb : (Lit.int .u8 b).wf = true) :
    Calls Try.prog 4 #[v, .int .u8 a, .int .u8 b] w fun e w' => e = .returned (.bool true) ∧ Below w.heap.size w w' := by
  obtain ⟨g0, g1, g2, g3, g4, g5, g6, g7, g8, g9, rfl⟩ := rdD_letT hr
  have h1 := fun w1 => awakeT_any w1
  have hal : Below w.heap.size w (w.alloc (.cells #[.string g0, .int .i64 g1, .int .i64 g2, .int .i64 g3, .slice g4 g5 g6, .slice g7 g8 g9] 27)) := (Below.refl w.heap.size w).alloc (Nat.le_refl _) _
  have hX : Bn (w.alloc (.cells #[.string g0, .int .i64 g1, .int .i64 g2, .int .i64 g3, .slice g4 g5 g6, .slice g7 g8 g9] 27)) w.heap.size [.string g0, .int .i64 g1, .int .i64 g2, .int .i64 g3, .slice g4 g5 g6, .slice g7 g8 g9] := Bn.new w [.string g0, .int .i64 g1, .int .i64 g2, .int .i64 g3, .slice g4 g5 g6, .slice g7 g8 g9] 27 _ rfl
  have h2 := fun w1 (b : Below w.heap.size w w1) => small_any (hr.keep (ok' := fun _ => True) (fun k hk hl => ⟨trivial, b.block k hl⟩)) hwf (w := w1)
  go_enter Try.func4, Try.ntmps4
  go_upto_region 1 with fail
  generalize (w.alloc (.cells #[.string g0, .int .i64 g1, .int .i64 g2, .int .i64 g3, .slice g4 g5 g6, .slice g7 g8 g9] 27)) = wx at *
  obtain ⟨x0, _⟩ := hX 0 _ rfl
  obtain ⟨x1, _⟩ := hX 1 _ rfl
  obtain ⟨x2, _⟩ := hX 2 _ rfl
  obtain ⟨x3, _⟩ := hX 3 _ rfl
  obtain ⟨x4, _⟩ := hX 4 _ rfl
  obtain ⟨x5, _⟩ := hX 5 _ rfl
  go_upto_if 18 with (first
    | (go_at_call 7; refine (h1 _).mono ?_; rintro e w1 ⟨rfl, b1⟩; have x0 := (b1.cell (p := ⟨w.heap.size, 0, none⟩) hX.lt).trans x0; have x1 := (b1.cell (p := ⟨w.heap.size, 1, none⟩) hX.lt).trans x1; have x2 := (b1.cell (p := ⟨w.heap.size, 2, none⟩) hX.lt).trans x2; have x3 := (b1.cell (p := ⟨w.heap.size, 3, none⟩) hX.lt).trans x3; have x4 := (b1.cell (p := ⟨w.heap.size, 4, none⟩) hX.lt).trans x4; have x5 := (b1.cell (p := ⟨w.heap.size, 5, none⟩) hX.lt).trans x5)
    | (go_at_call 8; refine (h2 _ (hal.trans (b1.mono hal.size))).mono ?_; rintro e w2 ⟨bb, rfl, hsm, b2⟩)
    | fail)
  have hb1 := hal.trans (b1.mono hal.size)
  have hb2 := hb1.trans (b2.mono hb1.size)
  have hX2 := (hX.on b1).on b2
  clear b1 b2 hX hal h2 hb1 x0 x1 x2 x3 x4 x5
  cases bb with
  | false =>
    go_wp2_with (first
      | (go_at_call 7; refine (h1 _).mono ?_; rintro e w3 ⟨rfl, b3⟩)
      | fail)
    go_ret
    exact ⟨rfl, hb2.trans (b3.mono hb2.size)⟩
  | true =>
    replace hsm := hsm rfl
    have h3 : ∀ w1, Below w.heap.size w w1 → Calls Try.prog 11 #[.agg #[.string g0, .int .i64 g1, .int .i64 g2, .int .i64 g3, .slice g4 g5 g6, .slice g7 g8 g9]] w1 fun e w' => ∃ e0 e1 e2 e3 e4 e5 e6 e7 e8 e9, e = .returned (.agg #[.string e0, .int .i64 e1, .int .i64 e2, .int .i64 e3, .slice e4 e5 e6, .slice e7 e8 e9]) ∧ RdC (fun b => w1.heap.size ≤ b ∧ b < w'.heap.size) w' d (thC d c) (.agg #[.string e0, .int .i64 e1, .int .i64 e2, .int .i64 e3, .slice e4 e5 e6, .slice e7 e8 e9]) ∧ Below w1.heap.size w1 w' := fun w1 b1 => (theirs_ch (hr.keep (ok' := fun _ => True) (fun k hk hl => ⟨trivial, b1.block k hl⟩)) hsm.2.2.2 hsm.2.2.1 (by have := hsm.2.1; omega)).mono (fun e w' hh => by
      obtain ⟨u, q1, q2, q3⟩ := hh
      obtain ⟨e0, e1, e2, e3, e4, e5, e6, e7, e8, e9, rfl⟩ := rdC_letT q2
      exact ⟨e0, e1, e2, e3, e4, e5, e6, e7, e8, e9, q1, q2.keep (fun k hk hl => ⟨⟨hk, hl⟩, rfl⟩), q3⟩)
    have h4 := fun (ok : Nat → Prop) w1 v (h : RdC ok w1 d (thC d c) v) (hok : ∀ b, ok b → b < w1.heap.size) => nodes_th hsm h hok
    obtain ⟨x0, _⟩ := hX2 0 _ rfl
    obtain ⟨x1, _⟩ := hX2 1 _ rfl
    obtain ⟨x2, _⟩ := hX2 2 _ rfl
    obtain ⟨x3, _⟩ := hX2 3 _ rfl
    obtain ⟨x4, _⟩ := hX2 4 _ rfl
    obtain ⟨x5, _⟩ := hX2 5 _ rfl
    go_upto_region 4 with (first
      | (go_at_call 11; refine (h3 _ hb2).mono ?_; rintro e w3 ⟨e0, e1, e2, e3, e4, e5, e6, e7, e8, e9, rfl, hr3, b3⟩; have hb3 := hb2.trans (b3.mono hb2.size))
      | (go_at_call 10; refine (h4 _ _ _ hr3 (fun b hb => hb.2)).mono ?_; rintro e w4 ⟨ra, n, rc, l, rfl, hr4, hf4, hn4, hl4, b4⟩)
      | fail)
    have hb4 := hb3.trans (b4.mono hb3.size)
    clear h1 h3 h4 x0 x1 x2 x3 x4 x5 hX2 hr3 b3 b4 hb3 hb2 hl4
    by_cases h0 : n = 0
    · subst h0
      go_wp2
      go_ret
      exact ⟨rfl, hb4⟩
    · have i0 : ¬ ((n : Int) = 0) := by omega
      have hn40 : n ≤ 40 := by have := (fmB_fm hf4).1; omega
      have ha : 0 ≤ a ∧ a < 256 := by simp [Lit.wf, IntKind.min, IntKind.max, IntKind.bits, IntKind.signed] at wfa; omega
      have hb : 0 ≤ b ∧ b < 256 := by simp [Lit.wf, IntKind.min, IntKind.max, IntKind.bits, IntKind.signed] at wfb; omega
      go_upto_region 6 with fail
      go_quiet (fail)
      obtain ⟨i, hi, hin⟩ : ∃ i : Nat, a % (n : Int) = i ∧ i < n := ⟨(a % (n : Int)).toNat, by have := Int.emod_nonneg a i0; omega, by have := Int.emod_nonneg a i0; have := Int.emod_lt_of_pos a (show (0 : Int) < n by omega); omega⟩
      obtain ⟨j, hj, hjn⟩ : ∃ j : Nat, b % (n : Int) = j ∧ j < n := ⟨(b % (n : Int)).toNat, by have := Int.emod_nonneg b i0; omega, by have := Int.emod_nonneg b i0; have := Int.emod_lt_of_pos b (show (0 : Int) < n by omega); omega⟩
      rw [hi, hj]
      have hb5 : Below w.heap.size w (w4.drewN nq) := ⟨hb4.os, hb4.tape, hb4.output, hb4.size, hb4.block⟩
      have hr5 : RdNd (fun _ => True) (w4.drewN nq) l (.slice ra n rc) := hr4.stay kp_nd (fun k hk hl => ⟨trivial, rfl⟩)
      obtain ⟨w5, hw5⟩ : ∃ w5, w4.drewN nq = w5 := ⟨_, rfl⟩
      rw [hw5] at hb5 hr5 ⊢
      clear hw5 hr4 hb4 hi hj ha hb wfa wfb
      have hil : i < l.length := by omega
      have hjl : j < l.length := by omega
      obtain ⟨m, hm⟩ : ∃ m, mtB l i j = m := ⟨_, rfl⟩
      have hm2 : mtB l j i = m := by rw [← hm]; exact (mtB_comm hf4 hil hjl).symm
      obtain ⟨m1, m2, m3⟩ := mtB_spec hf4 hil hjl
      obtain ⟨m4, m5⟩ := mtB_lt hf4 hil hjl
      have HIN := hidOf (fun (k : Nat) (hk : k < l.length) (h1 : k ≠ i) (h2 : k ≠ j) (h3 : mtB l i j < k) (h4 : wiB l i k = true) (h5 : wiB l j k = true) => mtB_inner hf4 hil hjl hk h1 h2 h3 h4 h5)
      rw [hm] at m1 m2 m3 m4 m5 HIN
      have wi1 := wiB_of hf4 hil m1 (fun h => (m2 h).1)
      have wj1 := wiB_of hf4 hjl m1 (fun h => (m2 h).2)
      clear m2 m3
      have c1 := fun (x y : Int) w1 (bb : Below w5.heap.size w5 w1) => meet_any (hr5.on kp_nd bb) x y
      have c5 := fun (x y : Int) w1 (bb : Below w5.heap.size w5 w1) => twithin_any (hr5.on kp_nd bb) x y
      have z1 : ¬ m < -1 := by omega
      have z2 : ¬ m ≥ (n : Int) := by omega
      have z3 : (m == (i : Int)) = false := beq_eq_false_iff_ne.2 (by omega)
      have z4 : (m == (j : Int)) = false := beq_eq_false_iff_ne.2 (by omega)
      have hB := Below.refl w5.heap.size w5
      clear m1
      go_upto_region 10 with (first
        | (go_at_call 18; refine (c1 _ _ _ hB).mono ?_; rintro e w6 ⟨rfl, b6⟩; have hB := Below.nxt hB b6)
        | (go_at_call 19; refine (c5 _ _ _ hB).mono ?_; rintro e w6 ⟨rfl, b6⟩; have hB := Below.nxt hB b6)
        | fail)
      have hB9 : Below w5.heap.size w5 w6 := hB
      clear hm hm2 wi1 wj1 c1 b6 hB
      go_wp2
      go_loopw [82] (fun ix wr => ∃ (k : Nat), k ≤ n ∧ ix = .int .i64 (k : Int) ∧ Below w5.heap.size w5 wr) (fun ix _ => n - (RowKit.intOf ix).toNat)
      case atStart => exact ⟨0, Nat.zero_le _, rfl, hB9⟩
      case round =>
        obtain ⟨k, hk, rfl, hB⟩ := hrel
        by_cases hlt : k < n
        · have y1 : (k : Int) < (n : Int) := by omega
          have y2 : (0 : Int) ≤ (k : Int) := by omega
          by_cases q1 : k = i
          · have q1' : ((k : Int) != (i : Int)) = false := by simp; omega
            clear q1
            go_wp2
            go_roundw
            case rel => exact ⟨k + 1, hlt, by go_num, hB⟩
            case measure => simp [RowKit.intOf]; omega
          have q1' : ((k : Int) != (i : Int)) = true := by simp; omega
          by_cases q2 : k = j
          · have q2' : ((k : Int) != (j : Int)) = false := by simp; omega
            clear q1 q2
            go_wp2
            go_roundw
            case rel => exact ⟨k + 1, hlt, by go_num, hB⟩
            case measure => simp [RowKit.intOf]; omega
          have q2' : ((k : Int) != (j : Int)) = true := by simp; omega
          by_cases q3 : (k : Int) > m
          · have HQ : Hid (wiB l i k = true → wiB l j k = true → False) := fun h4 h5 => HIN.out k (by omega) q1 q2 q3 h4 h5
            clear q1 q2
            cases p1 : wiB l k m with
            | false =>
              go_wp2_with (first
                | (go_at_call 19; refine (c5 _ _ _ hB).mono ?_; rintro e w7 ⟨rfl, b7⟩; have hB := Below.nxt hB b7)
                | fail)
              go_roundw
              case rel => exact ⟨k + 1, hlt, by go_num, hB⟩
              case measure => simp [RowKit.intOf]; omega
            | true =>
              cases p2 : wiB l i k with
              | false =>
                go_wp2_with (first
                  | (go_at_call 19; refine (c5 _ _ _ hB).mono ?_; rintro e w7 ⟨rfl, b7⟩; have hB := Below.nxt hB b7)
                  | fail)
                go_roundw
                case rel => exact ⟨k + 1, hlt, by go_num, hB⟩
                case measure => simp [RowKit.intOf]; omega
              | true =>
                have p3 : wiB l j k = false := by
                  cases h : wiB l j k
                  · rfl
                  · exact (HQ.out p2 h).elim
                go_wp2_with (first
                  | (go_at_call 19; refine (c5 _ _ _ hB).mono ?_; rintro e w7 ⟨rfl, b7⟩; have hB := Below.nxt hB b7)
                  | fail)
                go_roundw
                case rel => exact ⟨k + 1, hlt, by go_num, hB⟩
                case measure => simp [RowKit.intOf]; omega
          · clear q1 q2
            go_wp2
            go_roundw
            case rel => exact ⟨k + 1, hlt, by go_num, hB⟩
            case measure => simp [RowKit.intOf]; omega
        · have y1 : ¬ (k : Int) < (n : Int) := by omega
          go_wp2
          go_ret
          exact ⟨rfl, hb5.trans (hB.mono hb5.size)⟩
end Go.Proofs.Ytbccdkhbplmknaa

/- An argument that is a slice of bytes, opened: the bytes that it reads as, each from 0 to 255, and their number within the form's reach. -/
namespace Go.Proofs.Ytbccdkhbplmknaa
open Go.ChangeShapes Go.WideShapes Go.ChangeAt Go.RowKit

end Go.Proofs.Ytbccdkhbplmknaa
