import Derived.Test.YtbccdkhbplmknaaWoc09
import Derived.Test.YtbccdkhbplmknaaWoc05
import Derived.Test.YtbccdkhbplmknaaWoc10
import Derived.Test.YtbccdkhbplmknaaWoc08
import Derived.Test.YtbccdkhbplmknaaWoc06
import Derived.Test.YtbccdkhbplmknaaWoc07
import Derived.Test.YtbccdkhbplmknaaWoc01
import Derived.ProofKit
import Derived.OpenShut
import Derived.ShutString
import Derived.ChangeOld
import Derived.SizedLaws
import Derived.Below
import Derived.Test.YtbccdkhbplmknaaRows
import Derived.Test.YtbccdkhbplmknaaWoc02
import Derived.Deep.Slices

/- What the program's stripVar is, and each over variables. -/
namespace Go.Proofs.Ytbccdkhbplmknaa
open Go.RowKit Go.Lib
set_option linter.unusedSimpArgs false
set_option linter.unusedVariables false
attribute [local go_sem ↓] Go.wp_at_zero Go.wp_at_succ

theorem varQ_at {ok : Nat → Prop} {w : World} {l : List (List UInt8 × Int × Pl)} {a : Option Addr} {n cap : Nat} (h : RdK ok w 4 (rVar ok w) l (.slice a n cap)) (j : Nat) (hj : j < l.length) : ∃ b off, a = some ⟨b, off, none⟩ ∧ b < w.heap.size ∧ ∀ i u, (varV l[j])[i]? = some u → w.cell? ⟨b, off + j * 4 + i, none⟩ = some u := by
  obtain ⟨a1, cap1, he, h1, h2, h3⟩ := h
  simp only [Value.slice.injEq] at he
  obtain ⟨rfl, rfl, rfl⟩ := he
  obtain ⟨b, off, cs, ha, _, hb, hl, hr, hc⟩ := h3 j hj
  have hr : cs = varV l[j] := hr
  subst hr
  exact ⟨b, off, ha, hb, hc⟩

theorem their_res {w4 : World} {R : Nat} {a b c d e f : Value} {tmps : Array Value} (hR : Bn w4 R [a, b, c, d, e, f]) (ht : tmps.getD 2 undef = .pointer (some ⟨R, 0, none⟩)) : (results Try.f11 tmps).run Try.prog w4 = .ok (.agg #[a, b, c, d, e, f]) w4 := by
  have ht' : tmps[2]?.getD undef = .pointer (some ⟨R, 0, none⟩) := by simpa using ht
  have c0 := (hR 0 _ rfl).1
  have c1 := (hR 1 _ rfl).1
  have c2 := (hR 2 _ rfl).1
  have c3 := (hR 3 _ rfl).1
  have c4 := (hR 4 _ rfl).1
  have c5 := (hR 5 _ rfl).1
  simp [results, Try.results11, go_sem, ht', c0, c1, c2, c3, c4, c5]
set_option maxRecDepth 100000 in
set_option maxHeartbeats 16000000 in
theorem theirs_ch {ok : Nat → Prop} {w : World} {d : Nat} {c : ChD d} {v : Value} (h : RdD ok w d c v) (hok : ∀ t ∈ c.2.2.2, SmS d t) (hl1 : totS d c.2.2.2 ≤ 400) (hl2 : c.2.2.1.length ≤ 3001) :
    Calls Try.prog 11 #[v] w fun e w' => ∃ u, e = .returned u ∧ RdC (fun b => w.heap.size ≤ b) w' d (thC d c) u ∧ Below w.heap.size w w' := by
  obtain ⟨iv, hiv, hiv0, hiv1, hiv2⟩ := info_parts Try.infoVar
  obtain ⟨sv, ss, rfl, hv, hs⟩ := h
  obtain ⟨a, cap, rfl, hlc, hcm⟩ := hv.form
  obtain ⟨p4, p6, rfl, _⟩ := hs.form
  unfold maxLen at hcm
  have HV := mkHid hv
  have hcall := fun w1 (b1 : Below w.heap.size w w1) => ts_any d ok w1 c.2.2.2 _ (hs.stay (kp_stD d) (fun k hk hl => ⟨hk, b1.block k hl⟩)) hok hl1
  obtain ⟨nv, hnv⟩ : ∃ nv, sD c.1.1 = .string nv := ⟨_, rfl⟩
  obtain ⟨n, hn⟩ : ∃ n, c.2.2.1.length = n := ⟨_, rfl⟩
  obtain ⟨i, hi⟩ : ∃ n, c.2.2.2.length = n := ⟨_, rfl⟩
  obtain ⟨vn, hvn⟩ : ∃ x, c.2.1 = x := ⟨_, rfl⟩
  obtain ⟨ln, hln⟩ : ∃ x, c.1.2.1 = x := ⟨_, rfl⟩
  obtain ⟨co, hco⟩ : ∃ x, c.1.2.2 = x := ⟨_, rfl⟩
  rw [hnv, hvn, hln, hco, hi, hn]
  rw [hi] at hcall
  rw [hn] at hlc hl2
  have HN : Hid (c.2.2.1.length = n) := hn
  have HR : Hid (∀ (ok' : Nat → Prop) (w' : World) (a' : Option Addr) (c' : Nat) (b' : Option Addr) (e' : Nat), RdK ok' w' 4 (rVar ok' w') c.2.2.1 (.slice a' n c') → RdK ok' w' 11 (rSt d ok' w') (c.2.2.2.map (thS d)) (.slice b' i e') → RdC ok' w' d (thC d c) (.agg #[.string nv, .int .i64 vn, .int .i64 ln, .int .i64 co, .slice a' n c', .slice b' i e'])) := by
    intro ok' w' a' c' b' e' h1 h2
    refine ⟨_, _, ?_, h1, h2⟩
    show _ = Value.agg #[sV c.1.1, .int .i64 c.2.1, .int .i64 c.1.2.1, .int .i64 c.1.2.2, _, _]
    rw [show sV c.1.1 = sD c.1.1 from rfl, hnv, hvn, hln, hco]
  have hcall2 : ∀ w1, Below w.heap.size w w1 → Calls Try.prog 33 #[.slice p4 i p6] w1 fun e w' => ∃ iq ic, e = .returned (.slice iq i ic) ∧ RdK (fun b => w1.heap.size ≤ b) w' 11 (rSt d (fun b => w1.heap.size ≤ b) w') (c.2.2.2.map (thS d)) (.slice iq i ic) ∧ Below w1.heap.size w1 w' := fun w1 b1 => (hcall w1 b1).mono (fun e w' hh => by
    obtain ⟨u, h1, h2, h3⟩ := hh
    obtain ⟨iq, ic, rfl, _⟩ := h2.form
    rw [List.length_map, hi] at h1 h2
    exact ⟨iq, ic, h1, h2, h3⟩)
  clear hcall hv hs hok hl1 hn hi hnv hvn hln hco
  have hal : Below w.heap.size w ((w.alloc (.cells #[.string nv, .int .i64 vn, .int .i64 ln, .int .i64 co, .slice a n cap, .slice p4 i p6] 27)).alloc (.cells #[.string ⟨#[]⟩, .int .i64 0, .int .i64 0, .int .i64 0, .slice none 0 0, .slice none 0 0] 37)) := ((Below.refl w.heap.size w).alloc (Nat.le_refl _) _).alloc (by simp) _
  have hX : Bn ((w.alloc (.cells #[.string nv, .int .i64 vn, .int .i64 ln, .int .i64 co, .slice a n cap, .slice p4 i p6] 27)).alloc (.cells #[.string ⟨#[]⟩, .int .i64 0, .int .i64 0, .int .i64 0, .slice none 0 0, .slice none 0 0] 37)) w.heap.size [.string nv, .int .i64 vn, .int .i64 ln, .int .i64 co, .slice a n cap, .slice p4 i p6] := (Bn.new w [.string nv, .int .i64 vn, .int .i64 ln, .int .i64 co, .slice a n cap, .slice p4 i p6] 27 _ rfl).on ((Below.refl _ _).alloc (Nat.le_refl _) _)
  have hR : Bn ((w.alloc (.cells #[.string nv, .int .i64 vn, .int .i64 ln, .int .i64 co, .slice a n cap, .slice p4 i p6] 27)).alloc (.cells #[.string ⟨#[]⟩, .int .i64 0, .int .i64 0, .int .i64 0, .slice none 0 0, .slice none 0 0] 37)) (w.heap.size + 1) [.string ⟨#[]⟩, .int .i64 0, .int .i64 0, .int .i64 0, .slice none 0 0, .slice none 0 0] := Bn.new (w.alloc (.cells #[.string nv, .int .i64 vn, .int .i64 ln, .int .i64 co, .slice a n cap, .slice p4 i p6] 27)) [.string ⟨#[]⟩, .int .i64 0, .int .i64 0, .int .i64 0, .slice none 0 0, .slice none 0 0] 37 _ (by simp)
  have hsz : ((w.alloc (.cells #[.string nv, .int .i64 vn, .int .i64 ln, .int .i64 co, .slice a n cap, .slice p4 i p6] 27)).alloc (.cells #[.string ⟨#[]⟩, .int .i64 0, .int .i64 0, .int .i64 0, .slice none 0 0, .slice none 0 0] 37)).heap.size = w.heap.size + 2 := by simp
  go_enter Try.func11, Try.ntmps11
  go_upto_region 1 with fail
  generalize ((w.alloc (.cells #[.string nv, .int .i64 vn, .int .i64 ln, .int .i64 co, .slice a n cap, .slice p4 i p6] 27)).alloc (.cells #[.string ⟨#[]⟩, .int .i64 0, .int .i64 0, .int .i64 0, .slice none 0 0, .slice none 0 0] 37)) = wx at *
  obtain ⟨S, hS⟩ : ∃ S, w.heap.size = S := ⟨_, rfl⟩
  rw [hS] at hX hR hsz ⊢
  have HS : Hid (w.heap.size = S) := hS
  have hbx : Below w.heap.size w wx := hal
  have hSw : w.heap.size ≤ S := by omega
  clear hS hal
  go_cut [3] (fun u3 wc => ∃ Q iq ic, u3 = .pointer (some ⟨Q, 0, none⟩) ∧ S + 2 ≤ Q ∧ Bn wc Q [.string nv, .int .i64 vn, .int .i64 ln, .int .i64 co, .slice none 0 0, .slice iq i ic] ∧ RdK (fun k => S + 2 ≤ k ∧ k ≠ Q) wc 11 (rSt d (fun k => S + 2 ≤ k ∧ k ≠ Q) wc) (c.2.2.2.map (thS d)) (.slice iq i ic) ∧ Below (S + 2) wx wc)
  case first =>
    have hbz : Below w.heap.size w (wx.alloc (.cells #[.string ⟨#[]⟩, .int .i64 0, .int .i64 0, .int .i64 0, .slice none 0 0, .slice none 0 0] 37)) := hbx.alloc hbx.size _
    have hZ0 : Bn (wx.alloc (.cells #[.string ⟨#[]⟩, .int .i64 0, .int .i64 0, .int .i64 0, .slice none 0 0, .slice none 0 0] 37)) (S + 2) [.string ⟨#[]⟩, .int .i64 0, .int .i64 0, .int .i64 0, .slice none 0 0, .slice none 0 0] := Bn.new wx [.string ⟨#[]⟩, .int .i64 0, .int .i64 0, .int .i64 0, .slice none 0 0, .slice none 0 0] 37 _ hsz.symm
    have hzx : (wx.alloc (.cells #[.string ⟨#[]⟩, .int .i64 0, .int .i64 0, .int .i64 0, .slice none 0 0, .slice none 0 0] 37)).heap.size = S + 3 := by simp; omega
    have n1 : S ≠ S + 2 := by omega
    obtain ⟨X0, _⟩ := hX 0 _ rfl
    obtain ⟨X1, _⟩ := hX 1 _ rfl
    obtain ⟨X2, _⟩ := hX 2 _ rfl
    obtain ⟨X3, _⟩ := hX 3 _ rfl
    obtain ⟨X5, _⟩ := hX 5 _ rfl
    clear HV HR hR
    go_region_held_law (fun w' => w'.cell? ⟨S, 0, none⟩ = some (.string nv) ∧ w'.cell? ⟨S, 1, none⟩ = some (.int .i64 vn) ∧ w'.cell? ⟨S, 2, none⟩ = some (.int .i64 ln) ∧ w'.cell? ⟨S, 3, none⟩ = some (.int .i64 co) ∧ w'.cell? ⟨S, 5, none⟩ = some (.slice p4 i p6))
      (((refine ⟨?_, ?_, ?_, ?_, ?_⟩ <;> (repeat (first | (with_reducible exact X0) | (with_reducible exact X1) | (with_reducible exact X2) | (with_reducible exact X3) | (with_reducible exact X5) | (with_reducible exact Y0) | (with_reducible exact Y1) | (with_reducible exact Y2) | (with_reducible exact Y3) | (with_reducible exact Y5) | (with_reducible refine cell_al ?_) | (with_reducible refine cell_dr ?_) | (with_reducible refine cell_far4 (ne_pt n1) ?_) | (with_reducible refine cell_far4 (ne_pt n2) ?_))) <;> done)))
      (first
        | (go_at_call 33; (with_reducible refine (hcall2 _ hbx.drew).mono ?_); rintro e w1 ⟨iq, ic, rfl, hr1, b1⟩; have bw : Below wx.heap.size wx w1 := ((Below.refl _ wx).drew).trans b1; have n2 : S ≠ w1.heap.size := (by have := bw.size; omega); have kc : ∀ p u, wx.cell? p = some u → w1.cell? p = some u := fun p u hp => (by rw [bw.cell (World.block_lt_of_cell? wx _ hp)]; exact hp); have Y0 := kc _ _ X0; have Y1 := kc _ _ X1; have Y2 := kc _ _ X2; have Y3 := kc _ _ X3; have Y5 := kc _ _ X5)
        | (go_at_call 33; (with_reducible refine (hcall2 _ hbz.drew).mono ?_); rintro e w1 ⟨iq, ic, rfl, hr1, b1⟩; have bz : Below (wx.alloc (.cells #[.string ⟨#[]⟩, .int .i64 0, .int .i64 0, .int .i64 0, .slice none 0 0, .slice none 0 0] 37)).heap.size (wx.alloc (.cells #[.string ⟨#[]⟩, .int .i64 0, .int .i64 0, .int .i64 0, .slice none 0 0, .slice none 0 0] 37)) w1 := ((Below.refl _ (wx.alloc (.cells #[.string ⟨#[]⟩, .int .i64 0, .int .i64 0, .int .i64 0, .slice none 0 0, .slice none 0 0] 37))).drew).trans b1; have bw : Below wx.heap.size wx w1 := ((Below.refl wx.heap.size wx).alloc (Nat.le_refl _) (.cells #[.string ⟨#[]⟩, .int .i64 0, .int .i64 0, .int .i64 0, .slice none 0 0, .slice none 0 0] 37)).trans (bz.mono (by rw [hsz, hzx]; omega)); have kc : ∀ p u, wx.cell? p = some u → w1.cell? p = some u := fun p u hp => (by rw [bw.cell (World.block_lt_of_cell? wx _ hp)]; exact hp); have Y0 := kc _ _ X0; have Y1 := kc _ _ X1; have Y2 := kc _ _ X2; have Y3 := kc _ _ X3; have Y5 := kc _ _ X5; have hZ := hZ0.on bz; obtain ⟨z0, f0⟩ := hZ 0 _ rfl; obtain ⟨z1, f1⟩ := hZ 1 _ rfl; obtain ⟨z2, f2⟩ := hZ 2 _ rfl; obtain ⟨z3, f3⟩ := hZ 3 _ rfl; obtain ⟨z4, f4⟩ := hZ 4 _ rfl; obtain ⟨z5, f5⟩ := hZ 5 _ rfl)
        | fail)
    · have bw2 : Below (S + 2) wx w1 := by rw [← hsz]; exact bw
      have hs1 : S + 2 ≤ w1.heap.size := by have := bw.size; omega
      have hr2 := hr1.stay (kp_st d) (ok' := fun k => S + 2 ≤ k ∧ k ≠ w1.heap.size) (w' := w1.alloc (.cells #[.string nv, .int .i64 vn, .int .i64 ln, .int .i64 co, .slice none 0 0, .slice iq i ic] 37)) (fun k hk hl => ⟨⟨by have hk' : wx.heap.size ≤ k := hk; omega, by omega⟩, ((Below.refl w1.heap.size w1).alloc (Nat.le_refl _) _).block k hl⟩)
      go_wp2
      go_meet
      case rel => exact ⟨w1.heap.size, iq, ic, rfl, hs1, Bn.new w1 [.string nv, .int .i64 vn, .int .i64 ln, .int .i64 co, .slice none 0 0, .slice iq i ic] 37 _ rfl, hr2, bw2.alloc hs1 _⟩
    · have bw2 : Below (S + 2) wx w1 := by rw [← hsz]; exact bw
      have hQ2 := ((((((hZ.set (i := 0) (by simp) (.string nv)).set (i := 1) (by simp) (.int .i64 vn)).set (i := 2) (by simp) (.int .i64 ln)).set (i := 3) (by simp) (.int .i64 co)).set (i := 4) (by simp) (.slice none 0 0)).set (i := 5) (by simp) (.slice iq i ic))
      have hb2 := putL_below [.string nv, .int .i64 vn, .int .i64 ln, .int .i64 co, .slice none 0 0, .slice iq i ic] w1 (S + 2) 0 bw2 (Nat.le_refl _)
      have hr2 := hr1.stay (kp_st d) (ok' := fun k => S + 2 ≤ k ∧ k ≠ S + 2) (w' := putL w1 (S + 2) 0 [.string nv, .int .i64 vn, .int .i64 ln, .int .i64 co, .slice none 0 0, .slice iq i ic]) (fun k hk hl => ⟨by have hk' : (wx.alloc (.cells #[.string ⟨#[]⟩, .int .i64 0, .int .i64 0, .int .i64 0, .slice none 0 0, .slice none 0 0] 37)).heap.size ≤ k := hk; omega, putL_heap _ _ _ _ _ (by have hk' : (wx.alloc (.cells #[.string ⟨#[]⟩, .int .i64 0, .int .i64 0, .int .i64 0, .slice none 0 0, .slice none 0 0] 37)).heap.size ≤ k := hk; omega)⟩)
      go_wp2
      go_meet
      case rel => exact ⟨S + 2, iq, ic, rfl, Nat.le_refl _, hQ2, hr2, hb2⟩
  case rest =>
    obtain ⟨Q, iq, ic, rfl, hQ, hQb, hQr, hbq⟩ := hcut
    have hXc := hX.blk (hbq.block S (by omega))
    have hRc := hR.blk (hbq.block (S + 1) (by omega))
    have hbw := hbx.trans (hbq.mono (by omega))
    obtain ⟨wk, hwk⟩ : ∃ x, x = wc := ⟨_, rfl⟩
    subst hwk
    have hql : Q < wk.heap.size := hQb.lt
    have hws := hXc.lt
    have hwr := hRc.lt
    obtain ⟨x4, _⟩ := hXc 4 _ rfl
    go_wp2
    go_loopw [18] (fun ix wr => ∃ (j : Nat) (sl2 : Value), j ≤ n ∧ ix = .int .i64 (j : Int) ∧ Bn wr Q [.string nv, .int .i64 vn, .int .i64 ln, .int .i64 co, sl2, .slice iq i ic] ∧ OwnB wr wk.heap.size (fun _ => False) 84 4 rVar sl2 (c.2.2.1.take j) ∧ Fx Q wk wr) (fun ix _ => n - (RowKit.intOf ix).toNat)
    case atStart => exact ⟨0, _, Nat.zero_le _, rfl, hQb, ownB_nil _ _ _ _ _ _, Fx.refl _ _⟩
    case round =>
      clear x4
      obtain ⟨j, sl2, hj, rfl, hQB, hRow, hF⟩ := hrel
      obtain ⟨acj, hacj⟩ : ∃ acj, c.2.2.1.take j = acj := ⟨_, rfl⟩
      have hlj : acj.length = j := by rw [← hacj, List.length_take, HN.out]; omega
      rw [hacj] at hRow
      have HACJ : Hid (c.2.2.1.take j = acj) := hacj
      clear hacj
      obtain ⟨ra, rc, rfl, hrl, hrm⟩ := hRow.form
      rw [hlj] at hRow hQB hrl
      have hXr := hXc.fx hF (by omega)
      have hFs := hF.size
      have hbr : Below w.heap.size w wr := hF.bel hbw (by omega) (Nat.le_refl _)
      by_cases hjl : j < n
      · have hjt : j < c.2.2.1.length := by rw [HN.out]; exact hjl
        obtain ⟨b, off, rfl, hbl, hc⟩ := varQ_at (show RdK ok w 4 (rVar ok w) c.2.2.1 _ from HV.out) j hjt
        obtain ⟨q, hq⟩ : ∃ q, c.2.2.1[j] = q := ⟨_, rfl⟩
        rw [hq] at hc
        obtain ⟨sn, sv, sl, sc, hsv⟩ : ∃ sn sv sl sc, varV q = [.string sn, .int .i64 sv, .int .i64 sl, .int .i64 sc] := ⟨_, _, _, _, rfl⟩
        rw [hsv] at hc
        have hp : rVar (fun b => wr.heap.size ≤ b) wr q [.string sn, .int .i64 sv, .int .i64 sl, .int .i64 sc] := hsv.symm
        have HQ : Hid (c.2.2.1[j] = q) := hq
        clear hsv hq
        have C0 := (hbr.cell (p := ⟨b, off + j * 4 + 0, none⟩) hbl).trans (hc 0 _ rfl)
        have C1 := (hbr.cell (p := ⟨b, off + j * 4 + 1, none⟩) hbl).trans (hc 1 _ rfl)
        have C2 := (hbr.cell (p := ⟨b, off + j * 4 + 2, none⟩) hbl).trans (hc 2 _ rfl)
        have C3 := (hbr.cell (p := ⟨b, off + j * 4 + 3, none⟩) hbl).trans (hc 3 _ rfl)
        rw [Nat.add_zero] at C0
        clear hc
        obtain ⟨P4, _⟩ := hXr 4 _ rfl
        obtain ⟨k4, z4⟩ := hQB 4 _ rfl
        have i3 : (j : Int) < (n : Int) := by omega
        have i4 : (0 : Int) ≤ (j : Int) := by omega
        have hali := (Below.refl wr.heap.size wr).alloc (Nat.le_refl _) (.cells #[.string sn, .int .i64 sv, .int .i64 sl, .int .i64 sc] 84)
        have hQa := hQB.on hali
        obtain ⟨m4, o4⟩ := hQa 4 _ rfl
        go_upto_region 5 with fail
        go_region_law (first
          | (refine step_pushB wr.drew rfl _ _ 34 rfl wk.heap.size (fun _ => False) 84 iv (.agg #[.string ⟨#[]⟩, .int .i64 0, .int .i64 0, .int .i64 0]) 4 40 Try.underlying34 hiv hiv0 hiv1 hiv2 rfl kp_var (.slice ra j rc) acj q [.string sn, .int .i64 sv, .int .i64 sl, .int .i64 sc] wr.heap.size rfl rfl rfl (by simp [Value.oneCell']) hRow hp hFs (fun x hx => (hRow.lt x hx).2) (fun b hb => hb.elim) (by omega) (by unfold maxLen; omega) hFs ?_; intro vb wb hOb2 hgb2 hbb hat; have hBb := hQB.blk (hbb.block _ hql); obtain ⟨m5, n5⟩ := hBb 4 _ rfl; obtain ⟨vba, vbc, hvb, hvbl, hvbm⟩ := hOb2.form; rw [List.length_append, List.length_singleton, hlj] at hvb; subst hvb)
          | fail)
        all_goals (
          have hBc := hBb.set (i := 4) (by simp) (.slice vba (j + 1) vbc)
          have hRc2 := hOb2.set kp_var (X := Q) (i := 4) hql (.slice vba (j + 1) vbc)
          have hFc := ((hF.drew).andD hbb (Nat.le_refl _)).setX (i := 4) (.slice vba (j + 1) vbc)
          have hac2 : c.2.2.1.take (j + 1) = acj ++ [q] := by rw [List.take_succ_eq_append_getElem hjt, HACJ.out, HQ.out]
          clear hQa m4 o4 hali hgb2 hbb hat hBb m5 n5 hOb2 k4 z4 P4 C0 C1 C2 C3
          go_wp2
          go_roundw
          case rel => exact ⟨j + 1, _, hjl, by go_num, hBc, by rw [hac2]; exact hRc2, hFc⟩
          case measure => simp [RowKit.intOf]; omega)
      · have i3 : ¬ (j : Int) < (n : Int) := by omega
        have hjn : j = n := by omega
        subst hjn
        have hfull : acj = c.2.2.1 := by rw [← HACJ.out]; exact List.take_of_length_le (by rw [HN.out]; omega)
        have hRr := hRc.fx hF (by omega)
        have hS2 := HS.out
        have hvars := (hRow.rd kp_var).stay kp_var (ok' := fun b => S + 2 ≤ b) (w' := putL wr (S + 1) 0 [.string nv, .int .i64 vn, .int .i64 ln, .int .i64 co, .slice ra j rc, .slice iq i ic]) (fun b hb hl => ⟨by omega, putL_heap _ _ _ _ _ (by omega)⟩)
        rw [hfull] at hvars
        have hstates := hQr.stay (kp_st d) (ok' := fun b => S + 2 ≤ b) (w' := putL wr (S + 1) 0 [.string nv, .int .i64 vn, .int .i64 ln, .int .i64 co, .slice ra j rc, .slice iq i ic]) (fun b hb hl => ⟨hb.1, (putL_heap _ _ _ _ _ (by omega)).trans (hF.block b hl (fun e => hb.2 (Option.some.inj e)))⟩)
        have hfin := HR.out _ _ _ _ _ _ (hvars.stay kp_var (ok' := fun b => w.heap.size ≤ b) (fun b hb hl => ⟨by omega, rfl⟩)) (hstates.stay (kp_st d) (ok' := fun b => w.heap.size ≤ b) (fun b hb hl => ⟨by omega, rfl⟩))
        have hbz := putL_below [.string nv, .int .i64 vn, .int .i64 ln, .int .i64 co, .slice ra j rc, .slice iq i ic] wr (S + 1) 0 hbr (by omega)
        clear hS2
        obtain ⟨t0, _⟩ := hQB 0 _ rfl
        obtain ⟨r0, f0⟩ := hRr 0 _ rfl
        obtain ⟨t1, _⟩ := hQB 1 _ rfl
        obtain ⟨r1, f1⟩ := hRr 1 _ rfl
        obtain ⟨t2, _⟩ := hQB 2 _ rfl
        obtain ⟨r2, f2⟩ := hRr 2 _ rfl
        obtain ⟨t3, _⟩ := hQB 3 _ rfl
        obtain ⟨r3, f3⟩ := hRr 3 _ rfl
        obtain ⟨t4, _⟩ := hQB 4 _ rfl
        obtain ⟨r4, f4⟩ := hRr 4 _ rfl
        obtain ⟨t5, _⟩ := hQB 5 _ rfl
        obtain ⟨r5, f5⟩ := hRr 5 _ rfl
        have hRz := (((((hRr.set (i := 0) (by simp) (.string nv)).set (i := 1) (by simp) (.int .i64 vn)).set (i := 2) (by simp) (.int .i64 ln)).set (i := 3) (by simp) (.int .i64 co)).set (i := 4) (by simp) (.slice ra j rc)).set (i := 5) (by simp) (.slice iq i ic)
        go_wp2
        exact bodyPost_ret (their_res hRz rfl) rfl ⟨_, rfl, hfin, hbz⟩

theorem flM_len : ∀ (d k : Nat) (l : List (St d)), (flM d k (l.map (thS d))).length = totS d l
  | 0, k, l => by simp [flM, totS]
  | d + 1, k, [] => by simp [flM, totS]
  | d + 1, k, t :: r => by
    have h1 := flM_len d (k + 1) t.2
    have h2 := flM_len (d + 1) k r
    have e : flM (d + 1) k ((t :: r).map (thS (d + 1))) = (k, ⟨d + 1, thS (d + 1) t⟩) :: (flM d (k + 1) (t.2.map (thS d)) ++ flM (d + 1) k (r.map (thS (d + 1)))) := by
      simp only [flM, List.map_cons, List.flatMap_cons, List.cons_append]
      rfl
    rw [e, List.length_cons, List.length_append, h1, h2]
    show _ = ((t :: r).map (fun t : St (d + 1) => 1 + totS d t.2)).sum
    rw [List.map_cons, List.sum_cons]
    show totS d t.2 + totS (d + 1) r + 1 = 1 + totS d t.2 + totS (d + 1) r
    omega
theorem flM_names : ∀ (d k : Nat) (l : List (St d)), (∀ t ∈ l, SmS d t) → ∀ y ∈ flM d k (l.map (thS d)), (nd0 y).1.size ≤ 140737488351232
  | 0, k, l, _, y, hy => by simp [flM] at hy
  | d + 1, k, l, h, y, hy => by
    simp only [flM, List.mem_flatMap, List.mem_map, List.mem_cons] at hy
    obtain ⟨u, ⟨t, ht, rfl⟩, hy⟩ := hy
    have hs := h t ht
    rcases hy with rfl | hy
    · have h1 : t.1.1.1.length ≤ 20050 := hs.1.1
      show t.1.1.1.toArray.size ≤ _
      simp
      omega
    · exact flM_names d (k + 1) t.2 hs.2 y hy
theorem rdC_letT {ok : Nat → Prop} {w : World} {d : Nat} {c : ChG d} {v : Value} (h : RdC ok w d c v) : ∃ a b e f g h' i j k l, v = .agg #[.string a, .int .i64 b, .int .i64 e, .int .i64 f, .slice g h' i, .slice j k l] := by
  obtain ⟨sv, ss, rfl, h1, h2⟩ := h
  obtain ⟨a, cap, rfl, _⟩ := h1.form
  obtain ⟨a', cap', rfl, _⟩ := h2.form
  exact ⟨_, _, _, _, _, _, _, _, _, _, rfl⟩
theorem rdD_letT {ok : Nat → Prop} {w : World} {d : Nat} {c : ChD d} {v : Value} (h : RdD ok w d c v) : ∃ a b e f g h' i j k l, v = .agg #[.string a, .int .i64 b, .int .i64 e, .int .i64 f, .slice g h' i, .slice j k l] := by
  obtain ⟨sv, ss, rfl, h1, h2⟩ := h
  obtain ⟨a, cap, rfl, _⟩ := h1.form
  obtain ⟨a', cap', rfl, _⟩ := h2.form
  exact ⟨_, _, _, _, _, _, _, _, _, _, rfl⟩
/-- Theirs, then Nodes: the nodes of the chart. -/
theorem nodes_th {ok : Nat → Prop} {w : World} {d : Nat} {c : ChD d} {v : Value} (hsm : SmCh d c) (h : RdC ok w d (thC d c) v) (hok : ∀ b, ok b → b < w.heap.size) :
    Calls Try.prog 10 #[v] w fun e w' => ∃ ra rn rc l, e = .returned (.slice ra rn rc) ∧ RdNd (fun b => w.heap.size ≤ b) w' l (.slice ra rn rc) ∧ fmB l = true ∧ l.length = rn ∧ l = ndsM (flM d 0 (thC d c).2.2.2) ∧ Below w.heap.size w w' := by
  refine (tnodes_any h hok (by show (flM d 0 (c.2.2.2.map (thS d))).length ≤ _; rw [flM_len]; have := hsm.2.2.1; omega) (flM_names d 0 c.2.2.2 hsm.2.2.2)).mono ?_
  rintro e w' ⟨r, rfl, hr, hb⟩
  obtain ⟨a, cap, rfl, _⟩ := hr.form
  exact ⟨_, _, _, _, rfl, hr, ndsM_formed d _, rfl, rfl, hb⟩
/-- A move as it comes in: two bytes. -/
def rMv (ok : Nat → Prop) (w : World) (x : Int × Int) (cs : List Value) : Prop := cs = [.int .u8 x.1, .int .u8 x.2] ∧ 0 ≤ x.1 ∧ x.1 < 256 ∧ 0 ≤ x.2 ∧ x.2 < 256
abbrev RdMs (ok : Nat → Prop) (w : World) (l : List (Int × Int)) (v : Value) : Prop := RdK ok w 2 (rMv ok w) l v
theorem mv_at {ok : Nat → Prop} {w : World} {l : List (Int × Int)} {a : Option Addr} {n cap : Nat} (h : RdMs ok w l (.slice a n cap)) (j : Nat) (hj : j < l.length) : ∃ b off x y, a = some ⟨b, off, none⟩ ∧ b < w.heap.size ∧ w.cell? ⟨b, off + j * 2, none⟩ = some (.int .u8 x) ∧ w.cell? ⟨b, off + j * 2 + 1, none⟩ = some (.int .u8 y) ∧ 0 ≤ x ∧ x < 256 ∧ 0 ≤ y ∧ y < 256 := by
  obtain ⟨a1, cap1, he, h1, h2, h3⟩ := h
  simp only [Value.slice.injEq] at he
  obtain ⟨rfl, rfl, rfl⟩ := he
  obtain ⟨b, off, cs, rfl, _, hb, hl, ⟨hr, h4⟩, hc⟩ := h3 j hj
  exact ⟨b, off, _, _, rfl, hb, hc 0 _ (by rw [hr]; rfl), hc 1 _ (by rw [hr]; rfl), h4⟩
theorem start_sorted {l : List Nd} (hf : fmB l = true) (hn : 0 < l.length) : lgB l (numS (hasS (etB l (-1) 0)) l.length) = true := by
  obtain ⟨h1, h2⟩ := start_lg hf hn
  have h40 := fm_40 hf
  have e : numS (hasS (etB l (-1) 0)) l.length = numS (enS l (-1) 0) l.length := by
    unfold numS
    congr 1
    apply List.filter_congr
    intro k hk
    rw [List.mem_range] at hk
    unfold hasS
    rw [h1, numS_has, decide_eq_true (show k < 40 by omega)]
    rfl
  rw [e]
  exact lg_numS hf (Nat.le_refl _) (fun k h => en_lt h) h2
def fnd (ys : List Int) (t : Nat) (i : Nat) : Bool := (ys.take i).contains (t : Int)
theorem fnd_succ (ys : List Int) (t i : Nat) (x : Int) (hx : ys[i]? = some x) : fnd ys t (i + 1) = (fnd ys t i || (x == (t : Int))) := by
  unfold fnd
  have e : ys.take (i + 1) = ys.take i ++ [x] := by rw [List.take_add_one, hx]; rfl
  rw [e, List.contains_eq_any_beq, List.contains_eq_any_beq, List.any_append]
  congr 1
  simp only [List.any_cons, List.any_nil, Bool.or_false]
  exact Bool.beq_comm
set_option maxRecDepth 100000 in
set_option maxHeartbeats 16000000 in
theorem configStays_walk {w : World} {d : Nat} {c : ChD d} {v : Value} (hr : RdD (fun _ => True) w d c v) (hwf : WfC d c) {ms : List (Int × Int)} {u : Value} (hm : RdMs (fun _ => True) w ms u) :
    Calls Try.prog 6 #[v, u] w fun e w' => e = .returned (.bool true) ∧ Below w.heap.size w w' := by
  obtain ⟨g0, g1, g2, g3, g4, g5, g6, g7, g8, g9, rfl⟩ := rdD_letT hr
  obtain ⟨ma, mc, rfl, hmc, hmm⟩ := hm.form
  unfold maxLen at hmm
  have h1 := fun w1 => awake10_any w1
  have hal : Below w.heap.size w (w.alloc (.cells #[.string g0, .int .i64 g1, .int .i64 g2, .int .i64 g3, .slice g4 g5 g6, .slice g7 g8 g9] 27)) := (Below.refl w.heap.size w).alloc (Nat.le_refl _) _
  have hX : Bn (w.alloc (.cells #[.string g0, .int .i64 g1, .int .i64 g2, .int .i64 g3, .slice g4 g5 g6, .slice g7 g8 g9] 27)) w.heap.size [.string g0, .int .i64 g1, .int .i64 g2, .int .i64 g3, .slice g4 g5 g6, .slice g7 g8 g9] := Bn.new w [.string g0, .int .i64 g1, .int .i64 g2, .int .i64 g3, .slice g4 g5 g6, .slice g7 g8 g9] 27 _ rfl
  have h2 := fun w1 (b : Below w.heap.size w w1) => small_any (hr.keep (ok' := fun _ => True) (fun k hk hl => ⟨trivial, b.block k hl⟩)) hwf (w := w1)
  have HM := hidOf hm
  obtain ⟨mm, hmn⟩ : ∃ n, ms.length = n := ⟨_, rfl⟩
  rw [hmn] at hmc ⊢
  have HMN := hidOf hmn
  clear hm hmn
  go_enter Try.func6, Try.ntmps6
  go_upto_region 1 with fail
  generalize (w.alloc (.cells #[.string g0, .int .i64 g1, .int .i64 g2, .int .i64 g3, .slice g4 g5 g6, .slice g7 g8 g9] 27)) = wx at *
  go_cut [27] (fun u wc => ∃ q : Bool, u = .bool q ∧ (q = false → SmCh d c) ∧ Below w.heap.size w wc ∧ Bn wc w.heap.size [.string g0, .int .i64 g1, .int .i64 g2, .int .i64 g3, .slice g4 g5 g6, .slice g7 g8 g9])
  case first =>
    obtain ⟨x0, _⟩ := hX 0 _ rfl
    obtain ⟨x1, _⟩ := hX 1 _ rfl
    obtain ⟨x2, _⟩ := hX 2 _ rfl
    obtain ⟨x3, _⟩ := hX 3 _ rfl
    obtain ⟨x4, _⟩ := hX 4 _ rfl
    obtain ⟨x5, _⟩ := hX 5 _ rfl
    go_wp2_with (first
      | (go_at_call 20; refine (h1 _).mono ?_; rintro e w1 ⟨rfl, b1⟩; have x0 := (b1.cell (p := ⟨w.heap.size, 0, none⟩) hX.lt).trans x0; have x1 := (b1.cell (p := ⟨w.heap.size, 1, none⟩) hX.lt).trans x1; have x2 := (b1.cell (p := ⟨w.heap.size, 2, none⟩) hX.lt).trans x2; have x3 := (b1.cell (p := ⟨w.heap.size, 3, none⟩) hX.lt).trans x3; have x4 := (b1.cell (p := ⟨w.heap.size, 4, none⟩) hX.lt).trans x4; have x5 := (b1.cell (p := ⟨w.heap.size, 5, none⟩) hX.lt).trans x5)
      | (go_at_call 8; refine (h2 _ (hal.trans (b1.mono hal.size))).mono ?_; rintro e w2 ⟨bb, rfl, hsm, b2⟩; cases bb)
      | fail)
    all_goals (
      have hb1 := hal.trans (b1.mono hal.size)
      have hb2 := hb1.trans (b2.mono hb1.size)
      have hX2 := (hX.on b1).on b2
      clear x0 x1 x2 x3 x4 x5 h2
      go_wp2
      go_meet
      case rel => first | exact ⟨true, rfl, fun h => by simp at h, hb2, hX2⟩ | exact ⟨_, rfl, fun _ => hsm (by first | trivial | rfl), hb2, hX2⟩)
  case rest =>
  obtain ⟨q, rfl, hq, hb2, hX2⟩ := hcut
  clear hX hal h2
  cases q with
  | true =>
    go_wp2_with (first
      | (go_at_call 20; refine (h1 _).mono ?_; rintro e w3 ⟨rfl, b3⟩)
      | fail)
    go_ret
    exact ⟨rfl, hb2.trans (b3.mono hb2.size)⟩
  | false =>
    have hsm := hq rfl
    have h3 : ∀ w1, Below w.heap.size w w1 → Calls Try.prog 11 #[.agg #[.string g0, .int .i64 g1, .int .i64 g2, .int .i64 g3, .slice g4 g5 g6, .slice g7 g8 g9]] w1 fun e w' => ∃ e0 e1 e2 e3 e4 e5 e6 e7 e8 e9, e = .returned (.agg #[.string e0, .int .i64 e1, .int .i64 e2, .int .i64 e3, .slice e4 e5 e6, .slice e7 e8 e9]) ∧ RdC (fun b => w1.heap.size ≤ b ∧ b < w'.heap.size) w' d (thC d c) (.agg #[.string e0, .int .i64 e1, .int .i64 e2, .int .i64 e3, .slice e4 e5 e6, .slice e7 e8 e9]) ∧ Below w1.heap.size w1 w' := fun w1 b1 => (theirs_ch (hr.keep (ok' := fun _ => True) (fun k hk hl => ⟨trivial, b1.block k hl⟩)) hsm.2.2.2 hsm.2.2.1 (by have := hsm.2.1; omega)).mono (fun e w' hh => by
      obtain ⟨u, q1, q2, q3⟩ := hh
      obtain ⟨e0, e1, e2, e3, e4, e5, e6, e7, e8, e9, rfl⟩ := rdC_letT q2
      exact ⟨e0, e1, e2, e3, e4, e5, e6, e7, e8, e9, q1, q2.keep (fun k hk hl => ⟨⟨hk, hl⟩, rfl⟩), q3⟩)
    have h4 := fun (ok : Nat → Prop) w1 v (h : RdC ok w1 d (thC d c) v) (hok : ∀ b, ok b → b < w1.heap.size) => nodes_th hsm h hok
    obtain ⟨x0, _⟩ := hX2 0 _ rfl
    obtain ⟨x1, _⟩ := hX2 1 _ rfl
    obtain ⟨x2, _⟩ := hX2 2 _ rfl
    obtain ⟨x3, _⟩ := hX2 3 _ rfl
    obtain ⟨x4, _⟩ := hX2 4 _ rfl
    obtain ⟨x5, _⟩ := hX2 5 _ rfl
    go_upto_region 4 with (first
      | (go_at_call 11; refine (h3 _ hb2).mono ?_; rintro e w3 ⟨e0, e1, e2, e3, e4, e5, e6, e7, e8, e9, rfl, hr3, b3⟩; have hb3 := hb2.trans (b3.mono hb2.size))
      | (go_at_call 10; refine (h4 _ _ _ hr3 (fun b hb => hb.2)).mono ?_; rintro e w4 ⟨ra, n, rc, l, rfl, hr4, hf4, hn4, hl4, b4⟩)
      | fail)
    have hb4 := hb3.trans (b4.mono hb3.size)
    clear h1 h3 h4 x0 x1 x2 x3 x4 x5 hX2 hr3 b3 b4 hb3 hb2 hl4 hq hsm hr hwf
    by_cases h0 : n = 0
    · subst h0
      go_wp2
      go_ret
      exact ⟨rfl, hb4⟩
    · have i0 : ¬ ((n : Int) = 0) := by omega
      have hn40 : n ≤ 40 := by have := (fmB_fm hf4).1; omega
      have hss := start_sorted hf4 (by omega)
      have hst := start_any hr4
      have HL := hidOf (fun w1 xs u (ok : Nat → Prop) (b1 : Below w4.heap.size w4 w1) (hx : RdZs ok w1 xs u) => legal_any (hr4.on kp_nd b1) hx)
      rw [hn4] at hss
      go_upto_region 9 with (first
        | (go_at_call 26; refine hst.mono ?_; rintro e w5 ⟨sa, sn, sc, rfl, hz5, b5⟩; have hso := sorted_any hz5 n hn40)
        | (go_at_call 25; refine hso.mono ?_; rintro e w6 ⟨ta, tn, tc, rfl, hz6, b6⟩; have b56 := b5.trans (b6.mono b5.size); have hlg := HL.out _ _ _ _ b56 hz6; rw [hss] at hlg)
        | (go_at_call 27; refine hlg.mono ?_; rintro e w7 ⟨rfl, b7⟩)
        | fail)
      have b67 := b56.trans (b7.mono b56.size)
      have hz7 : RdZs (fun _ => True) w7 (numS (hasS (etB l (-1) 0)) n) (.slice ta tn tc) := (hz6.stay kp_int (fun k hk hl => ⟨trivial, rfl⟩)).on kp_int b7
      have HLG := hidOf hss
      generalize numS (hasS (etB l (-1) 0)) n = xs0 at *
      clear hss hst hlg hso hz5 hz6 b5 b6 b56 b7
      go_wp2
      go_loopw [6, 46] (fun t ix wr => ∃ (j : Nat) (xs : List Int), j ≤ mm ∧ ix = .int .i64 (j : Int) ∧ RdZs (fun _ => True) wr xs t ∧ Hid (lgB l xs = true) ∧ Below w4.heap.size w4 wr) (fun _ ix _ => mm - (RowKit.intOf ix).toNat)
      case atStart => exact ⟨0, xs0, Nat.zero_le _, rfl, hz7, HLG, b67⟩
      case round =>
        obtain ⟨j, xs, hj, rfl, hz, HG, hb⟩ := hrel
        obtain ⟨ya, yc, rfl, hyl, hym⟩ := hz.form
        unfold maxLen at hym
        clear HLG hz7
        by_cases hlt : j < mm
        · have i1 : (j : Int) < (mm : Int) := by omega
          have i2 : (0 : Int) ≤ (j : Int) := by omega
          have hW : Below w.heap.size w wr := hb4.trans (hb.mono hb4.size)
          obtain ⟨b, off, x, y, rfl, hbl, c0, c1, x0, x1, y0, y1⟩ := mv_at HM.out j (by rw [HMN.out]; exact hlt)
          replace c0 := (hW.cell (p := ⟨b, off + j * 2, none⟩) hbl).trans c0
          replace c1 := (hW.cell (p := ⟨b, off + j * 2 + 1, none⟩) hbl).trans c1
          obtain ⟨k, hk⟩ : ∃ k, xs.length = k := ⟨_, rfl⟩
          have hk0 : k ≠ 0 := by rw [← hk]; exact fun e => lg_some HG.out (List.eq_nil_of_length_eq_zero e)
          have k0 : ¬ ((k : Int) = 0) := by omega
          have k1 : 0 ≤ x % (k : Int) := Int.emod_nonneg x k0
          have k2 : x % (k : Int) < (k : Int) := Int.emod_lt_of_pos x (show (0 : Int) < k by omega)
          obtain ⟨p, hp, hpk⟩ : ∃ p : Nat, (x % (k : Int)).toNat = p ∧ p < k := ⟨_, rfl, by omega⟩
          obtain ⟨b2, off2, rfl, hbl2, c2⟩ := zs_at hz p (by rw [hk]; exact hpk)
          have hmem : xs[p]'(by rw [hk]; exact hpk) ∈ xs := List.getElem_mem _
          obtain ⟨f, hfe, hfl, _⟩ := lg_mem HG.out hmem
          rw [hfe] at c2 hmem
          have HZ := hidOf hz
          rw [hk] at hyl ⊢
          obtain ⟨t, ht, htn⟩ : ∃ t : Nat, y % (n : Int) = t ∧ t < n := ⟨(y % (n : Int)).toNat, by have := Int.emod_nonneg y i0; omega, by have := Int.emod_nonneg y i0; have := Int.emod_lt_of_pos y (show (0 : Int) < n by omega); omega⟩
          go_upto_region 12 with fail
          go_quiet (fail)
          have hb5 : Below w4.heap.size w4 (wr.drewN nq) := ⟨hb.os, hb.tape, hb.output, hb.size, hb.block⟩
          have hz5 : RdZs (fun _ => True) (wr.drewN nq) xs (.slice (some ⟨b2, off2, none⟩) k yc) := by rw [← hk]; exact HZ.out.stay kp_int (fun k hk hl => ⟨trivial, rfl⟩)
          obtain ⟨w5, hw5⟩ : ∃ w5, wr.drewN nq = w5 := ⟨_, rfl⟩
          rw [hw5] at hb5 hz5 ⊢
          rw [ht]
          have hme := meet_any (hr4.on kp_nd hb5) f t
          clear hw5 hz HZ c0 c1 c2 ht hp k0 k1 k2 y0 y1 x0 x1 hbl2
          have hm1 := (mt_in hf4 hfl (show t < l.length by omega)).1
          have HMV := hidOf (fun hh => move_lg HG.out hmem (show t < l.length by omega) hh)
          generalize mtB l f t = m at *
          go_upto_region 14 with (first | (go_at_call 18; refine hme.mono ?_; rintro e w6 ⟨rfl, b6⟩) | fail)
          have hb6 := hb5.trans (b6.mono hb5.size)
          have hz6 := hz5.on kp_int b6
          clear hme hz5 b6 hb5 hb
          go_cut [82] (fun u wc => ∃ q : Bool, u = .bool q ∧ (q = false → (0 ≤ m → nA l m.toNat = false)) ∧ wc = w6)
          case first =>
            rcases hm1 with rfl | ⟨q, rfl, hq⟩
            · go_wp2
              go_meet
              case rel => exact ⟨false, rfl, fun _ h => by omega, rfl⟩
            · obtain ⟨b3, off3, rfl, hbl3, c0, c1, c2, c3, c4, c5, c6⟩ := nd_at hr4 q hq
              replace c4 := (hb6.cell (p := ⟨b3, off3 + q * 7 + 4, none⟩) hbl3).trans c4
              clear c0 c1 c2 c3 c5 c6
              have hAA : (nAt l q).2.2.1 = nA l q := rfl
              rw [hAA] at c4
              have q1 : (q : Int) < (n : Int) := by omega
              have q2 : (0 : Int) ≤ (q : Int) := by omega
              have q3 : (q : Int) ≥ 0 := by omega
              have HQ : Hid (∀ v, nA l q = v → (v = false → 0 ≤ (q : Int) → nA l (q : Int).toNat = false)) := fun v h h2 _ => by rw [Int.toNat_natCast, h, h2]
              obtain ⟨xq, hxq⟩ : ∃ x, nA l q = x := ⟨_, rfl⟩
              rw [hxq] at c4
              have HQ2 := hidOf (HQ.out xq hxq)
              clear hAA hxq HQ
              go_wp2
              go_meet
              case rel => exact ⟨xq, rfl, HQ2.out, rfl⟩
          case rest =>
          obtain ⟨q, rfl, hq, rfl⟩ := hcut
          cases q with
          | true =>
            go_wp2
            go_roundw
            case rel => exact ⟨j + 1, xs, hlt, by go_num, hz6, HG, hb6⟩
            case measure => simp [RowKit.intOf]; omega
          | false =>
          obtain ⟨v1, v2, v3⟩ := HMV.out (hq rfl)
          clear HMV hq
          have hmo := move_any (hr4.on kp_nd hb6) hz6 f t
          generalize mvB l xs f t = mv at *
          obtain ⟨ls, es, ys⟩ := mv
          have V1 : Hid (lgB l ys = true) := v1
          have hes : es ≠ [] := v2
          have V3 : Hid ((t : Int) ∈ ys) := v3
          clear v1 v2 v3
          go_upto_region 18 with (first
            | (go_at_call 22; refine hmo.mono ?_; rintro e w8 ⟨a1, n1, c1, a2, n2, c2, a3, n3, c3, rfl, z1, z2, z3, b8⟩; have hb8 := hb6.trans (b8.mono hb6.size); have hlg := HL.out _ _ _ _ hb8 z3; have hn2 : ¬ ((n2 : Int) = 0) := (by
                obtain ⟨_, _, he, _, _⟩ := z2.form
                simp only [Value.slice.injEq] at he
                have := List.length_pos_iff.2 hes
                omega))
            | (go_at_call 27; refine hlg.mono ?_; rw [V1.out]; rintro e w9 ⟨rfl, b9⟩)
            | fail)
          have hb9 := hb8.trans (b9.mono hb8.size)
          have hz9 : RdZs (fun _ => True) w9 ys (.slice a3 n3 c3) := RdK.on kp_int (z3.stay kp_int (fun k hk hl => ⟨trivial, rfl⟩)) b9
          obtain ⟨ya, yc', he, hyl', hym'⟩ := hz9.form
          simp only [Value.slice.injEq] at he
          obtain ⟨rfl, hn3, rfl⟩ := he
          unfold maxLen at hym'
          rw [← hn3] at hyl'
          have HN3 := hidOf hn3
          have HZ9 := hidOf hz9
          have HF0 : Hid (fnd ys t 0 = false) := by show _ = _; unfold fnd; rw [List.take_zero]; rfl
          have HFS := hidOf (fun (i : Nat) x (hx : ys[i]? = some x) => fnd_succ ys t i x hx)
          have HFE : Hid (fnd ys t n3 = true) := by
            show _ = _
            unfold fnd
            rw [List.take_of_length_le (by omega)]
            simpa using V3.out
          clear hn3 hz9 V3 hmo hlg z1 z2 z3 b8 b9 hb8 hb6 hz6 hes hm1
          go_wp2
          go_loopw [14, 103] (fun fo kx wr' => wr' = w9 ∧ ∃ (i : Nat), i ≤ n3 ∧ kx = .int .i64 (i : Int) ∧ fo = .bool (fnd ys t i)) (fun _ kx _ => n3 - (RowKit.intOf kx).toNat)
          case atStart => exact ⟨rfl, 0, Nat.zero_le _, rfl, by rw [HF0.out]⟩
          case round =>
            obtain ⟨rfl, i, hi, rfl, rfl⟩ := hrel
            by_cases hin : i < n3
            · have n1' : (i : Int) < (n3 : Int) := by omega
              have n2' : (0 : Int) ≤ (i : Int) := by omega
              have hiy : i < ys.length := by rw [← HN3.out]; exact hin
              obtain ⟨b5, off5, rfl, hbl5, c5⟩ := zs_at HZ9.out i hiy
              have hsx := HFS.out i _ (List.getElem?_eq_getElem hiy)
              generalize ys[i] = z at *
              generalize hfb : fnd ys t i = fb at *
              have HSX := hidOf hsx
              clear hsx hfb
              cases fb with
              | true =>
                go_wp2
                go_roundw
                case rel => exact ⟨by trivial, i + 1, hin, by go_num, by rw [HSX.out]; rfl⟩
                case measure => simp [RowKit.intOf]; omega
              | false =>
                go_wp2
                go_roundw
                case rel => exact ⟨by trivial, i + 1, hin, by go_num, by rw [HSX.out]; rfl⟩
                case measure => simp [RowKit.intOf]; omega
            · have n1' : ¬ (i : Int) < (n3 : Int) := by omega
              obtain rfl : i = n3 := by omega
              rw [HFE.out]
              go_wp2
              go_roundw
              case rel => exact ⟨j + 1, ys, hlt, by go_num, HZ9.out, V1, hb9⟩
              case measure => simp [RowKit.intOf]; omega
        · have i1 : ¬ (j : Int) < (mm : Int) := by omega
          go_wp2
          go_ret
          exact ⟨rfl, hb4.trans (hb.mono hb4.size)⟩
end Go.Proofs.Ytbccdkhbplmknaa

/- An argument that is a slice of bytes, opened: the bytes that it reads as, each from 0 to 255, and their number within the form's reach. -/
namespace Go.Proofs.Ytbccdkhbplmknaa
open Go.ChangeShapes Go.WideShapes Go.ChangeAt Go.RowKit

end Go.Proofs.Ytbccdkhbplmknaa

/- Arguments that are rows of nodes, opened. -/
namespace Go.Proofs.Ytbccdkhbplmknaa
open Go.ChangeShapes Go.WideShapes Go.ChangeAt Go.RowKit
set_option linter.unusedSimpArgs false
set_option linter.unusedVariables false
theorem spotN {w : World} {a : Addr} {v : Value} (h : w.cell? (a.add 0) = some v) : a = ⟨a.block, a.off, none⟩ := by
  rw [show a.add 0 = a from by simp [Addr.add]] at h
  unfold World.cell? at h
  split at h
  · obtain ⟨b, o, s⟩ := a
    cases s with
    | none => rfl
    | some x => simp at h
  · cases h
set_option maxRecDepth 100000 in
theorem open_mv {H : Type} {enc : TypeId × Value → H} {W : World} {fuel : Nat} {cs : List Value} {x : DataW H × List MemPlace}
    (h : DataW.trod enc Try.prog W 0 (fun _ => true) true fuel 70 cs = some x) : ∃ y : Int × Int, cs = [.int .u8 y.1, .int .u8 y.2] ∧ 0 ≤ y.1 ∧ y.1 < 256 ∧ 0 ≤ y.2 ∧ y.2 < 256 := by
  obtain ⟨xs, m, _, ex, hlen, hl, hel⟩ := DataW.trod_array Try.underlying70 h
  have hc : Try.prog.cellsOf 70 = 2 := by kernel_rfl
  have c5 : Try.prog.cellsOf 5 = 1 := by kernel_rfl
  rw [hc] at hlen
  have f0 := hel 0 (by omega)
  have f1 := hel 1 (by omega)
  rw [c5] at f0 f1
  match cs, hlen, xs, hl with
  | [a, b], _, [y0, y1], _ =>
    simp at f0 f1
    obtain ⟨n0, e0, rfl, g0⟩ := DataW.trod_int Try.underlying5 f0
    obtain ⟨n1, e1, rfl, g1⟩ := DataW.trod_int Try.underlying5 f1
    simp only [List.cons.injEq, and_true] at e0 e1
    subst e0 e1
    simp [Lit.wf, IntKind.min, IntKind.max, IntKind.bits, IntKind.signed] at g0 g1
    exact ⟨(n0, n1), rfl, by omega, by omega, by omega, by omega⟩
theorem open_moves {H : Type} {enc : TypeId × Value → H} {W : World} {a : Option Addr} {len cap : Nat} {d : DataW H} {p : List MemPlace}
    (h : DataW.Trod enc Try.prog W 0 (fun _ => true) true 66 (.slice a len cap) d p) : ∃ l, RdMs (fun _ => True) W l (.slice a len cap) := by
  obtain ⟨fuel, hf⟩ := h
  have hc : Try.prog.cellsOf 70 = 2 := by kernel_rfl
  rcases Go.Deep.open_slice Try.underlying66 hf with ⟨hcs, hx⟩ | ⟨x, l, c, m, n, D, Pl, hcs, _, hl, hm, hmc, hx, hel⟩
  · simp [Value.cells] at hcs
    obtain ⟨rfl, rfl, rfl⟩ := hcs
    exact ⟨[], rdK_none _ _ _ _⟩
  · simp [Value.cells] at hcs
    obtain ⟨rfl, rfl, rfl⟩ := hcs
    have hmc' : m = cap := by simpa using hmc
    rw [hc] at hel
    have hall : ∀ i, i < len → ∃ y : Int × Int, W.cells? 0 (x.add (i * 2)) 2 = some [.int .u8 y.1, .int .u8 y.2] ∧ 0 ≤ y.1 ∧ y.1 < 256 ∧ 0 ≤ y.2 ∧ y.2 < 256 := by
      intro i hi
      obtain ⟨cs', h1, h2⟩ := hel i (by omega)
      obtain ⟨y, rfl, h3⟩ := open_mv h2
      exact ⟨y, h1, h3⟩
    obtain ⟨f, hfy⟩ := Go.Deep.choose_lt (α := Int × Int) hall
    refine ⟨(List.range len).map f, some x, cap, by simp, by simp; omega, hm, fun i hi => ?_⟩
    have hi' : i < len := by simpa using hi
    obtain ⟨_, _, h0⟩ := World.cells?_some (hfy 0 (by omega)).1
    obtain ⟨_, _, hcell⟩ := World.cells?_some (hfy i hi').1
    have hs : x = ⟨x.block, x.off, none⟩ := by
      have := h0 0 (by omega)
      rw [Nat.zero_mul, show (x.add 0).add 0 = x.add 0 from by simp [Addr.add]] at this
      exact spotN this
    have hbd := (hfy i hi').2
    generalize x.block = b at hs
    generalize x.off = off at hs
    subst hs
    have hg : ∀ j u, [Value.int .u8 (f i).1, Value.int .u8 (f i).2][j]? = some u → W.cell? ⟨b, off + i * 2 + j, none⟩ = some u := fun j u hj => by
      have hj2 : j < 2 := by
        have := (List.getElem?_eq_some_iff.1 hj).1
        simpa using this
      have := hcell j hj2
      rw [hj] at this
      rw [add_plain, add_plain] at this
      exact this
    simp only [List.getElem_map, List.getElem_range]
    exact ⟨b, off, [.int .u8 (f i).1, .int .u8 (f i).2], rfl, trivial, World.block_lt_of_cell? W _ (hg 0 _ rfl), rfl, ⟨rfl, hbd⟩, hg⟩
end Go.Proofs.Ytbccdkhbplmknaa
