import Derived.Test.YtccmmkhcacglhaaGreatDoorWa31
import Derived.Test.YtccmmkhcacglhaaGreatDoorWa27
import Derived.Test.YtccmmkhcacglhaaGreatDoorWa26
import Derived.Test.YtccmmkhcacglhaaGreatDoorWa25
import Derived.Test.YtccmmkhcacglhaaGreatDoorRows
import Derived.Lib.LaidU8
import Derived.Lib.LaidTab
import Derived.MakeChecks
import Derived.Test.YtccmmkhcacglhaaGreatDoorWa01
import Derived.ProofKit
import Derived.OpenShut
import Derived.ShutString
import Derived.ChangeOld
import Derived.SizedLaws
import Derived.Below

/- The document's Same: true where both read one chart. -/
namespace Go.Proofs.YtccmmkhcacglhaaGreatDoor
open Go.RowKit Go.Lib
set_option linter.unusedSimpArgs false
set_option linter.unusedVariables false
attribute [local go_sem ↓] Go.wp_at_zero Go.wp_at_succ

theorem vars_cells {ok : Nat → Prop} {w : World} {l : List (List UInt8 × Int × Pl)} {a : Option Addr} {n cap : Nat} (h : RdK ok w 4 (rVarD ok w) l (.slice a n cap)) (j : Nat) (hj : j < l.length) : ∃ b off, a = some ⟨b, off, none⟩ ∧ b < w.heap.size ∧ ∀ i u, (varD l[j])[i]? = some u → w.cell? ⟨b, off + j * 4 + i, none⟩ = some u := by
  obtain ⟨a1, cap1, he, h1, h2, h3⟩ := h
  simp only [Value.slice.injEq] at he
  obtain ⟨rfl, rfl, rfl⟩ := he
  obtain ⟨b, off, cs, ha, _, hb, hl, hr, hc⟩ := h3 j hj
  have hr : cs = varD l[j] := hr
  subst hr
  exact ⟨b, off, ha, hb, hc⟩
set_option maxRecDepth 100000 in
set_option maxHeartbeats 8000000 in
theorem dsame_any {ok ok' : Nat → Prop} {w : World} {d : Nat} {c : ChD d} {v v' : Value} (h : RdD ok w d c v) (h' : RdD ok' w d c v') :
    Calls Tryz.prog 12 #[v, v'] w fun e w' => e = .returned (.bool true) ∧ Below w.heap.size w w' := by
  obtain ⟨sv, ss, rfl, hv, hs⟩ := h
  obtain ⟨sv', ss', rfl, hv', hs'⟩ := h'
  obtain ⟨a, cap, rfl, hlc, hcm⟩ := hv.form
  obtain ⟨a', cap', rfl, hlc', hcm'⟩ := hv'.form
  obtain ⟨p4, p6, rfl, _⟩ := hs.form
  obtain ⟨q4, q6, rfl, _⟩ := hs'.form
  unfold maxLen at hcm hcm'
  have HV : Hid (RdK ok w 4 (rVarD ok w) c.2.2.1 (.slice a c.2.2.1.length cap)) := hv
  have HV' : Hid (RdK ok' w 4 (rVarD ok' w) c.2.2.1 (.slice a' c.2.2.1.length cap')) := hv'
  have hst := fun w1 (b : Below w.heap.size w w1) => ss_any d ok ok' w1 c.2.2.2 _ _ (hs.stay (kp_stD d) (fun k hk hl => ⟨hk, b.block k hl⟩)) (hs'.stay (kp_stD d) (fun k hk hl => ⟨hk, b.block k hl⟩))
  obtain ⟨nv, hnv⟩ : ∃ nv, sD c.1.1 = .string nv := ⟨_, rfl⟩
  rw [hnv]
  obtain ⟨n, hn⟩ : ∃ n, c.2.2.1.length = n := ⟨_, rfl⟩
  obtain ⟨i, hi⟩ : ∃ n, c.2.2.2.length = n := ⟨_, rfl⟩
  rw [hn] at hlc hlc' ⊢
  rw [hi] at hst ⊢
  have HN : Hid (c.2.2.1.length = n) := hn
  obtain ⟨vn, hvn⟩ : ∃ x, c.2.1 = x := ⟨_, rfl⟩
  obtain ⟨ln, hln⟩ : ∃ x, c.1.2.1 = x := ⟨_, rfl⟩
  obtain ⟨co, hco⟩ : ∃ x, c.1.2.2 = x := ⟨_, rfl⟩
  rw [hvn, hln, hco]
  clear hv hv' hs hs' hnv hn hi hvn hln hco
  have hb0 := ((Below.refl w.heap.size w).alloc (Nat.le_refl _) (.cells #[.string nv, .int .i64 vn, .int .i64 ln, .int .i64 co, .slice a n cap, .slice p4 i p6] 35)).alloc (by simp) (.cells #[.string nv, .int .i64 vn, .int .i64 ln, .int .i64 co, .slice a' n cap', .slice q4 i q6] 35)
  have hA0 : Bn ((w.alloc (.cells #[.string nv, .int .i64 vn, .int .i64 ln, .int .i64 co, .slice a n cap, .slice p4 i p6] 35)).alloc (.cells #[.string nv, .int .i64 vn, .int .i64 ln, .int .i64 co, .slice a' n cap', .slice q4 i q6] 35)) w.heap.size [.string nv, .int .i64 vn, .int .i64 ln, .int .i64 co, .slice a n cap, .slice p4 i p6] := (Bn.new w [.string nv, .int .i64 vn, .int .i64 ln, .int .i64 co, .slice a n cap, .slice p4 i p6] 35 _ rfl).on ((Below.refl _ _).alloc (Nat.le_refl _) _)
  have hB0 : Bn ((w.alloc (.cells #[.string nv, .int .i64 vn, .int .i64 ln, .int .i64 co, .slice a n cap, .slice p4 i p6] 35)).alloc (.cells #[.string nv, .int .i64 vn, .int .i64 ln, .int .i64 co, .slice a' n cap', .slice q4 i q6] 35)) (w.heap.size + 1) [.string nv, .int .i64 vn, .int .i64 ln, .int .i64 co, .slice a' n cap', .slice q4 i q6] := Bn.new (w.alloc (.cells #[.string nv, .int .i64 vn, .int .i64 ln, .int .i64 co, .slice a n cap, .slice p4 i p6] 35)) [.string nv, .int .i64 vn, .int .i64 ln, .int .i64 co, .slice a' n cap', .slice q4 i q6] 35 _ (by simp)
  have hcall := hst _ hb0
  clear hst
  go_enter Tryz.func12, Tryz.ntmps12
  go_upto_region 1 with fail
  generalize (w.alloc (.cells #[.string nv, .int .i64 vn, .int .i64 ln, .int .i64 co, .slice a n cap, .slice p4 i p6] 35)).alloc (.cells #[.string nv, .int .i64 vn, .int .i64 ln, .int .i64 co, .slice a' n cap', .slice q4 i q6] 35) = w0 at *
  obtain ⟨p0, _⟩ := hA0 0 _ rfl
  obtain ⟨q0, _⟩ := hB0 0 _ rfl
  obtain ⟨p1, _⟩ := hA0 1 _ rfl
  obtain ⟨q1, _⟩ := hB0 1 _ rfl
  obtain ⟨p2, _⟩ := hA0 2 _ rfl
  obtain ⟨q2, _⟩ := hB0 2 _ rfl
  obtain ⟨p3, _⟩ := hA0 3 _ rfl
  obtain ⟨q3, _⟩ := hB0 3 _ rfl
  obtain ⟨pp4, _⟩ := hA0 4 _ rfl
  obtain ⟨qq4, _⟩ := hB0 4 _ rfl
  obtain ⟨p5, _⟩ := hA0 5 _ rfl
  obtain ⟨q5, _⟩ := hB0 5 _ rfl
  go_wp2_with (first
    | (go_at_call 38; refine hcall.mono ?_; rintro r w1 ⟨rfl, b1⟩; obtain ⟨r4, _⟩ := (hA0.on b1) 4 _ rfl; obtain ⟨s4, _⟩ := (hB0.on b1) 4 _ rfl))
  have hA1 := hA0.on b1
  have hB1 := hB0.on b1
  have hb1 := hb0.trans (b1.mono hb0.size)
  clear hcall p0 q0 p1 q1 p2 q2 p3 q3 pp4 qq4 p5 q5 r4 s4 hA0 hB0 hb0 b1
  go_loopw [45] (fun ix wr => ∃ (j : Nat), j ≤ n ∧ ix = .int .i64 (j : Int) ∧ Bn wr w.heap.size [.string nv, .int .i64 vn, .int .i64 ln, .int .i64 co, .slice a n cap, .slice p4 i p6] ∧ Bn wr (w.heap.size + 1) [.string nv, .int .i64 vn, .int .i64 ln, .int .i64 co, .slice a' n cap', .slice q4 i q6] ∧ Below w.heap.size w wr) (fun ix _ => n - (RowKit.intOf ix).toNat)
  case atStart => exact ⟨0, Nat.zero_le _, rfl, hA1, hB1, hb1⟩
  case round =>
    clear hA1 hB1 hb1
    obtain ⟨j, hj, rfl, hA, hB, hb⟩ := hrel
    obtain ⟨y4, _⟩ := hA 4 _ rfl
    obtain ⟨z4, _⟩ := hB 4 _ rfl
    by_cases hlt : j < n
    · have hjl : j < c.2.2.1.length := by rw [HN.out]; exact hlt
      obtain ⟨b, off, rfl, hbl, hc⟩ := vars_cells HV.out j hjl
      obtain ⟨b', off', rfl, hbl', hc'⟩ := vars_cells HV'.out j hjl
      obtain ⟨sn, sv, sl, sc, hsv⟩ : ∃ sn sv sl sc, varD c.2.2.1[j] = [.string sn, .int .i64 sv, .int .i64 sl, .int .i64 sc] := ⟨_, _, _, _, rfl⟩
      rw [hsv] at hc hc'
      have C0 := (hb.cell (p := ⟨b, off + j * 4 + 0, none⟩) hbl).trans (hc 0 _ rfl)
      have C1 := (hb.cell (p := ⟨b, off + j * 4 + 1, none⟩) hbl).trans (hc 1 _ rfl)
      have C2 := (hb.cell (p := ⟨b, off + j * 4 + 2, none⟩) hbl).trans (hc 2 _ rfl)
      have C3 := (hb.cell (p := ⟨b, off + j * 4 + 3, none⟩) hbl).trans (hc 3 _ rfl)
      have D0 := (hb.cell (p := ⟨b', off' + j * 4 + 0, none⟩) hbl').trans (hc' 0 _ rfl)
      have D1 := (hb.cell (p := ⟨b', off' + j * 4 + 1, none⟩) hbl').trans (hc' 1 _ rfl)
      have D2 := (hb.cell (p := ⟨b', off' + j * 4 + 2, none⟩) hbl').trans (hc' 2 _ rfl)
      have D3 := (hb.cell (p := ⟨b', off' + j * 4 + 3, none⟩) hbl').trans (hc' 3 _ rfl)
      rw [Nat.add_zero] at C0 D0
      have i1 : (j : Int) < (n : Int) := by omega
      have i2 : (0 : Int) ≤ (j : Int) := by omega
      clear hc hc' hsv hbl hbl' hjl HV HV' HN
      go_wp2
      go_region
      go_wp2
      go_roundw
      case rel => exact ⟨j + 1, hlt, by go_num, hA.drew, hB.drew, hb.drew⟩
      case measure => simp [RowKit.intOf]; omega
    · have i1 : ¬ (j : Int) < (n : Int) := by omega
      go_wp2
      go_ret
      exact ⟨rfl, hb⟩
end Go.Proofs.YtccmmkhcacglhaaGreatDoor

/- The walk of ChartReads. -/
namespace Go.Proofs.YtccmmkhcacglhaaGreatDoor
open Go.RowKit Go.Lib
set_option linter.unusedSimpArgs false
set_option linter.unusedVariables false
attribute [local go_sem ↓] Go.wp_at_zero Go.wp_at_succ

theorem rdC_form {ok : Nat → Prop} {w : World} {d : Nat} {c : ChG d} {v : Value} (h : RdC ok w d c v) : ∃ a b e f g h' i j k l, v = .agg #[.string a, .int .i64 b, .int .i64 e, .int .i64 f, .slice g h' i, .slice j k l] := by
  obtain ⟨sv, ss, rfl, h1, h2⟩ := h
  obtain ⟨a, cap, rfl, _⟩ := h1.form
  obtain ⟨a', cap', rfl, _⟩ := h2.form
  exact ⟨_, _, _, _, _, _, _, _, _, _, rfl⟩
theorem rdD_form {ok : Nat → Prop} {w : World} {d : Nat} {c : ChD d} {v : Value} (h : RdD ok w d c v) : ∃ a b e f g h' i j k l, v = .agg #[.string a, .int .i64 b, .int .i64 e, .int .i64 f, .slice g h' i, .slice j k l] := by
  obtain ⟨sv, ss, rfl, h1, h2⟩ := h
  obtain ⟨a, cap, rfl, _⟩ := h1.form
  obtain ⟨a', cap', rfl, _⟩ := h2.form
  exact ⟨_, _, _, _, _, _, _, _, _, _, rfl⟩
set_option maxRecDepth 100000 in
set_option maxHeartbeats 16000000 in
theorem chartReads_walk {w : World} (hT : Tabs w) (hE : Esy w) (s : ByteArray) (hs : s.size ≤ 140737488351232) : Calls Tryz.prog 3 #[.string s] w fun e w' => e = .returned (.bool true) ∧ Below w.heap.size w w' := by
  have h1 := awakeC w hE
  have h2 := fun w1 (b : Below w.heap.size w w1) => readP_any s w1 (hE.on b) hs
  have h3 := fun w1 (b : Below w.heap.size w w1) => dread_any s w1 (hT.below b (Nat.le_refl _)) hs
  obtain ⟨k1, k2, k3⟩ := read_ok (bl s)
  obtain ⟨⟨C, ⟨P1, P2⟩, E⟩, hR⟩ : ∃ x, readC (bl s) = x := ⟨_, rfl⟩
  simp only [hR] at h2 h3 k1 k2 k3
  clear hR hs
  have h4 := fun (ok : Nat → Prop) w1 v (h : RdC ok w1 7 C v) => ours_ch h k1 k2 k3
  have h5 := fun (ok ok' : Nat → Prop) w1 v v' (h : RdD ok w1 7 C v) (h' : RdD ok' w1 7 C v') => dsame_any h h'
  have HK := mkHid k1
  clear k1 k2 k3
  go_enter Tryz.func3, Tryz.ntmps3
  go_upto_region 3 with (first
    | (go_at_call 9; refine h1.mono ?_; rintro e w1 ⟨rfl, b1⟩))
  go_upto_region 4 with (first
    | (go_at_call 10; refine (h2 _ b1).mono ?_; rintro e w2 ⟨v2, rfl, hr2, b2⟩; obtain ⟨c0, c1, c2, c3, c4, c5, c6, c7, c8, c9, rfl⟩ := rdC_form hr2))
  have hb2 := b1.trans (b2.mono b1.size)
  have hal := ((Below.refl w2.heap.size w2).alloc (Nat.le_refl _) (.cells #[.string c0, .int .i64 c1, .int .i64 c2, .int .i64 c3, .slice c4 c5 c6, .slice c7 c8 c9] 28)).alloc (by simp) (.cells #[.int .i64 P1, .int .i64 P2] 24)
  have hA : Bn ((w2.alloc (.cells #[.string c0, .int .i64 c1, .int .i64 c2, .int .i64 c3, .slice c4 c5 c6, .slice c7 c8 c9] 28)).alloc (.cells #[.int .i64 P1, .int .i64 P2] 24)) w2.heap.size [.string c0, .int .i64 c1, .int .i64 c2, .int .i64 c3, .slice c4 c5 c6, .slice c7 c8 c9] := (Bn.new w2 [.string c0, .int .i64 c1, .int .i64 c2, .int .i64 c3, .slice c4 c5 c6, .slice c7 c8 c9] 28 _ rfl).on ((Below.refl _ _).alloc (Nat.le_refl _) _)
  have hP : Bn ((w2.alloc (.cells #[.string c0, .int .i64 c1, .int .i64 c2, .int .i64 c3, .slice c4 c5 c6, .slice c7 c8 c9] 28)).alloc (.cells #[.int .i64 P1, .int .i64 P2] 24)) (w2.heap.size + 1) [.int .i64 P1, .int .i64 P2] := Bn.new (w2.alloc (.cells #[.string c0, .int .i64 c1, .int .i64 c2, .int .i64 c3, .slice c4 c5 c6, .slice c7 c8 c9] 28)) [.int .i64 P1, .int .i64 P2] 24 _ (by simp)
  have hr3 := hr2.keep (fun b hb hl => ⟨hb, hal.block b hl⟩)
  have hb3 := hb2.trans (hal.mono hb2.size)
  clear hr2 b1 b2 hb2 hal h1 h2
  generalize (w2.alloc (.cells #[.string c0, .int .i64 c1, .int .i64 c2, .int .i64 c3, .slice c4 c5 c6, .slice c7 c8 c9] 28)).alloc (.cells #[.int .i64 P1, .int .i64 P2] 24) = w3 at *
  obtain ⟨XA, hXA⟩ : ∃ x, w2.heap.size = x := ⟨_, rfl⟩
  rw [hXA] at hA hP ⊢
  clear hXA w2
  go_upto_region 5 with (first
    | (go_at_call 11; refine (h3 _ hb3).mono ?_; rintro e w4 ⟨v4, rfl, hr4, b4⟩; obtain ⟨d0, d1, d2, d3, d4, d5, d6, d7, d8, d9, rfl⟩ := rdD_form hr4))
  have hb4 := hb3.trans (b4.mono hb3.size)
  have hal := ((Below.refl w4.heap.size w4).alloc (Nat.le_refl _) (.cells #[.string d0, .int .i64 d1, .int .i64 d2, .int .i64 d3, .slice d4 d5 d6, .slice d7 d8 d9] 35)).alloc (by simp) (.cells #[.int .i64 P1, .int .i64 P2] 24)
  have hB : Bn ((w4.alloc (.cells #[.string d0, .int .i64 d1, .int .i64 d2, .int .i64 d3, .slice d4 d5 d6, .slice d7 d8 d9] 35)).alloc (.cells #[.int .i64 P1, .int .i64 P2] 24)) w4.heap.size [.string d0, .int .i64 d1, .int .i64 d2, .int .i64 d3, .slice d4 d5 d6, .slice d7 d8 d9] := (Bn.new w4 [.string d0, .int .i64 d1, .int .i64 d2, .int .i64 d3, .slice d4 d5 d6, .slice d7 d8 d9] 35 _ rfl).on ((Below.refl _ _).alloc (Nat.le_refl _) _)
  have hQ : Bn ((w4.alloc (.cells #[.string d0, .int .i64 d1, .int .i64 d2, .int .i64 d3, .slice d4 d5 d6, .slice d7 d8 d9] 35)).alloc (.cells #[.int .i64 P1, .int .i64 P2] 24)) (w4.heap.size + 1) [.int .i64 P1, .int .i64 P2] := Bn.new (w4.alloc (.cells #[.string d0, .int .i64 d1, .int .i64 d2, .int .i64 d3, .slice d4 d5 d6, .slice d7 d8 d9] 35)) [.int .i64 P1, .int .i64 P2] 24 _ (by simp)
  have hr5 := hr4.keep (fun b hb hl => ⟨hb, hal.block b hl⟩)
  have hb5 := hb4.trans (hal.mono hb4.size)
  have hbw := b4.trans (hal.mono b4.size)
  have hr6 := hr3.keep (fun b hb hl => ⟨hb, hbw.block b hl⟩)
  have hA5 := hA.on hbw
  have hP5 := hP.on hbw
  clear hr3 hr4 b4 hb4 hal h3 hb3 hbw hA hP
  generalize (w4.alloc (.cells #[.string d0, .int .i64 d1, .int .i64 d2, .int .i64 d3, .slice d4 d5 d6, .slice d7 d8 d9] 35)).alloc (.cells #[.int .i64 P1, .int .i64 P2] 24) = w5 at *
  obtain ⟨XB, hXB⟩ : ∃ x, w4.heap.size = x := ⟨_, rfl⟩
  rw [hXB] at hB hQ ⊢
  clear hXB
  have hB0 : Below w5.heap.size w5 w5 := Below.refl _ _
  have lA := hA5.lt
  have lP := hP5.lt
  have lB := hB.lt
  have lQ := hQ.lt
  obtain ⟨a0, _⟩ := hA5 0 _ rfl
  obtain ⟨a1, _⟩ := hA5 1 _ rfl
  obtain ⟨a2, _⟩ := hA5 2 _ rfl
  obtain ⟨a3, _⟩ := hA5 3 _ rfl
  obtain ⟨a4, _⟩ := hA5 4 _ rfl
  obtain ⟨a5, _⟩ := hA5 5 _ rfl
  obtain ⟨b0, _⟩ := hB 0 _ rfl
  obtain ⟨b1, _⟩ := hB 1 _ rfl
  obtain ⟨b2, _⟩ := hB 2 _ rfl
  obtain ⟨b3, _⟩ := hB 3 _ rfl
  obtain ⟨b4, _⟩ := hB 4 _ rfl
  obtain ⟨b5, _⟩ := hB 5 _ rfl
  obtain ⟨p0, _⟩ := hP5 0 _ rfl
  obtain ⟨p1, _⟩ := hP5 1 _ rfl
  obtain ⟨q0, _⟩ := hQ 0 _ rfl
  obtain ⟨q1, _⟩ := hQ 1 _ rfl
  have h6 : ∀ w1, Below w5.heap.size w5 w1 → Calls Tryz.prog 13 #[.agg #[.string c0, .int .i64 c1, .int .i64 c2, .int .i64 c3, .slice c4 c5 c6, .slice c7 c8 c9]] w1 fun e w' => ∃ e0 e1 e2 e3 e4 e5 e6 e7 e8 e9, e = .returned (.agg #[.string e0, .int .i64 e1, .int .i64 e2, .int .i64 e3, .slice e4 e5 e6, .slice e7 e8 e9]) ∧ RdD (fun b => w1.heap.size ≤ b) w' 7 C (.agg #[.string e0, .int .i64 e1, .int .i64 e2, .int .i64 e3, .slice e4 e5 e6, .slice e7 e8 e9]) ∧ Below w1.heap.size w1 w' := fun w1 bb => (h4 _ w1 _ (hr6.keep (ok' := fun _ => True) (fun b hb hl => ⟨trivial, bb.block b hl⟩))).mono (fun e w' hh => by
    obtain ⟨u, h1, h2, h3⟩ := hh
    obtain ⟨e0, e1, e2, e3, e4, e5, e6, e7, e8, e9, rfl⟩ := rdD_form h2
    exact ⟨e0, e1, e2, e3, e4, e5, e6, e7, e8, e9, h1, h2, h3⟩)
  have h7 : ∀ (ok : Nat → Prop) w1 v, Below w5.heap.size w5 w1 → RdD ok w1 7 C v → Calls Tryz.prog 12 #[v, .agg #[.string d0, .int .i64 d1, .int .i64 d2, .int .i64 d3, .slice d4 d5 d6, .slice d7 d8 d9]] w1 fun e w' => e = .returned (.bool true) ∧ Below w1.heap.size w1 w' := fun ok w1 v bb hv => h5 ok (fun _ => True) w1 v _ hv (hr5.keep (fun b hb hl => ⟨trivial, bb.block b hl⟩))
  clear h4 h5 hr5 hr6 HK hA5 hP5 hB hQ hT hE
  go_region_held_law (fun w' => w'.cell? ⟨XA, 0, none⟩ = some (.string c0) ∧ w'.cell? ⟨XA, 1, none⟩ = some (.int .i64 c1) ∧ w'.cell? ⟨XA, 2, none⟩ = some (.int .i64 c2) ∧ w'.cell? ⟨XA, 3, none⟩ = some (.int .i64 c3) ∧ w'.cell? ⟨XA, 4, none⟩ = some (.slice c4 c5 c6) ∧ w'.cell? ⟨XA, 5, none⟩ = some (.slice c7 c8 c9) ∧ w'.cell? ⟨XB, 0, none⟩ = some (.string d0) ∧ w'.cell? ⟨XB, 1, none⟩ = some (.int .i64 d1) ∧ w'.cell? ⟨XB, 2, none⟩ = some (.int .i64 d2) ∧ w'.cell? ⟨XB, 3, none⟩ = some (.int .i64 d3) ∧ w'.cell? ⟨XB, 4, none⟩ = some (.slice d4 d5 d6) ∧ w'.cell? ⟨XB, 5, none⟩ = some (.slice d7 d8 d9) ∧ w'.cell? ⟨XA + 1, 0, none⟩ = some (.int .i64 P1) ∧ w'.cell? ⟨XA + 1, 1, none⟩ = some (.int .i64 P2) ∧ w'.cell? ⟨XB + 1, 0, none⟩ = some (.int .i64 P1) ∧ w'.cell? ⟨XB + 1, 1, none⟩ = some (.int .i64 P2))
    (exact ⟨(hB0.cell (p := ⟨XA, 0, none⟩) lA).trans a0, (hB0.cell (p := ⟨XA, 1, none⟩) lA).trans a1, (hB0.cell (p := ⟨XA, 2, none⟩) lA).trans a2, (hB0.cell (p := ⟨XA, 3, none⟩) lA).trans a3, (hB0.cell (p := ⟨XA, 4, none⟩) lA).trans a4, (hB0.cell (p := ⟨XA, 5, none⟩) lA).trans a5, (hB0.cell (p := ⟨XB, 0, none⟩) lB).trans b0, (hB0.cell (p := ⟨XB, 1, none⟩) lB).trans b1, (hB0.cell (p := ⟨XB, 2, none⟩) lB).trans b2, (hB0.cell (p := ⟨XB, 3, none⟩) lB).trans b3, (hB0.cell (p := ⟨XB, 4, none⟩) lB).trans b4, (hB0.cell (p := ⟨XB, 5, none⟩) lB).trans b5, (hB0.cell (p := ⟨XA + 1, 0, none⟩) lP).trans p0, (hB0.cell (p := ⟨XA + 1, 1, none⟩) lP).trans p1, (hB0.cell (p := ⟨XB + 1, 0, none⟩) lQ).trans q0, (hB0.cell (p := ⟨XB + 1, 1, none⟩) lQ).trans q1⟩)
    (first
      | (go_at_call 13; (first | (with_reducible refine (h6 _ hB0).mono ?_) | (with_reducible refine (h6 _ hB0.drew).mono ?_)); rintro e w6 ⟨e0, e1, e2, e3, e4, e5, e6, e7, e8, e9, rfl, hr7, bb⟩; (first | have hB0 := Below.nxd hB0 bb | have hB0 := Below.nx hB0 bb))
      | (go_at_call 12; (first | (with_reducible refine (h7 _ _ _ hB0 hr7).mono ?_) | (with_reducible refine (h7 _ _ _ hB0.drew hr7).mono ?_)); rintro e w7 ⟨rfl, bb⟩; (first | have hB0 := Below.nxd hB0 bb | have hB0 := Below.nx hB0 bb))
      | fail)
  all_goals (
    go_wp2
    go_ret
    exact ⟨rfl, hb5.trans (hB0.mono hb5.size)⟩)
end Go.Proofs.YtccmmkhcacglhaaGreatDoor

/- What strconv.ErrSyntax holds, by the row's list. -/
namespace Go.Proofs.YtccmmkhcacglhaaGreatDoor
open Go.RowKit Go.Lib
set_option linter.unusedVariables false
theorem iface_of {P : Program} {w : World} {t : TypeId} {fuel : Nat} {cs : List Value} {name : String} {d : DataW Unit} {p : List MemPlace} (ht : (P.underlying t).map (fun u => match u with | .interface _ => true | _ => false) = some true) (h : DataW.trod (fun _ => ()) P w 0 (fun _ => true) false fuel t cs = some (.iface name d, p)) : ∃ u v, cs = [.iface u v] := by
  cases fuel with
  | zero => simp [DataW.trod] at h
  | succ fuel =>
    unfold DataW.trod at h
    cases hu : P.underlying t with
    | none => rw [hu] at ht; simp at ht
    | some u =>
      rw [hu] at ht h
      cases u <;> simp at ht
      split at h <;> simp_all
theorem esy_of {w : World} {L : List (String × DataW Unit)} (h : laidMetH Tryz.prog L w) (hp : (L.all fun x => x.2.handleName?.isNone) = true) (m : ("strconv.ErrSyntax", Rows.laid_strconv_ErrSyntax) ∈ L) : Esy w := by
  rw [MakeChecks.laidMetH_plain _ _ _ hp] at h
  obtain ⟨g, t, cs, fuel, p, hg, ht, hvar, hd⟩ := Lib.laidMet.reads h m
  have hg2 : Tryz.prog.globalNamed "strconv.ErrSyntax" = some (renA.g 15) := by kernel_rfl
  rw [hg] at hg2
  obtain rfl := Option.some.inj hg2
  have ht2 : ((Tryz.prog.globals[renA.g 15]?).map (·.type)).bind (fun t => (Tryz.prog.underlying t).map (fun u => match u with | .interface _ => true | _ => false)) = some true := by kernel_rfl
  rw [ht, Option.bind_some] at ht2
  obtain ⟨u, v, hcs⟩ := iface_of ht2 hd
  have : cs = #[.iface u v] := by cases cs; simp at hcs; rw [hcs]
  subst this
  unfold World.var? at hvar
  rw [hg, Option.bind_some] at hvar
  refine ⟨.iface u v, ?_, .inr ⟨u, v, rfl⟩⟩
  cases hh : w.heap[renA.g 15]? with
  | none => rw [hh] at hvar; simp at hvar
  | some o =>
    rw [hh] at hvar
    cases o with
    | cells cs e f =>
      simp only [Option.some.injEq] at hvar
      subst hvar
      exact (cell_of_row w _ 0 _ _ _ hh).trans rfl
    | _ => simp at hvar
end Go.Proofs.YtccmmkhcacglhaaGreatDoor

/- An argument that is a slice of bytes, opened: the bytes that it reads as, each from 0 to 255, and their number within the form's reach. -/
namespace Go.Proofs.YtccmmkhcacglhaaGreatDoor
open Go.ChangeShapes Go.WideShapes Go.ChangeAt Go.RowKit

/-- What the datum of a slice of len elements is. -/
def IsSlice {H : Type} (d : DataW H) (len : Nat) : Prop := (d = .nil ∧ len = 0) ∨ ∃ elems spare, d = .slice elems spare ∧ elems.length = len

theorem open_bytes {H : Type} {enc : TypeId × Value → H} {P : Program} {W : World} {t e : TypeId} {a : Option Addr} {len cap : Nat} {d : DataW H} {p : List MemPlace}
    (ht : P.underlying t = some (.slice e)) (he : P.underlying e = some (.int .u8)) (hc : P.cellsOf e = 1) (h : DataW.Trod enc P W 0 (fun _ => true) true t (.slice a len cap) d p) :
    ∃ bs, Rd W (.slice a len cap) bs ∧ (∀ x ∈ bs, 0 ≤ x ∧ x ≤ 255) ∧ bs.length = len ∧ IsSlice d len := by
  obtain ⟨fuel, hf⟩ := h
  rcases open_ints ht he hc hf with ⟨hcs, hx⟩ | ⟨x, l, c, zs, hcs, _, hl, hm, hz, hx, hcell, hwz⟩
  · simp [Value.cells] at hcs
    obtain ⟨rfl, rfl, rfl⟩ := hcs
    simp only [Prod.mk.injEq] at hx
    exact ⟨[], ⟨none, 0, rfl, by simp, by simp [maxLen], by simp, fun x hx => by cases hx⟩, by simp, rfl, .inl ⟨hx.1, rfl⟩⟩
  · simp [Value.cells] at hcs
    obtain ⟨rfl, rfl, rfl⟩ := hcs
    simp only [Prod.mk.injEq] at hx
    have hzc : zs.length = cap := by simpa using hz
    have hlen : (zs.take len).length = len := by rw [List.length_take]; omega
    refine ⟨zs.take len, ⟨some x, cap, by rw [hlen], by omega, hm, by simp, ?_⟩, ?_, hlen, .inr ⟨_, _, hx.1, by simp [lits]; omega⟩⟩
    · intro y hy i hi
      obtain rfl := Option.some.inj hy
      rw [hlen] at hi
      rw [hcell i (by omega)]
      simp [List.getD, hi]
    · intro n hn
      have := hwz n (List.mem_of_mem_take hn)
      simpa [Lit.wf, IntKind.min, IntKind.max, IntKind.signed, IntKind.bits] using this

theorem sized_bytes {H : Type} {P : Program} {ts : List TypeId} {ds : List (DataW H)} (h : (DataW.weightsEach P ts ds).all (· ≤ reachBytes) = true) {j : Nat} {t e : TypeId} {d : DataW H} {len : Nat}
    (ht : ts[j]? = some t) (hd : ds[j]? = some d) (hu : P.underlying t = some (.slice e)) (hb : P.bytesOf e = 1) (hs : IsSlice d len) : len ≤ 140737488351232 := by
  rcases hs with ⟨_, rfl⟩ | ⟨elems, spare, rfl, hl⟩
  · omega
  · have := sized_slice h ht hd hu
    rw [hb] at this
    simp only [reachBytes] at this
    omega

theorem sized_text {H : Type} {P : Program} {ts : List TypeId} {ds : List (DataW H)} (h : (DataW.weightsEach P ts ds).all (· ≤ reachBytes) = true) {j : Nat} {t : TypeId} {s : ByteArray}
    (ht : ts[j]? = some t) (hd : ds[j]? = some (.lit (.string s.data.toList))) : s.size ≤ 140737488351232 := by
  have := sized_string h ht hd
  simp only [reachBytes, Array.length_toList] at this
  exact this

end Go.Proofs.YtccmmkhcacglhaaGreatDoor
