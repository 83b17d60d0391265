import Derived.Test.YtccmmkhcacglhaaGreatDoorWka12
import Derived.Deep.RegionHeldLaw
import Derived.Deep.RegionLaw
import Derived.Test.YtccmmkhcacglhaaGreatDoorWkc17
import Derived.Test.YtccmmkhcacglhaaGreatDoorWka09

/- The document's sameStates: true where both read the same states. -/
namespace Go.Proofs.YtccmmkhcacglhaaGreatDoor
open Go.RowKit Go.Lib
set_option linter.unusedSimpArgs false
set_option linter.unusedVariables false
attribute [local go_sem ↓] Go.wp_at_zero Go.wp_at_succ

theorem sts_cells {ok : Nat → Prop} {w : World} {d : Nat} {l : List (St (d + 1))} {v : Value} (h : RdK ok w 11 (rStD (d + 1) ok w) l v) : ∃ a cap, v = .slice a l.length cap ∧ l.length ≤ cap ∧ cap ≤ maxLen ∧ ∀ (j : Nat) (hj : j < l.length), ∃ b off p1 p3 p4 p6, a = some ⟨b, off, none⟩ ∧ b < w.heap.size ∧ RdK ok w 10 (rOnD ok w) l[j].1.2.2.2.2 (.slice p1 l[j].1.2.2.2.2.length p3) ∧ RdK ok w 11 (rStD d ok w) l[j].2 (.slice p4 l[j].2.length p6) ∧ ∀ i u, (hdD l[j].1 (.slice p1 l[j].1.2.2.2.2.length p3) (.slice p4 l[j].2.length p6))[i]? = some u → w.cell? ⟨b, off + j * 11 + i, none⟩ = some u := by
  obtain ⟨a, cap, rfl, h1, h2, h3⟩ := h
  refine ⟨a, cap, rfl, h1, h2, fun j hj => ?_⟩
  obtain ⟨b, off, cs, ha, _, hb, hl, ⟨so, si, rfl, hx, hy⟩, hc⟩ := h3 j hj
  obtain ⟨p1, p3, rfl, _⟩ := hx.form
  obtain ⟨p4, p6, rfl, _⟩ := hy.form
  exact ⟨b, off, p1, p3, p4, p6, ha, hb, hx, hy, hc⟩
theorem ons_cells {ok : Nat → Prop} {w : World} {l : List OnC} {a : Option Addr} {n cap : Nat} (h : RdK ok w 10 (rOnD ok w) l (.slice a n cap)) (j : Nat) (hj : j < l.length) : ∃ b off e0 e1 e2 e3 e4 e5 e6 e7 e8 e9, a = some ⟨b, off, none⟩ ∧ b < w.heap.size ∧ rOnD ok w l[j] [e0, e1, e2, e3, e4, e5, e6, e7, e8, e9] ∧ ∀ i u, [e0, e1, e2, e3, e4, e5, e6, e7, e8, e9][i]? = some u → w.cell? ⟨b, off + j * 10 + i, none⟩ = some u := by
  obtain ⟨a1, cap1, he, h1, h2, h3⟩ := h
  simp only [Value.slice.injEq] at he
  obtain ⟨rfl, rfl, rfl⟩ := he
  obtain ⟨b, off, cs, ha, _, hb, hl, hr, hc⟩ := h3 j hj
  have hr2 := hr
  obtain ⟨c0, c1, c2, c3, sl, rfl, _, _⟩ := hr
  exact ⟨b, off, _, _, _, _, _, _, _, _, _, _, ha, hb, hr2, hc⟩
def SsC (d : Nat) : Prop := ∀ (ok ok' : Nat → Prop) (w : World) (l : List (St d)) (v v' : Value), RdK ok w 11 (rStD d ok w) l v → RdK ok' w 11 (rStD d ok' w) l v' →
  Calls Tryz.prog 38 #[v, v'] w fun e w' => e = .returned (.bool true) ∧ Below w.heap.size w w'
set_option maxRecDepth 100000 in
set_option maxHeartbeats 8000000 in
theorem ss_zero : SsC 0 := by
  intro ok ok' w l v v' h h'
  cases l with
  | cons x _ => exact Empty.elim x
  | nil =>
    obtain ⟨a, cap, rfl, _⟩ := h.form
    obtain ⟨a', cap', rfl, _⟩ := h'.form
    simp only [List.length_nil]
    clear h h'
    go_enter Tryz.func38, Tryz.ntmps38
    go_wp2
    go_loopw [16] (fun i wr => i = .int .i64 0 ∧ Below w.heap.size w wr) (fun _ _ => 0)
    case atStart => exact ⟨rfl, Below.refl _ _⟩
    case round =>
      obtain ⟨rfl, hb⟩ := hrel
      go_wp2
      go_ret
      exact ⟨rfl, hb⟩
set_option maxRecDepth 100000 in
set_option maxHeartbeats 16000000 in
theorem ss_step (d : Nat) (IH : SsC d) : SsC (d + 1) := by
  intro ok ok' w l v v' h h'
  obtain ⟨a, cap, rfl, hlc, hcm, hcell⟩ := sts_cells h
  obtain ⟨a', cap', rfl, hlc', hcm', hcell'⟩ := sts_cells h'
  unfold maxLen at hcm hcm'
  have HC : Hid (∀ (j : Nat) (hj : j < l.length), ∃ b off p1 p3 p4 p6, a = some ⟨b, off, none⟩ ∧ b < w.heap.size ∧ RdK ok w 10 (rOnD ok w) l[j].1.2.2.2.2 (.slice p1 l[j].1.2.2.2.2.length p3) ∧ RdK ok w 11 (rStD d ok w) l[j].2 (.slice p4 l[j].2.length p6) ∧ ∀ i u, (hdD l[j].1 (.slice p1 l[j].1.2.2.2.2.length p3) (.slice p4 l[j].2.length p6))[i]? = some u → w.cell? ⟨b, off + j * 11 + i, none⟩ = some u) := hcell
  have HC' : Hid (∀ (j : Nat) (hj : j < l.length), ∃ b off p1 p3 p4 p6, a' = some ⟨b, off, none⟩ ∧ b < w.heap.size ∧ RdK ok' w 10 (rOnD ok' w) l[j].1.2.2.2.2 (.slice p1 l[j].1.2.2.2.2.length p3) ∧ RdK ok' w 11 (rStD d ok' w) l[j].2 (.slice p4 l[j].2.length p6) ∧ ∀ i u, (hdD l[j].1 (.slice p1 l[j].1.2.2.2.2.length p3) (.slice p4 l[j].2.length p6))[i]? = some u → w.cell? ⟨b, off + j * 11 + i, none⟩ = some u) := hcell'
  obtain ⟨n, hn⟩ : ∃ n, l.length = n := ⟨_, rfl⟩
  rw [hn] at hlc hlc' ⊢
  have HN : Hid (l.length = n) := hn
  clear hcell hcell' hn h h'
  go_enter Tryz.func38, Tryz.ntmps38
  go_wp2
  go_loopw [16] (fun i wr => ∃ (j : Nat), j ≤ n ∧ i = .int .i64 (j : Int) ∧ Below w.heap.size w wr) (fun i _ => n - (RowKit.intOf i).toNat)
  case atStart => exact ⟨0, Nat.zero_le _, rfl, Below.refl _ _⟩
  case round =>
    obtain ⟨j, hj, rfl, hb⟩ := hrel
    by_cases hlt : j < n
    · have hjl : j < l.length := by rw [HN.out]; exact hlt
      obtain ⟨b, off, p1, p3, p4, p6, rfl, hbl, hO, hI, hc⟩ := HC.out j hjl
      obtain ⟨b', off', q1, q3, q4, q6, rfl, hbl', hO', hI', hc'⟩ := HC'.out j hjl
      obtain ⟨sn, sl, sc, sb, se, sd, su, sw, sr, hsv⟩ : ∃ sn sl sc sb se sd su sw sr, hdD l[j].1 = fun so si => [.string sn, .int .i64 sl, .int .i64 sc, .bool sb, .bool se, .string sd, .string su, .int .i64 sw, .int .i64 sr, so, si] := ⟨_, _, _, _, _, _, _, _, _, rfl⟩
      rw [hsv] at hc hc'
      obtain ⟨t, ht⟩ : ∃ t, l[j] = t := ⟨_, rfl⟩
      rw [ht] at hO hI hO' hI' hc hc'
      obtain ⟨m, hm⟩ : ∃ m, t.1.2.2.2.2.length = m := ⟨_, rfl⟩
      obtain ⟨i, hi⟩ : ∃ m, t.2.length = m := ⟨_, rfl⟩
      rw [hm] at hO hO' hc hc'
      rw [hi] at hI hI' hc hc'
      have C0 := (hb.cell (p := ⟨b, off + j * 11 + 0, none⟩) hbl).trans (hc 0 _ rfl)
      have D0 := (hb.cell (p := ⟨b', off' + j * 11 + 0, none⟩) hbl').trans (hc' 0 _ rfl)
      have C1 := (hb.cell (p := ⟨b, off + j * 11 + 1, none⟩) hbl).trans (hc 1 _ rfl)
      have D1 := (hb.cell (p := ⟨b', off' + j * 11 + 1, none⟩) hbl').trans (hc' 1 _ rfl)
      have C2 := (hb.cell (p := ⟨b, off + j * 11 + 2, none⟩) hbl).trans (hc 2 _ rfl)
      have D2 := (hb.cell (p := ⟨b', off' + j * 11 + 2, none⟩) hbl').trans (hc' 2 _ rfl)
      have C3 := (hb.cell (p := ⟨b, off + j * 11 + 3, none⟩) hbl).trans (hc 3 _ rfl)
      have D3 := (hb.cell (p := ⟨b', off' + j * 11 + 3, none⟩) hbl').trans (hc' 3 _ rfl)
      have C4 := (hb.cell (p := ⟨b, off + j * 11 + 4, none⟩) hbl).trans (hc 4 _ rfl)
      have D4 := (hb.cell (p := ⟨b', off' + j * 11 + 4, none⟩) hbl').trans (hc' 4 _ rfl)
      have C5 := (hb.cell (p := ⟨b, off + j * 11 + 5, none⟩) hbl).trans (hc 5 _ rfl)
      have D5 := (hb.cell (p := ⟨b', off' + j * 11 + 5, none⟩) hbl').trans (hc' 5 _ rfl)
      have C6 := (hb.cell (p := ⟨b, off + j * 11 + 6, none⟩) hbl).trans (hc 6 _ rfl)
      have D6 := (hb.cell (p := ⟨b', off' + j * 11 + 6, none⟩) hbl').trans (hc' 6 _ rfl)
      have C7 := (hb.cell (p := ⟨b, off + j * 11 + 7, none⟩) hbl).trans (hc 7 _ rfl)
      have D7 := (hb.cell (p := ⟨b', off' + j * 11 + 7, none⟩) hbl').trans (hc' 7 _ rfl)
      have C8 := (hb.cell (p := ⟨b, off + j * 11 + 8, none⟩) hbl).trans (hc 8 _ rfl)
      have D8 := (hb.cell (p := ⟨b', off' + j * 11 + 8, none⟩) hbl').trans (hc' 8 _ rfl)
      have C9 := (hb.cell (p := ⟨b, off + j * 11 + 9, none⟩) hbl).trans (hc 9 _ rfl)
      have D9 := (hb.cell (p := ⟨b', off' + j * 11 + 9, none⟩) hbl').trans (hc' 9 _ rfl)
      have C10 := (hb.cell (p := ⟨b, off + j * 11 + 10, none⟩) hbl).trans (hc 10 _ rfl)
      have D10 := (hb.cell (p := ⟨b', off' + j * 11 + 10, none⟩) hbl').trans (hc' 10 _ rfl)
      rw [Nat.add_zero] at C0 D0
      have i1 : (j : Int) < (n : Int) := by omega
      have i2 : (0 : Int) ≤ (j : Int) := by omega
      clear hc hc' hsv ht hjl
      go_wp2
      have HI : Hid (RdK ok w 11 (rStD d ok w) t.2 (.slice p4 i p6)) := hI
      have HI' : Hid (RdK ok' w 11 (rStD d ok' w) t.2 (.slice q4 i q6)) := hI'
      have HO : Hid (RdK ok w 10 (rOnD ok w) t.1.2.2.2.2 (.slice p1 m p3)) := hO
      have HO' : Hid (RdK ok' w 10 (rOnD ok' w) t.1.2.2.2.2 (.slice q1 m q3)) := hO'
      clear hI hI' hO hO'
      go_cut [6, 7] (fun u6 u7 wc => ∃ P Q, u6 = .pointer (some ⟨P, 0, none⟩) ∧ u7 = .pointer (some ⟨Q, 0, none⟩) ∧ wr.heap.size ≤ P ∧ wr.heap.size ≤ Q ∧ Bn wc P [.string sn, .int .i64 sl, .int .i64 sc, .bool sb, .bool se, .string sd, .string su, .int .i64 sw, .int .i64 sr, .slice p1 m p3, .slice p4 i p6] ∧ Bn wc Q [.string sn, .int .i64 sl, .int .i64 sc, .bool sb, .bool se, .string sd, .string su, .int .i64 sw, .int .i64 sr, .slice q1 m q3, .slice q4 i q6] ∧ Below wr.heap.size wr wc)
      case first =>
        clear HI HI' HO HO' HC HC' IH
        have hsw := hb.size
        have n1 : ¬ b = wr.heap.size := by omega
        have n2 : ¬ wr.heap.size = b := by omega
        have n3 : ¬ b = wr.heap.size + 1 := by omega
        have n4 : ¬ wr.heap.size + 1 = b := by omega
        have n5 : ¬ b' = wr.heap.size := by omega
        have n6 : ¬ wr.heap.size = b' := by omega
        have n7 : ¬ b' = wr.heap.size + 1 := by omega
        have n8 : ¬ wr.heap.size + 1 = b' := by omega
        have n9 : b < wr.heap.size := by omega
        have n10 : b' < wr.heap.size := by omega
        go_region
        · go_wp2
          go_meet
          case rel => exact ⟨wr.heap.size, wr.heap.size + 1, rfl, rfl, Nat.le_refl _, Nat.le_succ _, ((Bn.new wr [.string sn, .int .i64 sl, .int .i64 sc, .bool sb, .bool se, .string sd, .string su, .int .i64 sw, .int .i64 sr, .slice p1 m p3, .slice p4 i p6] 76 _ rfl).on ((Below.refl _ _).alloc (Nat.le_refl _) (.cells #[.string sn, .int .i64 sl, .int .i64 sc, .bool sb, .bool se, .string sd, .string su, .int .i64 sw, .int .i64 sr, .slice q1 m q3, .slice q4 i q6] 76))).drew, (Bn.new (wr.alloc (.cells #[.string sn, .int .i64 sl, .int .i64 sc, .bool sb, .bool se, .string sd, .string su, .int .i64 sw, .int .i64 sr, .slice p1 m p3, .slice p4 i p6] 76)) [.string sn, .int .i64 sl, .int .i64 sc, .bool sb, .bool se, .string sd, .string su, .int .i64 sw, .int .i64 sr, .slice q1 m q3, .slice q4 i q6] 76 _ (by simp)).drew, (((Below.refl _ _).alloc (Nat.le_refl _) _).alloc (by simp) _).drew⟩
        · go_wp2
          go_meet
          case rel => exact ⟨wr.heap.size + 1, wr.heap.size, rfl, rfl, Nat.le_succ _, Nat.le_refl _, (Bn.new (wr.alloc (.cells #[.string sn, .int .i64 sl, .int .i64 sc, .bool sb, .bool se, .string sd, .string su, .int .i64 sw, .int .i64 sr, .slice q1 m q3, .slice q4 i q6] 76)) [.string sn, .int .i64 sl, .int .i64 sc, .bool sb, .bool se, .string sd, .string su, .int .i64 sw, .int .i64 sr, .slice p1 m p3, .slice p4 i p6] 76 _ (by simp)).drew, ((Bn.new wr [.string sn, .int .i64 sl, .int .i64 sc, .bool sb, .bool se, .string sd, .string su, .int .i64 sw, .int .i64 sr, .slice q1 m q3, .slice q4 i q6] 76 _ rfl).on ((Below.refl _ _).alloc (Nat.le_refl _) (.cells #[.string sn, .int .i64 sl, .int .i64 sc, .bool sb, .bool se, .string sd, .string su, .int .i64 sw, .int .i64 sr, .slice p1 m p3, .slice p4 i p6] 76))).drew, (((Below.refl _ _).alloc (Nat.le_refl _) _).alloc (by simp) _).drew⟩
      case rest =>
        obtain ⟨P, Q, rfl, rfl, hP, hQ, hX, hY, hbc⟩ := hcut
        have hb2 := hb.trans (hbc.mono hb.size)
        have hcall := IH ok ok' wc t.2 _ _ (HI.out.stay (kp_stD d) (fun b hb hl => ⟨hb, hb2.block b hl⟩)) (HI'.out.stay (kp_stD d) (fun b hb hl => ⟨hb, hb2.block b hl⟩))
        have HM : Hid (t.1.2.2.2.2.length = m) := hm
        have HMX : Hid (m ≤ 9223372036854775807) := by
          obtain ⟨_, _, he, hq1, hq2⟩ := HO.out.form
          unfold maxLen at hq2
          show m ≤ 9223372036854775807
          omega
        clear C0 D0 C1 D1 C2 D2 C3 D3 C4 D4 C5 D5 C6 D6 C7 D7 C8 D8 C9 D9 C10 D10 hb HC HC' HI HI' hm hi i1 i2
        obtain ⟨c0, _⟩ := hX 0 _ rfl
        obtain ⟨d0, _⟩ := hY 0 _ rfl
        obtain ⟨c1, _⟩ := hX 1 _ rfl
        obtain ⟨d1, _⟩ := hY 1 _ rfl
        obtain ⟨c2, _⟩ := hX 2 _ rfl
        obtain ⟨d2, _⟩ := hY 2 _ rfl
        obtain ⟨c3, _⟩ := hX 3 _ rfl
        obtain ⟨d3, _⟩ := hY 3 _ rfl
        obtain ⟨c4, _⟩ := hX 4 _ rfl
        obtain ⟨d4, _⟩ := hY 4 _ rfl
        obtain ⟨c5, _⟩ := hX 5 _ rfl
        obtain ⟨d5, _⟩ := hY 5 _ rfl
        obtain ⟨c6, _⟩ := hX 6 _ rfl
        obtain ⟨d6, _⟩ := hY 6 _ rfl
        obtain ⟨c7, _⟩ := hX 7 _ rfl
        obtain ⟨d7, _⟩ := hY 7 _ rfl
        obtain ⟨c8, _⟩ := hX 8 _ rfl
        obtain ⟨d8, _⟩ := hY 8 _ rfl
        obtain ⟨c9, _⟩ := hX 9 _ rfl
        obtain ⟨d9, _⟩ := hY 9 _ rfl
        obtain ⟨c10, _⟩ := hX 10 _ rfl
        obtain ⟨d10, _⟩ := hY 10 _ rfl
        have HJ : Hid (j < n) := hlt
        go_wp2_with (first
          | (go_at_call 38; refine hcall.mono ?_; rintro r w1 ⟨rfl, b1⟩; obtain ⟨r9, _⟩ := (hX.on b1) 9 _ rfl; obtain ⟨s9, _⟩ := (hY.on b1) 9 _ rfl))
        have hX1 := hX.on b1
        have hY1 := hY.on b1
        have hb3 := hb2.trans (b1.mono hb2.size)
        clear hcall c0 d0 c1 d1 c2 d2 c3 d3 c4 d4 c5 d5 c6 d6 c7 d7 c8 d8 c9 d9 c10 d10 r9 s9 hX hY hb2 b1 hbc
        go_loopw [101] (fun ix wr => ∃ (g : Nat), g ≤ m ∧ ix = .int .i64 (g : Int) ∧ Bn wr P [.string sn, .int .i64 sl, .int .i64 sc, .bool sb, .bool se, .string sd, .string su, .int .i64 sw, .int .i64 sr, .slice p1 m p3, .slice p4 i p6] ∧ Bn wr Q [.string sn, .int .i64 sl, .int .i64 sc, .bool sb, .bool se, .string sd, .string su, .int .i64 sw, .int .i64 sr, .slice q1 m q3, .slice q4 i q6] ∧ Below w.heap.size w wr) (fun ix _ => m - (RowKit.intOf ix).toNat)
        case atStart => exact ⟨0, Nat.zero_le _, rfl, hX1, hY1, hb3⟩
        case round =>
          clear hX1 hY1 hb3
          obtain ⟨g, hg, rfl, hX, hY, hb⟩ := hrel
          obtain ⟨y9, _⟩ := hX 9 _ rfl
          obtain ⟨z9, _⟩ := hY 9 _ rfl
          by_cases hgl : g < m
          · have hgt : g < t.1.2.2.2.2.length := by rw [HM.out]; exact hgl
            obtain ⟨bo, oo, e0, e1, e2, e3, e4, e5, e6, e7, e8, e9, rfl, hbl1, hon, hc⟩ := ons_cells HO.out g hgt
            obtain ⟨bo', oo', f0, f1, f2, f3, f4, f5, f6, f7, f8, f9, rfl, hbl2, hon', hc'⟩ := ons_cells HO'.out g hgt
            have C0 := (hb.cell (p := ⟨bo, oo + g * 10 + 0, none⟩) hbl1).trans (hc 0 _ rfl)
            have D0 := (hb.cell (p := ⟨bo', oo' + g * 10 + 0, none⟩) hbl2).trans (hc' 0 _ rfl)
            have C1 := (hb.cell (p := ⟨bo, oo + g * 10 + 1, none⟩) hbl1).trans (hc 1 _ rfl)
            have D1 := (hb.cell (p := ⟨bo', oo' + g * 10 + 1, none⟩) hbl2).trans (hc' 1 _ rfl)
            have C2 := (hb.cell (p := ⟨bo, oo + g * 10 + 2, none⟩) hbl1).trans (hc 2 _ rfl)
            have D2 := (hb.cell (p := ⟨bo', oo' + g * 10 + 2, none⟩) hbl2).trans (hc' 2 _ rfl)
            have C3 := (hb.cell (p := ⟨bo, oo + g * 10 + 3, none⟩) hbl1).trans (hc 3 _ rfl)
            have D3 := (hb.cell (p := ⟨bo', oo' + g * 10 + 3, none⟩) hbl2).trans (hc' 3 _ rfl)
            have C4 := (hb.cell (p := ⟨bo, oo + g * 10 + 4, none⟩) hbl1).trans (hc 4 _ rfl)
            have D4 := (hb.cell (p := ⟨bo', oo' + g * 10 + 4, none⟩) hbl2).trans (hc' 4 _ rfl)
            have C5 := (hb.cell (p := ⟨bo, oo + g * 10 + 5, none⟩) hbl1).trans (hc 5 _ rfl)
            have D5 := (hb.cell (p := ⟨bo', oo' + g * 10 + 5, none⟩) hbl2).trans (hc' 5 _ rfl)
            have C6 := (hb.cell (p := ⟨bo, oo + g * 10 + 6, none⟩) hbl1).trans (hc 6 _ rfl)
            have D6 := (hb.cell (p := ⟨bo', oo' + g * 10 + 6, none⟩) hbl2).trans (hc' 6 _ rfl)
            have C7 := (hb.cell (p := ⟨bo, oo + g * 10 + 7, none⟩) hbl1).trans (hc 7 _ rfl)
            have D7 := (hb.cell (p := ⟨bo', oo' + g * 10 + 7, none⟩) hbl2).trans (hc' 7 _ rfl)
            have C8 := (hb.cell (p := ⟨bo, oo + g * 10 + 8, none⟩) hbl1).trans (hc 8 _ rfl)
            have D8 := (hb.cell (p := ⟨bo', oo' + g * 10 + 8, none⟩) hbl2).trans (hc' 8 _ rfl)
            have C9 := (hb.cell (p := ⟨bo, oo + g * 10 + 9, none⟩) hbl1).trans (hc 9 _ rfl)
            have D9 := (hb.cell (p := ⟨bo', oo' + g * 10 + 9, none⟩) hbl2).trans (hc' 9 _ rfl)
            rw [Nat.add_zero] at C0 D0
            have hcall := dsameOn_any (kp_onD hon (fun b hb' hl => ⟨hb', hb.drew.block b hl⟩)) (kp_onD hon' (fun b hb' hl => ⟨hb', hb.drew.block b hl⟩))
            have i1 : (g : Int) < (m : Int) := by omega
            have i2 : (0 : Int) ≤ (g : Int) := by omega
            have hmx := HMX.out
            clear hc hc' hon hon' hbl1 hbl2 hgt HO HO' HM
            go_wp2
            go_region_held (fun w' => w'.cell? ⟨P, 9, none⟩ = some (.slice (some ⟨bo, oo, none⟩) m p3) ∧ w'.cell? ⟨Q, 9, none⟩ = some (.slice (some ⟨bo', oo', none⟩) m q3) ∧ w'.cell? ⟨bo, oo + g * 10, none⟩ = some e0 ∧ w'.cell? ⟨bo, oo + g * 10 + 1, none⟩ = some e1 ∧ w'.cell? ⟨bo, oo + g * 10 + 2, none⟩ = some e2 ∧ w'.cell? ⟨bo, oo + g * 10 + 3, none⟩ = some e3 ∧ w'.cell? ⟨bo, oo + g * 10 + 4, none⟩ = some e4 ∧ w'.cell? ⟨bo, oo + g * 10 + 5, none⟩ = some e5 ∧ w'.cell? ⟨bo, oo + g * 10 + 6, none⟩ = some e6 ∧ w'.cell? ⟨bo, oo + g * 10 + 7, none⟩ = some e7 ∧ w'.cell? ⟨bo, oo + g * 10 + 8, none⟩ = some e8 ∧ w'.cell? ⟨bo, oo + g * 10 + 9, none⟩ = some e9 ∧ w'.cell? ⟨bo', oo' + g * 10, none⟩ = some f0 ∧ w'.cell? ⟨bo', oo' + g * 10 + 1, none⟩ = some f1 ∧ w'.cell? ⟨bo', oo' + g * 10 + 2, none⟩ = some f2 ∧ w'.cell? ⟨bo', oo' + g * 10 + 3, none⟩ = some f3 ∧ w'.cell? ⟨bo', oo' + g * 10 + 4, none⟩ = some f4 ∧ w'.cell? ⟨bo', oo' + g * 10 + 5, none⟩ = some f5 ∧ w'.cell? ⟨bo', oo' + g * 10 + 6, none⟩ = some f6 ∧ w'.cell? ⟨bo', oo' + g * 10 + 7, none⟩ = some f7 ∧ w'.cell? ⟨bo', oo' + g * 10 + 8, none⟩ = some f8 ∧ w'.cell? ⟨bo', oo' + g * 10 + 9, none⟩ = some f9)
              (first | exact ⟨y9, z9, C0, C1, C2, C3, C4, C5, C6, C7, C8, C9, D0, D1, D2, D3, D4, D5, D6, D7, D8, D9⟩ | exact ⟨kc _ _ y9, kc _ _ z9, kc _ _ C0, kc _ _ C1, kc _ _ C2, kc _ _ C3, kc _ _ C4, kc _ _ C5, kc _ _ C6, kc _ _ C7, kc _ _ C8, kc _ _ C9, kc _ _ D0, kc _ _ D1, kc _ _ D2, kc _ _ D3, kc _ _ D4, kc _ _ D5, kc _ _ D6, kc _ _ D7, kc _ _ D8, kc _ _ D9⟩ | go_keep)
              (first | (go_at_call 80; refine hcall.mono ?_; rintro r w1 ⟨rfl, b1⟩; have bw : Below wr.heap.size wr w1 := ((Below.refl _ wr).drew).trans b1; have kc : ∀ p u, wr.cell? p = some u → w1.cell? p = some u := fun p u hp => (by rw [bw.cell (World.block_lt_of_cell? wr _ hp)]; exact hp)))
            go_wp2
            go_roundw
            case rel => exact ⟨g + 1, hgl, by go_num, hX.on bw, hY.on bw, hb.trans (bw.mono hb.size)⟩
            case measure => simp [RowKit.intOf]; omega
          · have i1 : ¬ (g : Int) < (m : Int) := by omega
            go_wp2
            go_roundw
            case rel => exact ⟨j + 1, HJ.out, by go_num, hb⟩
            case measure => simp [RowKit.intOf]; omega
    · have i1 : ¬ (j : Int) < (n : Int) := by omega
      go_wp2
      go_ret
      exact ⟨rfl, hb⟩
theorem ss_any : ∀ (d : Nat), SsC d
  | 0 => ss_zero
  | d + 1 => ss_step d (ss_any d)
end Go.Proofs.YtccmmkhcacglhaaGreatDoor

/- The document's Same: true where both read one chart. -/
namespace Go.Proofs.YtccmmkhcacglhaaGreatDoor
open Go.RowKit Go.Lib
set_option linter.unusedSimpArgs false
set_option linter.unusedVariables false
attribute [local go_sem ↓] Go.wp_at_zero Go.wp_at_succ

theorem vars_cells {ok : Nat → Prop} {w : World} {l : List (List UInt8 × Int × Pl)} {a : Option Addr} {n cap : Nat} (h : RdK ok w 4 (rVarD ok w) l (.slice a n cap)) (j : Nat) (hj : j < l.length) : ∃ b off, a = some ⟨b, off, none⟩ ∧ b < w.heap.size ∧ ∀ i u, (varD l[j])[i]? = some u → w.cell? ⟨b, off + j * 4 + i, none⟩ = some u := by
  obtain ⟨a1, cap1, he, h1, h2, h3⟩ := h
  simp only [Value.slice.injEq] at he
  obtain ⟨rfl, rfl, rfl⟩ := he
  obtain ⟨b, off, cs, ha, _, hb, hl, hr, hc⟩ := h3 j hj
  have hr : cs = varD l[j] := hr
  subst hr
  exact ⟨b, off, ha, hb, hc⟩
set_option maxRecDepth 100000 in
set_option maxHeartbeats 8000000 in
theorem dsame_any {ok ok' : Nat → Prop} {w : World} {d : Nat} {c : ChD d} {v v' : Value} (h : RdD ok w d c v) (h' : RdD ok' w d c v') :
    Calls Tryz.prog 12 #[v, v'] w fun e w' => e = .returned (.bool true) ∧ Below w.heap.size w w' := by
  obtain ⟨sv, ss, rfl, hv, hs⟩ := h
  obtain ⟨sv', ss', rfl, hv', hs'⟩ := h'
  obtain ⟨a, cap, rfl, hlc, hcm⟩ := hv.form
  obtain ⟨a', cap', rfl, hlc', hcm'⟩ := hv'.form
  obtain ⟨p4, p6, rfl, _⟩ := hs.form
  obtain ⟨q4, q6, rfl, _⟩ := hs'.form
  unfold maxLen at hcm hcm'
  have HV : Hid (RdK ok w 4 (rVarD ok w) c.2.2.1 (.slice a c.2.2.1.length cap)) := hv
  have HV' : Hid (RdK ok' w 4 (rVarD ok' w) c.2.2.1 (.slice a' c.2.2.1.length cap')) := hv'
  have hst := fun w1 (b : Below w.heap.size w w1) => ss_any d ok ok' w1 c.2.2.2 _ _ (hs.stay (kp_stD d) (fun k hk hl => ⟨hk, b.block k hl⟩)) (hs'.stay (kp_stD d) (fun k hk hl => ⟨hk, b.block k hl⟩))
  obtain ⟨nv, hnv⟩ : ∃ nv, sD c.1.1 = .string nv := ⟨_, rfl⟩
  rw [hnv]
  obtain ⟨n, hn⟩ : ∃ n, c.2.2.1.length = n := ⟨_, rfl⟩
  obtain ⟨i, hi⟩ : ∃ n, c.2.2.2.length = n := ⟨_, rfl⟩
  rw [hn] at hlc hlc' ⊢
  rw [hi] at hst ⊢
  have HN : Hid (c.2.2.1.length = n) := hn
  obtain ⟨vn, hvn⟩ : ∃ x, c.2.1 = x := ⟨_, rfl⟩
  obtain ⟨ln, hln⟩ : ∃ x, c.1.2.1 = x := ⟨_, rfl⟩
  obtain ⟨co, hco⟩ : ∃ x, c.1.2.2 = x := ⟨_, rfl⟩
  rw [hvn, hln, hco]
  clear hv hv' hs hs' hnv hn hi hvn hln hco
  have hb0 := ((Below.refl w.heap.size w).alloc (Nat.le_refl _) (.cells #[.string nv, .int .i64 vn, .int .i64 ln, .int .i64 co, .slice a n cap, .slice p4 i p6] 35)).alloc (by simp) (.cells #[.string nv, .int .i64 vn, .int .i64 ln, .int .i64 co, .slice a' n cap', .slice q4 i q6] 35)
  have hA0 : Bn ((w.alloc (.cells #[.string nv, .int .i64 vn, .int .i64 ln, .int .i64 co, .slice a n cap, .slice p4 i p6] 35)).alloc (.cells #[.string nv, .int .i64 vn, .int .i64 ln, .int .i64 co, .slice a' n cap', .slice q4 i q6] 35)) w.heap.size [.string nv, .int .i64 vn, .int .i64 ln, .int .i64 co, .slice a n cap, .slice p4 i p6] := (Bn.new w [.string nv, .int .i64 vn, .int .i64 ln, .int .i64 co, .slice a n cap, .slice p4 i p6] 35 _ rfl).on ((Below.refl _ _).alloc (Nat.le_refl _) _)
  have hB0 : Bn ((w.alloc (.cells #[.string nv, .int .i64 vn, .int .i64 ln, .int .i64 co, .slice a n cap, .slice p4 i p6] 35)).alloc (.cells #[.string nv, .int .i64 vn, .int .i64 ln, .int .i64 co, .slice a' n cap', .slice q4 i q6] 35)) (w.heap.size + 1) [.string nv, .int .i64 vn, .int .i64 ln, .int .i64 co, .slice a' n cap', .slice q4 i q6] := Bn.new (w.alloc (.cells #[.string nv, .int .i64 vn, .int .i64 ln, .int .i64 co, .slice a n cap, .slice p4 i p6] 35)) [.string nv, .int .i64 vn, .int .i64 ln, .int .i64 co, .slice a' n cap', .slice q4 i q6] 35 _ (by simp)
  have hcall := hst _ hb0
  clear hst
  go_enter Tryz.func12, Tryz.ntmps12
  go_upto_region 1 with fail
  generalize (w.alloc (.cells #[.string nv, .int .i64 vn, .int .i64 ln, .int .i64 co, .slice a n cap, .slice p4 i p6] 35)).alloc (.cells #[.string nv, .int .i64 vn, .int .i64 ln, .int .i64 co, .slice a' n cap', .slice q4 i q6] 35) = w0 at *
  obtain ⟨p0, _⟩ := hA0 0 _ rfl
  obtain ⟨q0, _⟩ := hB0 0 _ rfl
  obtain ⟨p1, _⟩ := hA0 1 _ rfl
  obtain ⟨q1, _⟩ := hB0 1 _ rfl
  obtain ⟨p2, _⟩ := hA0 2 _ rfl
  obtain ⟨q2, _⟩ := hB0 2 _ rfl
  obtain ⟨p3, _⟩ := hA0 3 _ rfl
  obtain ⟨q3, _⟩ := hB0 3 _ rfl
  obtain ⟨pp4, _⟩ := hA0 4 _ rfl
  obtain ⟨qq4, _⟩ := hB0 4 _ rfl
  obtain ⟨p5, _⟩ := hA0 5 _ rfl
  obtain ⟨q5, _⟩ := hB0 5 _ rfl
  go_wp2_with (first
    | (go_at_call 38; refine hcall.mono ?_; rintro r w1 ⟨rfl, b1⟩; obtain ⟨r4, _⟩ := (hA0.on b1) 4 _ rfl; obtain ⟨s4, _⟩ := (hB0.on b1) 4 _ rfl))
  have hA1 := hA0.on b1
  have hB1 := hB0.on b1
  have hb1 := hb0.trans (b1.mono hb0.size)
  clear hcall p0 q0 p1 q1 p2 q2 p3 q3 pp4 qq4 p5 q5 r4 s4 hA0 hB0 hb0 b1
  go_loopw [45] (fun ix wr => ∃ (j : Nat), j ≤ n ∧ ix = .int .i64 (j : Int) ∧ Bn wr w.heap.size [.string nv, .int .i64 vn, .int .i64 ln, .int .i64 co, .slice a n cap, .slice p4 i p6] ∧ Bn wr (w.heap.size + 1) [.string nv, .int .i64 vn, .int .i64 ln, .int .i64 co, .slice a' n cap', .slice q4 i q6] ∧ Below w.heap.size w wr) (fun ix _ => n - (RowKit.intOf ix).toNat)
  case atStart => exact ⟨0, Nat.zero_le _, rfl, hA1, hB1, hb1⟩
  case round =>
    clear hA1 hB1 hb1
    obtain ⟨j, hj, rfl, hA, hB, hb⟩ := hrel
    obtain ⟨y4, _⟩ := hA 4 _ rfl
    obtain ⟨z4, _⟩ := hB 4 _ rfl
    by_cases hlt : j < n
    · have hjl : j < c.2.2.1.length := by rw [HN.out]; exact hlt
      obtain ⟨b, off, rfl, hbl, hc⟩ := vars_cells HV.out j hjl
      obtain ⟨b', off', rfl, hbl', hc'⟩ := vars_cells HV'.out j hjl
      obtain ⟨sn, sv, sl, sc, hsv⟩ : ∃ sn sv sl sc, varD c.2.2.1[j] = [.string sn, .int .i64 sv, .int .i64 sl, .int .i64 sc] := ⟨_, _, _, _, rfl⟩
      rw [hsv] at hc hc'
      have C0 := (hb.cell (p := ⟨b, off + j * 4 + 0, none⟩) hbl).trans (hc 0 _ rfl)
      have C1 := (hb.cell (p := ⟨b, off + j * 4 + 1, none⟩) hbl).trans (hc 1 _ rfl)
      have C2 := (hb.cell (p := ⟨b, off + j * 4 + 2, none⟩) hbl).trans (hc 2 _ rfl)
      have C3 := (hb.cell (p := ⟨b, off + j * 4 + 3, none⟩) hbl).trans (hc 3 _ rfl)
      have D0 := (hb.cell (p := ⟨b', off' + j * 4 + 0, none⟩) hbl').trans (hc' 0 _ rfl)
      have D1 := (hb.cell (p := ⟨b', off' + j * 4 + 1, none⟩) hbl').trans (hc' 1 _ rfl)
      have D2 := (hb.cell (p := ⟨b', off' + j * 4 + 2, none⟩) hbl').trans (hc' 2 _ rfl)
      have D3 := (hb.cell (p := ⟨b', off' + j * 4 + 3, none⟩) hbl').trans (hc' 3 _ rfl)
      rw [Nat.add_zero] at C0 D0
      have i1 : (j : Int) < (n : Int) := by omega
      have i2 : (0 : Int) ≤ (j : Int) := by omega
      clear hc hc' hsv hbl hbl' hjl HV HV' HN
      go_wp2
      go_region
      go_wp2
      go_roundw
      case rel => exact ⟨j + 1, hlt, by go_num, hA.drew, hB.drew, hb.drew⟩
      case measure => simp [RowKit.intOf]; omega
    · have i1 : ¬ (j : Int) < (n : Int) := by omega
      go_wp2
      go_ret
      exact ⟨rfl, hb⟩
end Go.Proofs.YtccmmkhcacglhaaGreatDoor

/- The walk of ChartReads. -/
namespace Go.Proofs.YtccmmkhcacglhaaGreatDoor
open Go.RowKit Go.Lib
set_option linter.unusedSimpArgs false
set_option linter.unusedVariables false
attribute [local go_sem ↓] Go.wp_at_zero Go.wp_at_succ

theorem rdC_form {ok : Nat → Prop} {w : World} {d : Nat} {c : ChG d} {v : Value} (h : RdC ok w d c v) : ∃ a b e f g h' i j k l, v = .agg #[.string a, .int .i64 b, .int .i64 e, .int .i64 f, .slice g h' i, .slice j k l] := by
  obtain ⟨sv, ss, rfl, h1, h2⟩ := h
  obtain ⟨a, cap, rfl, _⟩ := h1.form
  obtain ⟨a', cap', rfl, _⟩ := h2.form
  exact ⟨_, _, _, _, _, _, _, _, _, _, rfl⟩
theorem rdD_form {ok : Nat → Prop} {w : World} {d : Nat} {c : ChD d} {v : Value} (h : RdD ok w d c v) : ∃ a b e f g h' i j k l, v = .agg #[.string a, .int .i64 b, .int .i64 e, .int .i64 f, .slice g h' i, .slice j k l] := by
  obtain ⟨sv, ss, rfl, h1, h2⟩ := h
  obtain ⟨a, cap, rfl, _⟩ := h1.form
  obtain ⟨a', cap', rfl, _⟩ := h2.form
  exact ⟨_, _, _, _, _, _, _, _, _, _, rfl⟩
set_option maxRecDepth 100000 in
set_option maxHeartbeats 16000000 in
theorem chartReads_walk {w : World} (hT : Tabs w) (hE : Esy w) (s : ByteArray) (hs : s.size ≤ 140737488351232) : Calls Tryz.prog 3 #[.string s] w fun e w' => e = .returned (.bool true) ∧ Below w.heap.size w w' := by
  have h1 := awakeC w hE
  have h2 := fun w1 (b : Below w.heap.size w w1) => readP_any s w1 (hE.on b) hs
  have h3 := fun w1 (b : Below w.heap.size w w1) => dread_any s w1 (hT.below b (Nat.le_refl _)) hs
  obtain ⟨k1, k2, k3⟩ := read_ok (bl s)
  obtain ⟨⟨C, ⟨P1, P2⟩, E⟩, hR⟩ : ∃ x, readC (bl s) = x := ⟨_, rfl⟩
  simp only [hR] at h2 h3 k1 k2 k3
  clear hR hs
  have h4 := fun (ok : Nat → Prop) w1 v (h : RdC ok w1 7 C v) => ours_ch h k1 k2 k3
  have h5 := fun (ok ok' : Nat → Prop) w1 v v' (h : RdD ok w1 7 C v) (h' : RdD ok' w1 7 C v') => dsame_any h h'
  have HK := mkHid k1
  clear k1 k2 k3
  go_enter Tryz.func3, Tryz.ntmps3
  go_upto_region 3 with (first
    | (go_at_call 9; refine h1.mono ?_; rintro e w1 ⟨rfl, b1⟩))
  go_upto_region 4 with (first
    | (go_at_call 10; refine (h2 _ b1).mono ?_; rintro e w2 ⟨v2, rfl, hr2, b2⟩; obtain ⟨c0, c1, c2, c3, c4, c5, c6, c7, c8, c9, rfl⟩ := rdC_form hr2))
  have hb2 := b1.trans (b2.mono b1.size)
  have hal := ((Below.refl w2.heap.size w2).alloc (Nat.le_refl _) (.cells #[.string c0, .int .i64 c1, .int .i64 c2, .int .i64 c3, .slice c4 c5 c6, .slice c7 c8 c9] 28)).alloc (by simp) (.cells #[.int .i64 P1, .int .i64 P2] 24)
  have hA : Bn ((w2.alloc (.cells #[.string c0, .int .i64 c1, .int .i64 c2, .int .i64 c3, .slice c4 c5 c6, .slice c7 c8 c9] 28)).alloc (.cells #[.int .i64 P1, .int .i64 P2] 24)) w2.heap.size [.string c0, .int .i64 c1, .int .i64 c2, .int .i64 c3, .slice c4 c5 c6, .slice c7 c8 c9] := (Bn.new w2 [.string c0, .int .i64 c1, .int .i64 c2, .int .i64 c3, .slice c4 c5 c6, .slice c7 c8 c9] 28 _ rfl).on ((Below.refl _ _).alloc (Nat.le_refl _) _)
  have hP : Bn ((w2.alloc (.cells #[.string c0, .int .i64 c1, .int .i64 c2, .int .i64 c3, .slice c4 c5 c6, .slice c7 c8 c9] 28)).alloc (.cells #[.int .i64 P1, .int .i64 P2] 24)) (w2.heap.size + 1) [.int .i64 P1, .int .i64 P2] := Bn.new (w2.alloc (.cells #[.string c0, .int .i64 c1, .int .i64 c2, .int .i64 c3, .slice c4 c5 c6, .slice c7 c8 c9] 28)) [.int .i64 P1, .int .i64 P2] 24 _ (by simp)
  have hr3 := hr2.keep (fun b hb hl => ⟨hb, hal.block b hl⟩)
  have hb3 := hb2.trans (hal.mono hb2.size)
  clear hr2 b1 b2 hb2 hal h1 h2
  generalize (w2.alloc (.cells #[.string c0, .int .i64 c1, .int .i64 c2, .int .i64 c3, .slice c4 c5 c6, .slice c7 c8 c9] 28)).alloc (.cells #[.int .i64 P1, .int .i64 P2] 24) = w3 at *
  obtain ⟨XA, hXA⟩ : ∃ x, w2.heap.size = x := ⟨_, rfl⟩
  rw [hXA] at hA hP ⊢
  clear hXA w2
  go_upto_region 5 with (first
    | (go_at_call 11; refine (h3 _ hb3).mono ?_; rintro e w4 ⟨v4, rfl, hr4, b4⟩; obtain ⟨d0, d1, d2, d3, d4, d5, d6, d7, d8, d9, rfl⟩ := rdD_form hr4))
  have hb4 := hb3.trans (b4.mono hb3.size)
  have hal := ((Below.refl w4.heap.size w4).alloc (Nat.le_refl _) (.cells #[.string d0, .int .i64 d1, .int .i64 d2, .int .i64 d3, .slice d4 d5 d6, .slice d7 d8 d9] 35)).alloc (by simp) (.cells #[.int .i64 P1, .int .i64 P2] 24)
  have hB : Bn ((w4.alloc (.cells #[.string d0, .int .i64 d1, .int .i64 d2, .int .i64 d3, .slice d4 d5 d6, .slice d7 d8 d9] 35)).alloc (.cells #[.int .i64 P1, .int .i64 P2] 24)) w4.heap.size [.string d0, .int .i64 d1, .int .i64 d2, .int .i64 d3, .slice d4 d5 d6, .slice d7 d8 d9] := (Bn.new w4 [.string d0, .int .i64 d1, .int .i64 d2, .int .i64 d3, .slice d4 d5 d6, .slice d7 d8 d9] 35 _ rfl).on ((Below.refl _ _).alloc (Nat.le_refl _) _)
  have hQ : Bn ((w4.alloc (.cells #[.string d0, .int .i64 d1, .int .i64 d2, .int .i64 d3, .slice d4 d5 d6, .slice d7 d8 d9] 35)).alloc (.cells #[.int .i64 P1, .int .i64 P2] 24)) (w4.heap.size + 1) [.int .i64 P1, .int .i64 P2] := Bn.new (w4.alloc (.cells #[.string d0, .int .i64 d1, .int .i64 d2, .int .i64 d3, .slice d4 d5 d6, .slice d7 d8 d9] 35)) [.int .i64 P1, .int .i64 P2] 24 _ (by simp)
  have hr5 := hr4.keep (fun b hb hl => ⟨hb, hal.block b hl⟩)
  have hb5 := hb4.trans (hal.mono hb4.size)
  have hbw := b4.trans (hal.mono b4.size)
  have hr6 := hr3.keep (fun b hb hl => ⟨hb, hbw.block b hl⟩)
  have hA5 := hA.on hbw
  have hP5 := hP.on hbw
  clear hr3 hr4 b4 hb4 hal h3 hb3 hbw hA hP
  generalize (w4.alloc (.cells #[.string d0, .int .i64 d1, .int .i64 d2, .int .i64 d3, .slice d4 d5 d6, .slice d7 d8 d9] 35)).alloc (.cells #[.int .i64 P1, .int .i64 P2] 24) = w5 at *
  obtain ⟨XB, hXB⟩ : ∃ x, w4.heap.size = x := ⟨_, rfl⟩
  rw [hXB] at hB hQ ⊢
  clear hXB
  have hB0 : Below w5.heap.size w5 w5 := Below.refl _ _
  have lA := hA5.lt
  have lP := hP5.lt
  have lB := hB.lt
  have lQ := hQ.lt
  obtain ⟨a0, _⟩ := hA5 0 _ rfl
  obtain ⟨a1, _⟩ := hA5 1 _ rfl
  obtain ⟨a2, _⟩ := hA5 2 _ rfl
  obtain ⟨a3, _⟩ := hA5 3 _ rfl
  obtain ⟨a4, _⟩ := hA5 4 _ rfl
  obtain ⟨a5, _⟩ := hA5 5 _ rfl
  obtain ⟨b0, _⟩ := hB 0 _ rfl
  obtain ⟨b1, _⟩ := hB 1 _ rfl
  obtain ⟨b2, _⟩ := hB 2 _ rfl
  obtain ⟨b3, _⟩ := hB 3 _ rfl
  obtain ⟨b4, _⟩ := hB 4 _ rfl
  obtain ⟨b5, _⟩ := hB 5 _ rfl
  obtain ⟨p0, _⟩ := hP5 0 _ rfl
  obtain ⟨p1, _⟩ := hP5 1 _ rfl
  obtain ⟨q0, _⟩ := hQ 0 _ rfl
  obtain ⟨q1, _⟩ := hQ 1 _ rfl
  have h6 : ∀ w1, Below w5.heap.size w5 w1 → Calls Tryz.prog 13 #[.agg #[.string c0, .int .i64 c1, .int .i64 c2, .int .i64 c3, .slice c4 c5 c6, .slice c7 c8 c9]] w1 fun e w' => ∃ e0 e1 e2 e3 e4 e5 e6 e7 e8 e9, e = .returned (.agg #[.string e0, .int .i64 e1, .int .i64 e2, .int .i64 e3, .slice e4 e5 e6, .slice e7 e8 e9]) ∧ RdD (fun b => w1.heap.size ≤ b) w' 7 C (.agg #[.string e0, .int .i64 e1, .int .i64 e2, .int .i64 e3, .slice e4 e5 e6, .slice e7 e8 e9]) ∧ Below w1.heap.size w1 w' := fun w1 bb => (h4 _ w1 _ (hr6.keep (ok' := fun _ => True) (fun b hb hl => ⟨trivial, bb.block b hl⟩))).mono (fun e w' hh => by
    obtain ⟨u, h1, h2, h3⟩ := hh
    obtain ⟨e0, e1, e2, e3, e4, e5, e6, e7, e8, e9, rfl⟩ := rdD_form h2
    exact ⟨e0, e1, e2, e3, e4, e5, e6, e7, e8, e9, h1, h2, h3⟩)
  have h7 : ∀ (ok : Nat → Prop) w1 v, Below w5.heap.size w5 w1 → RdD ok w1 7 C v → Calls Tryz.prog 12 #[v, .agg #[.string d0, .int .i64 d1, .int .i64 d2, .int .i64 d3, .slice d4 d5 d6, .slice d7 d8 d9]] w1 fun e w' => e = .returned (.bool true) ∧ Below w1.heap.size w1 w' := fun ok w1 v bb hv => h5 ok (fun _ => True) w1 v _ hv (hr5.keep (fun b hb hl => ⟨trivial, bb.block b hl⟩))
  clear h4 h5 hr5 hr6 HK hA5 hP5 hB hQ hT hE
  go_region_held_law (fun w' => w'.cell? ⟨XA, 0, none⟩ = some (.string c0) ∧ w'.cell? ⟨XA, 1, none⟩ = some (.int .i64 c1) ∧ w'.cell? ⟨XA, 2, none⟩ = some (.int .i64 c2) ∧ w'.cell? ⟨XA, 3, none⟩ = some (.int .i64 c3) ∧ w'.cell? ⟨XA, 4, none⟩ = some (.slice c4 c5 c6) ∧ w'.cell? ⟨XA, 5, none⟩ = some (.slice c7 c8 c9) ∧ w'.cell? ⟨XB, 0, none⟩ = some (.string d0) ∧ w'.cell? ⟨XB, 1, none⟩ = some (.int .i64 d1) ∧ w'.cell? ⟨XB, 2, none⟩ = some (.int .i64 d2) ∧ w'.cell? ⟨XB, 3, none⟩ = some (.int .i64 d3) ∧ w'.cell? ⟨XB, 4, none⟩ = some (.slice d4 d5 d6) ∧ w'.cell? ⟨XB, 5, none⟩ = some (.slice d7 d8 d9) ∧ w'.cell? ⟨XA + 1, 0, none⟩ = some (.int .i64 P1) ∧ w'.cell? ⟨XA + 1, 1, none⟩ = some (.int .i64 P2) ∧ w'.cell? ⟨XB + 1, 0, none⟩ = some (.int .i64 P1) ∧ w'.cell? ⟨XB + 1, 1, none⟩ = some (.int .i64 P2))
    (exact ⟨(hB0.cell (p := ⟨XA, 0, none⟩) lA).trans a0, (hB0.cell (p := ⟨XA, 1, none⟩) lA).trans a1, (hB0.cell (p := ⟨XA, 2, none⟩) lA).trans a2, (hB0.cell (p := ⟨XA, 3, none⟩) lA).trans a3, (hB0.cell (p := ⟨XA, 4, none⟩) lA).trans a4, (hB0.cell (p := ⟨XA, 5, none⟩) lA).trans a5, (hB0.cell (p := ⟨XB, 0, none⟩) lB).trans b0, (hB0.cell (p := ⟨XB, 1, none⟩) lB).trans b1, (hB0.cell (p := ⟨XB, 2, none⟩) lB).trans b2, (hB0.cell (p := ⟨XB, 3, none⟩) lB).trans b3, (hB0.cell (p := ⟨XB, 4, none⟩) lB).trans b4, (hB0.cell (p := ⟨XB, 5, none⟩) lB).trans b5, (hB0.cell (p := ⟨XA + 1, 0, none⟩) lP).trans p0, (hB0.cell (p := ⟨XA + 1, 1, none⟩) lP).trans p1, (hB0.cell (p := ⟨XB + 1, 0, none⟩) lQ).trans q0, (hB0.cell (p := ⟨XB + 1, 1, none⟩) lQ).trans q1⟩)
    (first
      | (go_at_call 13; (first | (with_reducible refine (h6 _ hB0).mono ?_) | (with_reducible refine (h6 _ hB0.drew).mono ?_)); rintro e w6 ⟨e0, e1, e2, e3, e4, e5, e6, e7, e8, e9, rfl, hr7, bb⟩; (first | have hB0 := Below.nxd hB0 bb | have hB0 := Below.nx hB0 bb))
      | (go_at_call 12; (first | (with_reducible refine (h7 _ _ _ hB0 hr7).mono ?_) | (with_reducible refine (h7 _ _ _ hB0.drew hr7).mono ?_)); rintro e w7 ⟨rfl, bb⟩; (first | have hB0 := Below.nxd hB0 bb | have hB0 := Below.nx hB0 bb))
      | fail)
  all_goals (
    go_wp2
    go_ret
    exact ⟨rfl, hb5.trans (hB0.mono hb5.size)⟩)
end Go.Proofs.YtccmmkhcacglhaaGreatDoor
