import Derived.Test.YtccmmkhcacglhaaGreatDoorWkb04
import Derived.Test.YtccmmkhcacglhaaGreatDoorWkc18
import Derived.Deep.LoopGhost
import Derived.Test.YtccmmkhcacglhaaGreatDoorRows
import Derived.Test.YtccmmkhcacglhaaGreatDoorWkc02
import Derived.Lib.SlicesCompact
import Derived.Sort.Walk0
import Derived.Shelf.Sort.Plain
import Derived.Shelf.Slices.In.SortNone
import Derived.Shelf.Slices.CompactS
import Derived.Test.YtccmmkhcacglhaaGreatDoorWkc17
import Derived.Test.YtccmmkhcacglhaaGreatDoorWkc10
import Derived.Test.YtccmmkhcacglhaaGreatDoorWkc06
import Derived.Test.YtccmmkhcacglhaaGreatDoorWkc01
import Derived.Test.YtccmmkhcacglhaaGreatDoorWkc07
import Derived.Sort.OwnSorted
import Derived.Lib.OwnBridge

/- The program's Same of states alone, and of variables. -/
namespace Go.Proofs.YtccmmkhcacglhaaGreatDoor
open Go.RowKit Go.Lib
set_option linter.unusedSimpArgs false
set_option linter.unusedVariables false
attribute [local go_sem ↓] Go.wp_at_zero Go.wp_at_succ

set_option maxRecDepth 100000 in
set_option maxHeartbeats 8000000 in
theorem salo2 (sn : ByteArray) (sl sc : Int) (sb se : Bool) (sd su : ByteArray) (sw sr : Int) (p1 q1 : Option Addr) (m p3 q3 : Nat) (p4 : Option Addr) (ni p6 : Nat) (q4 : Option Addr) (nj q6 : Nat) (w : World) (hq : ∀ w1, Below w.heap.size w w1 → Calls Tryz.prog 84 #[.slice p1 m p3, .slice q1 m q3, .func (.func 85) #[] #[]] w1 fun e w' => e = .returned (.bool true) ∧ Below w1.heap.size w1 w') : Calls Tryz.prog 44 #[.agg #[.string sn, .int .i64 sl, .int .i64 sc, .bool sb, .bool se, .string sd, .string su, .int .i64 sw, .int .i64 sr, .slice p1 m p3, .slice p4 ni p6], .agg #[.string sn, .int .i64 sl, .int .i64 sc, .bool sb, .bool se, .string sd, .string su, .int .i64 sw, .int .i64 sr, .slice q1 m q3, .slice q4 nj q6]] w fun e w' => e = .returned (.bool true) ∧ Below w.heap.size w w' := by
  have hal : Below w.heap.size w ((w.alloc (.cells #[.string sn, .int .i64 sl, .int .i64 sc, .bool sb, .bool se, .string sd, .string su, .int .i64 sw, .int .i64 sr, .slice p1 m p3, .slice p4 ni p6] 52)).alloc (.cells #[.string sn, .int .i64 sl, .int .i64 sc, .bool sb, .bool se, .string sd, .string su, .int .i64 sw, .int .i64 sr, .slice q1 m q3, .slice q4 nj q6] 52)) := ((Below.refl w.heap.size w).alloc (Nat.le_refl _) _).alloc (by simp) _
  have hX : Bn ((w.alloc (.cells #[.string sn, .int .i64 sl, .int .i64 sc, .bool sb, .bool se, .string sd, .string su, .int .i64 sw, .int .i64 sr, .slice p1 m p3, .slice p4 ni p6] 52)).alloc (.cells #[.string sn, .int .i64 sl, .int .i64 sc, .bool sb, .bool se, .string sd, .string su, .int .i64 sw, .int .i64 sr, .slice q1 m q3, .slice q4 nj q6] 52)) w.heap.size [.string sn, .int .i64 sl, .int .i64 sc, .bool sb, .bool se, .string sd, .string su, .int .i64 sw, .int .i64 sr, .slice p1 m p3, .slice p4 ni p6] := (Bn.new w [.string sn, .int .i64 sl, .int .i64 sc, .bool sb, .bool se, .string sd, .string su, .int .i64 sw, .int .i64 sr, .slice p1 m p3, .slice p4 ni p6] 52 _ rfl).on ((Below.refl _ _).alloc (Nat.le_refl _) _)
  have hY : Bn ((w.alloc (.cells #[.string sn, .int .i64 sl, .int .i64 sc, .bool sb, .bool se, .string sd, .string su, .int .i64 sw, .int .i64 sr, .slice p1 m p3, .slice p4 ni p6] 52)).alloc (.cells #[.string sn, .int .i64 sl, .int .i64 sc, .bool sb, .bool se, .string sd, .string su, .int .i64 sw, .int .i64 sr, .slice q1 m q3, .slice q4 nj q6] 52)) (w.heap.size + 1) [.string sn, .int .i64 sl, .int .i64 sc, .bool sb, .bool se, .string sd, .string su, .int .i64 sw, .int .i64 sr, .slice q1 m q3, .slice q4 nj q6] := Bn.new (w.alloc (.cells #[.string sn, .int .i64 sl, .int .i64 sc, .bool sb, .bool se, .string sd, .string su, .int .i64 sw, .int .i64 sr, .slice p1 m p3, .slice p4 ni p6] 52)) [.string sn, .int .i64 sl, .int .i64 sc, .bool sb, .bool se, .string sd, .string su, .int .i64 sw, .int .i64 sr, .slice q1 m q3, .slice q4 nj q6] 52 _ (by simp)
  go_enter Tryz.func44, Tryz.ntmps44
  go_upto_region 1 with fail
  generalize ((w.alloc (.cells #[.string sn, .int .i64 sl, .int .i64 sc, .bool sb, .bool se, .string sd, .string su, .int .i64 sw, .int .i64 sr, .slice p1 m p3, .slice p4 ni p6] 52)).alloc (.cells #[.string sn, .int .i64 sl, .int .i64 sc, .bool sb, .bool se, .string sd, .string su, .int .i64 sw, .int .i64 sr, .slice q1 m q3, .slice q4 nj q6] 52)) = wx at *
  have hB : Below wx.heap.size wx wx := Below.refl _ _
  obtain ⟨x0, _⟩ := hX 0 _ rfl
  obtain ⟨y0, _⟩ := hY 0 _ rfl
  obtain ⟨x1, _⟩ := hX 1 _ rfl
  obtain ⟨y1, _⟩ := hY 1 _ rfl
  obtain ⟨x2, _⟩ := hX 2 _ rfl
  obtain ⟨y2, _⟩ := hY 2 _ rfl
  obtain ⟨x3, _⟩ := hX 3 _ rfl
  obtain ⟨y3, _⟩ := hY 3 _ rfl
  obtain ⟨x4, _⟩ := hX 4 _ rfl
  obtain ⟨y4, _⟩ := hY 4 _ rfl
  obtain ⟨x5, _⟩ := hX 5 _ rfl
  obtain ⟨y5, _⟩ := hY 5 _ rfl
  obtain ⟨x6, _⟩ := hX 6 _ rfl
  obtain ⟨y6, _⟩ := hY 6 _ rfl
  obtain ⟨x7, _⟩ := hX 7 _ rfl
  obtain ⟨y7, _⟩ := hY 7 _ rfl
  obtain ⟨x8, _⟩ := hX 8 _ rfl
  obtain ⟨y8, _⟩ := hY 8 _ rfl
  obtain ⟨x9, _⟩ := hX 9 _ rfl
  obtain ⟨y9, _⟩ := hY 9 _ rfl
  obtain ⟨x10, _⟩ := hX 10 _ rfl
  obtain ⟨y10, _⟩ := hY 10 _ rfl
  go_wp2_with (first
    | (go_at_call 84; refine (hq _ (hal.trans (hB.mono hal.size))).mono ?_; rintro e w1 ⟨rfl, b1⟩; have hB := Below.nx hB b1; skip)
    | fail)
  go_ret
  exact ⟨rfl, hal.trans (hB.mono hal.size)⟩
set_option maxRecDepth 100000 in
set_option maxHeartbeats 8000000 in
theorem eqfSt_any {d : Nat} {ok ok' : Nat → Prop} {w : World} {l : List (St (d + 1))} {v v' : Value} (h : RdK ok w 11 (rSt (d + 1) ok w) l v) (h' : RdK ok' w 11 (rSt (d + 1) ok' w) l v') (hok : ∀ s ∈ l, HdOk s.1) :
    Calls Tryz.prog 43 #[v, v', .func (.func 44) #[] #[]] w fun e w' => e = .returned (.bool true) ∧ Below w.heap.size w w' := by
  obtain ⟨a, cap, rfl, hlc, hcm⟩ := h.form
  obtain ⟨a', cap', rfl, hlc', hcm'⟩ := h'.form
  unfold maxLen at hcm hcm'
  have HC := mkHid h
  have HC' := mkHid h'
  have HK := mkHid hok
  obtain ⟨n, hn⟩ : ∃ n, l.length = n := ⟨_, rfl⟩
  rw [hn] at hlc hlc' ⊢
  have HN : Hid (l.length = n) := hn
  clear h h' hok hn
  go_enter Tryz.func43, Tryz.ntmps43
  go_wp2
  go_loopw [17] (fun ix wr => ∃ (i : Nat), i ≤ n ∧ ix = .int .i64 (i : Int) ∧ Below w.heap.size w wr) (fun ix _ => n - (RowKit.intOf ix).toNat)
  case atStart => exact ⟨0, Nat.zero_le _, rfl, Below.refl _ _⟩
  case round =>
    obtain ⟨i, hi, rfl, hb⟩ := hrel
    by_cases hlt : i < n
    · have hil : i < l.length := by rw [HN.out]; exact hlt
      obtain ⟨b, off, p1, p3, p4, p6, rfl, hbl, hOn, hIn, hc⟩ := stQ_at HC.out i hil
      obtain ⟨b', off', q1, q3, q4, q6, rfl, hbl', hOn', hIn', hc'⟩ := stQ_at HC'.out i hil
      have hko := HK.out _ (List.getElem_mem hil)
      obtain ⟨t, ht⟩ : ∃ t, l[i] = t := ⟨_, rfl⟩
      rw [ht] at hOn hIn hc hko hOn' hIn' hc'
      obtain ⟨m, hm⟩ : ∃ m, t.1.2.2.2.2.length = m := ⟨_, rfl⟩
      obtain ⟨ni, hni⟩ : ∃ m, t.2.length = m := ⟨_, rfl⟩
      rw [hm] at hOn hc hOn' hc'
      rw [hni] at hIn hc hIn' hc'
      obtain ⟨sn, sl, sc, sb, se, sd, su, sw, sr, hsv⟩ : ∃ sn sl sc sb se sd su sw sr, hdV t.1 = fun so si => [.string sn, .int .i64 sl, .int .i64 sc, .bool sb, .bool se, .string sd, .string su, .int .i64 sw, .int .i64 sr, so, si] := ⟨_, _, _, _, _, _, _, _, _, rfl⟩
      rw [hsv] at hc hc'
      have HON := mkHid hOn
      have HON' := mkHid hOn'
      have HKO := mkHid hko
      clear ht hm hni hsv hOn hIn hOn' hIn' hko
      have i1 : (i : Int) < (n : Int) := by omega
      have i2 : (0 : Int) ≤ (i : Int) := by omega
      have C0 := (hb.cell (p := ⟨b, off + i * 11 + 0, none⟩) hbl).trans (hc 0 _ rfl)
      have D0 := (hb.cell (p := ⟨b', off' + i * 11 + 0, none⟩) hbl').trans (hc' 0 _ rfl)
      have C1 := (hb.cell (p := ⟨b, off + i * 11 + 1, none⟩) hbl).trans (hc 1 _ rfl)
      have D1 := (hb.cell (p := ⟨b', off' + i * 11 + 1, none⟩) hbl').trans (hc' 1 _ rfl)
      have C2 := (hb.cell (p := ⟨b, off + i * 11 + 2, none⟩) hbl).trans (hc 2 _ rfl)
      have D2 := (hb.cell (p := ⟨b', off' + i * 11 + 2, none⟩) hbl').trans (hc' 2 _ rfl)
      have C3 := (hb.cell (p := ⟨b, off + i * 11 + 3, none⟩) hbl).trans (hc 3 _ rfl)
      have D3 := (hb.cell (p := ⟨b', off' + i * 11 + 3, none⟩) hbl').trans (hc' 3 _ rfl)
      have C4 := (hb.cell (p := ⟨b, off + i * 11 + 4, none⟩) hbl).trans (hc 4 _ rfl)
      have D4 := (hb.cell (p := ⟨b', off' + i * 11 + 4, none⟩) hbl').trans (hc' 4 _ rfl)
      have C5 := (hb.cell (p := ⟨b, off + i * 11 + 5, none⟩) hbl).trans (hc 5 _ rfl)
      have D5 := (hb.cell (p := ⟨b', off' + i * 11 + 5, none⟩) hbl').trans (hc' 5 _ rfl)
      have C6 := (hb.cell (p := ⟨b, off + i * 11 + 6, none⟩) hbl).trans (hc 6 _ rfl)
      have D6 := (hb.cell (p := ⟨b', off' + i * 11 + 6, none⟩) hbl').trans (hc' 6 _ rfl)
      have C7 := (hb.cell (p := ⟨b, off + i * 11 + 7, none⟩) hbl).trans (hc 7 _ rfl)
      have D7 := (hb.cell (p := ⟨b', off' + i * 11 + 7, none⟩) hbl').trans (hc' 7 _ rfl)
      have C8 := (hb.cell (p := ⟨b, off + i * 11 + 8, none⟩) hbl).trans (hc 8 _ rfl)
      have D8 := (hb.cell (p := ⟨b', off' + i * 11 + 8, none⟩) hbl').trans (hc' 8 _ rfl)
      have C9 := (hb.cell (p := ⟨b, off + i * 11 + 9, none⟩) hbl).trans (hc 9 _ rfl)
      have D9 := (hb.cell (p := ⟨b', off' + i * 11 + 9, none⟩) hbl').trans (hc' 9 _ rfl)
      have C10 := (hb.cell (p := ⟨b, off + i * 11 + 10, none⟩) hbl).trans (hc 10 _ rfl)
      have D10 := (hb.cell (p := ⟨b', off' + i * 11 + 10, none⟩) hbl').trans (hc' 10 _ rfl)
      clear hc hc'
      have hal : Below wr.heap.size wr ((wr.alloc (.cells #[.string sn, .int .i64 sl, .int .i64 sc, .bool sb, .bool se, .string sd, .string su, .int .i64 sw, .int .i64 sr, .slice p1 m p3, .slice p4 ni p6] 52)).alloc (.cells #[.string sn, .int .i64 sl, .int .i64 sc, .bool sb, .bool se, .string sd, .string su, .int .i64 sw, .int .i64 sr, .slice q1 m q3, .slice q4 ni q6] 52)) := ((Below.refl _ _).alloc (Nat.le_refl _) _).alloc (by simp) _
      have hX : Bn ((wr.alloc (.cells #[.string sn, .int .i64 sl, .int .i64 sc, .bool sb, .bool se, .string sd, .string su, .int .i64 sw, .int .i64 sr, .slice p1 m p3, .slice p4 ni p6] 52)).alloc (.cells #[.string sn, .int .i64 sl, .int .i64 sc, .bool sb, .bool se, .string sd, .string su, .int .i64 sw, .int .i64 sr, .slice q1 m q3, .slice q4 ni q6] 52)) wr.heap.size [.string sn, .int .i64 sl, .int .i64 sc, .bool sb, .bool se, .string sd, .string su, .int .i64 sw, .int .i64 sr, .slice p1 m p3, .slice p4 ni p6] := (Bn.new wr [.string sn, .int .i64 sl, .int .i64 sc, .bool sb, .bool se, .string sd, .string su, .int .i64 sw, .int .i64 sr, .slice p1 m p3, .slice p4 ni p6] 52 _ rfl).on ((Below.refl _ _).alloc (Nat.le_refl _) _)
      have hY : Bn ((wr.alloc (.cells #[.string sn, .int .i64 sl, .int .i64 sc, .bool sb, .bool se, .string sd, .string su, .int .i64 sw, .int .i64 sr, .slice p1 m p3, .slice p4 ni p6] 52)).alloc (.cells #[.string sn, .int .i64 sl, .int .i64 sc, .bool sb, .bool se, .string sd, .string su, .int .i64 sw, .int .i64 sr, .slice q1 m q3, .slice q4 ni q6] 52)) (wr.heap.size + 1) [.string sn, .int .i64 sl, .int .i64 sc, .bool sb, .bool se, .string sd, .string su, .int .i64 sw, .int .i64 sr, .slice q1 m q3, .slice q4 ni q6] := Bn.new (wr.alloc (.cells #[.string sn, .int .i64 sl, .int .i64 sc, .bool sb, .bool se, .string sd, .string su, .int .i64 sw, .int .i64 sr, .slice p1 m p3, .slice p4 ni p6] 52)) [.string sn, .int .i64 sl, .int .i64 sc, .bool sb, .bool se, .string sd, .string su, .int .i64 sw, .int .i64 sr, .slice q1 m q3, .slice q4 ni q6] 52 _ (by simp)
      have hal1 := (Below.refl wr.heap.size wr).alloc (Nat.le_refl _) (.cells #[.string sn, .int .i64 sl, .int .i64 sc, .bool sb, .bool se, .string sd, .string su, .int .i64 sw, .int .i64 sr, .slice p1 m p3, .slice p4 ni p6] 52)
      have E0 := (hal1.cell (p := ⟨b', off' + i * 11 + 0, none⟩) (Nat.lt_of_lt_of_le hbl' hb.size)).trans D0
      have E1 := (hal1.cell (p := ⟨b', off' + i * 11 + 1, none⟩) (Nat.lt_of_lt_of_le hbl' hb.size)).trans D1
      have E2 := (hal1.cell (p := ⟨b', off' + i * 11 + 2, none⟩) (Nat.lt_of_lt_of_le hbl' hb.size)).trans D2
      have E3 := (hal1.cell (p := ⟨b', off' + i * 11 + 3, none⟩) (Nat.lt_of_lt_of_le hbl' hb.size)).trans D3
      have E4 := (hal1.cell (p := ⟨b', off' + i * 11 + 4, none⟩) (Nat.lt_of_lt_of_le hbl' hb.size)).trans D4
      have E5 := (hal1.cell (p := ⟨b', off' + i * 11 + 5, none⟩) (Nat.lt_of_lt_of_le hbl' hb.size)).trans D5
      have E6 := (hal1.cell (p := ⟨b', off' + i * 11 + 6, none⟩) (Nat.lt_of_lt_of_le hbl' hb.size)).trans D6
      have E7 := (hal1.cell (p := ⟨b', off' + i * 11 + 7, none⟩) (Nat.lt_of_lt_of_le hbl' hb.size)).trans D7
      have E8 := (hal1.cell (p := ⟨b', off' + i * 11 + 8, none⟩) (Nat.lt_of_lt_of_le hbl' hb.size)).trans D8
      have E9 := (hal1.cell (p := ⟨b', off' + i * 11 + 9, none⟩) (Nat.lt_of_lt_of_le hbl' hb.size)).trans D9
      have E10 := (hal1.cell (p := ⟨b', off' + i * 11 + 10, none⟩) (Nat.lt_of_lt_of_le hbl' hb.size)).trans D10
      rw [Nat.add_zero] at E0 C0
      have hbx := hb.trans (hal.mono hb.size)
      have hcall : ∀ w1, Below w.heap.size w w1 → Calls Tryz.prog 44 #[.agg #[.string sn, .int .i64 sl, .int .i64 sc, .bool sb, .bool se, .string sd, .string su, .int .i64 sw, .int .i64 sr, .slice p1 m p3, .slice p4 ni p6], .agg #[.string sn, .int .i64 sl, .int .i64 sc, .bool sb, .bool se, .string sd, .string su, .int .i64 sw, .int .i64 sr, .slice q1 m q3, .slice q4 ni q6]] w1 fun e w' => e = .returned (.bool true) ∧ Below w1.heap.size w1 w' := fun w1 b1 => salo2 sn sl sc sb se sd su sw sr p1 q1 m p3 q3 p4 ni p6 q4 ni q6 w1 (fun w2 b2 => eqfOn_any (HON.out.stay kp_on (ok' := ok) (fun b hb hl => ⟨hb, ((b2.block b (Nat.lt_of_lt_of_le hl b1.size)).trans (b1.block b hl))⟩)) (HON'.out.stay kp_on (ok' := ok') (fun b hb hl => ⟨hb, ((b2.block b (Nat.lt_of_lt_of_le hl b1.size)).trans (b1.block b hl))⟩)) HKO.out.2.2.2.2)
      go_upto_region 7 with fail
      clear C0 D0 E0 C1 D1 E1 C2 D2 E2 C3 D3 E3 C4 D4 E4 C5 D5 E5 C6 D6 E6 C7 D7 E7 C8 D8 E8 C9 D9 E9 C10 D10 E10 hal1
      generalize ((wr.alloc (.cells #[.string sn, .int .i64 sl, .int .i64 sc, .bool sb, .bool se, .string sd, .string su, .int .i64 sw, .int .i64 sr, .slice p1 m p3, .slice p4 ni p6] 52)).alloc (.cells #[.string sn, .int .i64 sl, .int .i64 sc, .bool sb, .bool se, .string sd, .string su, .int .i64 sw, .int .i64 sr, .slice q1 m q3, .slice q4 ni q6] 52)) = wx at *
      obtain ⟨x0, _⟩ := hX 0 _ rfl
      obtain ⟨y0, _⟩ := hY 0 _ rfl
      obtain ⟨x1, _⟩ := hX 1 _ rfl
      obtain ⟨y1, _⟩ := hY 1 _ rfl
      obtain ⟨x2, _⟩ := hX 2 _ rfl
      obtain ⟨y2, _⟩ := hY 2 _ rfl
      obtain ⟨x3, _⟩ := hX 3 _ rfl
      obtain ⟨y3, _⟩ := hY 3 _ rfl
      obtain ⟨x4, _⟩ := hX 4 _ rfl
      obtain ⟨y4, _⟩ := hY 4 _ rfl
      obtain ⟨x5, _⟩ := hX 5 _ rfl
      obtain ⟨y5, _⟩ := hY 5 _ rfl
      obtain ⟨x6, _⟩ := hX 6 _ rfl
      obtain ⟨y6, _⟩ := hY 6 _ rfl
      obtain ⟨x7, _⟩ := hX 7 _ rfl
      obtain ⟨y7, _⟩ := hY 7 _ rfl
      obtain ⟨x8, _⟩ := hX 8 _ rfl
      obtain ⟨y8, _⟩ := hY 8 _ rfl
      obtain ⟨x9, _⟩ := hX 9 _ rfl
      obtain ⟨y9, _⟩ := hY 9 _ rfl
      obtain ⟨x10, _⟩ := hX 10 _ rfl
      obtain ⟨y10, _⟩ := hY 10 _ rfl
      go_wp2_with (first
        | (go_at_call 44; refine (hcall _ hbx).mono ?_; rintro e w1 ⟨rfl, b1⟩)
        | fail)
      have hb2 := hbx.trans (b1.mono hbx.size)
      go_wp2
      go_roundw
      case rel => exact ⟨i + 1, hlt, by go_num, hb2⟩
      case measure => simp [RowKit.intOf]; omega
    · have i1 : ¬ (i : Int) < (n : Int) := by omega
      go_wp2
      go_ret
      exact ⟨rfl, hb⟩
set_option maxRecDepth 100000 in
set_option maxHeartbeats 8000000 in
theorem eqVar_any {ok ok' : Nat → Prop} {w : World} {l : List (List UInt8 × Int × Pl)} {v v' : Value} (h : RdK ok w 4 (rVar ok w) l v) (h' : RdK ok' w 4 (rVar ok' w) l v') :
    Calls Tryz.prog 42 #[v, v'] w fun e w' => e = .returned (.bool true) ∧ Below w.heap.size w w' := by
  obtain ⟨a, cap, rfl, hlc, hcm⟩ := h.form
  obtain ⟨a', cap', rfl, hlc', hcm'⟩ := h'.form
  unfold maxLen at hcm hcm'
  have HC := mkHid h
  have HC' := mkHid h'
  obtain ⟨n, hn⟩ : ∃ n, l.length = n := ⟨_, rfl⟩
  rw [hn] at hlc hlc' ⊢
  have HN : Hid (l.length = n) := hn
  clear h h' hn
  go_enter Tryz.func42, Tryz.ntmps42
  go_wp2
  go_loopw [13] (fun ix wr => ∃ (i : Nat), i ≤ n ∧ ix = .int .i64 (i : Int) ∧ Below w.heap.size w wr) (fun ix _ => n - (RowKit.intOf ix).toNat)
  case atStart => exact ⟨0, Nat.zero_le _, rfl, Below.refl _ _⟩
  case round =>
    obtain ⟨i, hi, rfl, hb⟩ := hrel
    by_cases hlt : i < n
    · have hil : i < l.length := by rw [HN.out]; exact hlt
      obtain ⟨b, off, rfl, hbl, hc⟩ := varQ_at HC.out i hil
      obtain ⟨b', off', rfl, hbl', hc'⟩ := varQ_at HC'.out i hil
      obtain ⟨q, hq⟩ : ∃ q, l[i] = q := ⟨_, rfl⟩
      rw [hq] at hc hc'
      obtain ⟨nm, x, pl, pc, hsv⟩ : ∃ nm x pl pc, varV q = [.string nm, .int .i64 x, .int .i64 pl, .int .i64 pc] := ⟨_, _, _, _, rfl⟩
      rw [hsv] at hc hc'
      clear hq hsv
      have i1 : (i : Int) < (n : Int) := by omega
      have i2 : (0 : Int) ≤ (i : Int) := by omega
      have C0 := (hb.cell (p := ⟨b, off + i * 4 + 0, none⟩) hbl).trans (hc 0 _ rfl)
      have D0 := (hb.cell (p := ⟨b', off' + i * 4 + 0, none⟩) hbl').trans (hc' 0 _ rfl)
      have C1 := (hb.cell (p := ⟨b, off + i * 4 + 1, none⟩) hbl).trans (hc 1 _ rfl)
      have D1 := (hb.cell (p := ⟨b', off' + i * 4 + 1, none⟩) hbl').trans (hc' 1 _ rfl)
      have C2 := (hb.cell (p := ⟨b, off + i * 4 + 2, none⟩) hbl).trans (hc 2 _ rfl)
      have D2 := (hb.cell (p := ⟨b', off' + i * 4 + 2, none⟩) hbl').trans (hc' 2 _ rfl)
      have C3 := (hb.cell (p := ⟨b, off + i * 4 + 3, none⟩) hbl).trans (hc 3 _ rfl)
      have D3 := (hb.cell (p := ⟨b', off' + i * 4 + 3, none⟩) hbl').trans (hc' 3 _ rfl)
      rw [Nat.add_zero] at C0 D0
      clear hc hc'
      go_wp2
      go_region_held_law (fun w' => w'.cell? ⟨b, off + i * 4, none⟩ = some (.string nm) ∧ w'.cell? ⟨b, off + i * 4 + 1, none⟩ = some (.int .i64 x) ∧ w'.cell? ⟨b, off + i * 4 + 2, none⟩ = some (.int .i64 pl) ∧ w'.cell? ⟨b, off + i * 4 + 3, none⟩ = some (.int .i64 pc) ∧ w'.cell? ⟨b', off' + i * 4, none⟩ = some (.string nm) ∧ w'.cell? ⟨b', off' + i * 4 + 1, none⟩ = some (.int .i64 x) ∧ w'.cell? ⟨b', off' + i * 4 + 2, none⟩ = some (.int .i64 pl) ∧ w'.cell? ⟨b', off' + i * 4 + 3, none⟩ = some (.int .i64 pc))
        (exact ⟨C0, C1, C2, C3, D0, D1, D2, D3⟩)
        (fail)
      all_goals (
        go_wp2
        go_roundw
        case rel => exact ⟨i + 1, hlt, by go_num, hb.drew⟩
        case measure => simp [RowKit.intOf]; omega)
    · have i1 : ¬ (i : Int) < (n : Int) := by omega
      go_wp2
      go_ret
      exact ⟨rfl, hb⟩
end Go.Proofs.YtccmmkhcacglhaaGreatDoor

/- What is left to strip: the places of rows; and what follows when they are stripped. -/
namespace Go.Proofs.YtccmmkhcacglhaaGreatDoor
open Go.RowKit Go.Lib
set_option linter.unusedSimpArgs false
set_option linter.unusedVariables false

abbrev Fo := (d : Nat) × List (St d)
abbrev Pd := (Nat × Nat) × Fo
def pdA (p : Pd) : Addr := ⟨p.1.1, p.1.2, none⟩
def pdV (p : Pd) : Value := .pointer (some (pdA p))
/-- The value reads as the list, stripped; all of it from block B on. -/
def RdSp (B : Nat) (w : World) (x : Fo) (v : Value) : Prop := RdK (fun b => B ≤ b) w 11 (rSt x.1 (fun b => B ≤ b) w) (x.2.map (stS x.1)) v
/-- Nothing has turned but these cells, and the blocks of X. -/
structure Agr (X : Nat → Prop) (P : List Pd) (w w' : World) : Prop where
  size : w.heap.size ≤ w'.heap.size
  block : ∀ b, b < w.heap.size → ¬ X b → (∀ p ∈ P, p.1.1 ≠ b) → w'.heap[b]? = w.heap[b]?
  cell : ∀ b o, b < w.heap.size → ¬ X b → (∀ p ∈ P, p.1 ≠ (b, o)) → w'.cell? ⟨b, o, none⟩ = w.cell? ⟨b, o, none⟩
theorem Agr.refl (X : Nat → Prop) (P : List Pd) (w : World) : Agr X P w w := ⟨Nat.le_refl _, fun _ _ _ _ => rfl, fun _ _ _ _ _ => rfl⟩
/-- When all of these are stripped, R holds. -/
def Wnd (B : Nat) (X : Nat → Prop) (P : List Pd) (w : World) (R : World → Prop) : Prop := ∀ w', Agr X P w w' → (∀ p ∈ P, ∃ v, w'.cell? (pdA p) = some v ∧ RdSp B w' p.2 v) → R w'
theorem Wnd.end {B : Nat} {X : Nat → Prop} {w : World} {R : World → Prop} (h : Wnd B X [] w R) : R w := h w (Agr.refl _ _ _) (fun p hp => by cases hp)
/-- The world has moved on, these places as they were. -/
theorem Wnd.move {B : Nat} {X X' : Nat → Prop} {P : List Pd} {w w1 : World} {R : World → Prop} (h : Wnd B X P w R) (hs : w.heap.size ≤ w1.heap.size) (hX : ∀ b, X' b → X b ∨ w.heap.size ≤ b) (hb : ∀ b, b < w.heap.size → ¬ X b → w1.heap[b]? = w.heap[b]?) : Wnd B X' P w1 R := fun w' hA hr => by
  have nx : ∀ b, b < w.heap.size → ¬ X b → ¬ X' b := fun b hl hn q => by
    rcases hX b q with h | h
    · exact hn h
    · omega
  exact h w' ⟨Nat.le_trans hs hA.size, fun b hl hn hp => (hA.block b (Nat.lt_of_lt_of_le hl hs) (nx b hl hn) hp).trans (hb b hl hn), fun b o hl hn hp => (hA.cell b o (Nat.lt_of_lt_of_le hl hs) (nx b hl hn) hp).trans (World.cell?_of_block (w := w) (a := ⟨b, o, none⟩) (hb b hl hn))⟩ hr
/-- An empty row is one at any depth. -/
theorem Wnd.zero {B : Nat} {X : Nat → Prop} {P : List Pd} {a : Nat × Nat} {l : List (St 0)} {w : World} {R : World → Prop} (h : Wnd B X (P ++ [(a, ⟨0, l⟩)]) w R) : Wnd B X (P ++ [(a, (⟨1, []⟩ : Fo))]) w R := fun w' hA hr => by
  cases l with
  | cons x _ => exact Empty.elim x
  | nil =>
    refine h w' ⟨hA.size, fun b hl hn hp => hA.block b hl hn (fun p hp' => ?_), fun b o hl hn hp => hA.cell b o hl hn (fun p hp' => ?_)⟩ (fun p hp => ?_)
    · rcases List.mem_append.1 hp' with h | h
      · exact hp p (List.mem_append_left _ h)
      · have : p = (a, (⟨1, []⟩ : Fo)) := by simpa using h
        subst this
        exact hp (a, (⟨0, []⟩ : Fo)) (List.mem_append_right _ List.mem_cons_self)
    · rcases List.mem_append.1 hp' with h | h
      · exact hp p (List.mem_append_left _ h)
      · have : p = (a, (⟨1, []⟩ : Fo)) := by simpa using h
        subst this
        exact hp (a, (⟨0, []⟩ : Fo)) (List.mem_append_right _ List.mem_cons_self)
    · rcases List.mem_append.1 hp with h | h
      · exact hr p (List.mem_append_left _ h)
      · have : p = (a, (⟨0, []⟩ : Fo)) := by simpa using h
        subst this
        obtain ⟨v, h1, a1, cap, h2, h3, h4, _⟩ := hr (a, (⟨1, []⟩ : Fo)) (List.mem_append_right _ List.mem_cons_self)
        exact ⟨v, h1, a1, cap, h2, h3, h4, fun i hi => absurd hi (by simp)⟩
/-- The rows within a row's elements. -/
def kidC (G d : Nat) : Nat → List (St (d + 1)) → List Pd
  | _, [] => []
  | i, t :: l => ((G, i * 11 + 10), ⟨d, t.2⟩) :: kidC G d (i + 1) l
theorem kid_mem {G : Nat} : ∀ {i d : Nat} {l : List (St (d + 1))} {p : Pd}, p ∈ kidC G d i l → ∃ (j : Nat) (hj : j < l.length), p = ((G, (i + j) * 11 + 10), ⟨d, l[j].2⟩)
  | i, d, [], p, h => by cases h
  | i, d, t :: l, p, h => by
    rcases List.mem_cons.1 h with rfl | h
    · exact ⟨0, by simp, rfl⟩
    · obtain ⟨j, hj, rfl⟩ := kid_mem h
      exact ⟨j + 1, by simpa using hj, by rw [show i + 1 + j = i + (j + 1) by omega]; rfl⟩
theorem kid_of {G : Nat} : ∀ {i d : Nat} {l : List (St (d + 1))} (j : Nat) (hj : j < l.length), (((G, (i + j) * 11 + 10), ⟨d, l[j].2⟩) : Pd) ∈ kidC G d i l
  | i, d, [], j, hj => by simp at hj
  | i, d, t :: l, 0, _ => List.mem_cons_self
  | i, d, t :: l, j + 1, hj => by
    have := kid_of (G := G) (i := i + 1) (d := d) (l := l) j (by simpa using hj)
    rw [show i + 1 + j = i + (j + 1) by omega] at this
    exact List.mem_cons_of_mem _ this
theorem kid_len {G : Nat} : ∀ (i d : Nat) (l : List (St (d + 1))), (kidC G d i l).length = l.length
  | i, d, [] => rfl
  | i, d, t :: l => congrArg (· + 1) (kid_len (i + 1) d l)
theorem kid_get {G : Nat} : ∀ (i d : Nat) (l : List (St (d + 1))) (j : Nat) (hj : j < l.length) (hj' : j < (kidC G d i l).length), (kidC G d i l)[j] = (((G, (i + j) * 11 + 10), ⟨d, l[j].2⟩) : Pd)
  | i, d, [], j, hj, _ => by simp at hj
  | i, d, t :: l, 0, _, _ => rfl
  | i, d, t :: l, j + 1, hj, hj' => by
    have := kid_get (G := G) (i + 1) d l j (by simpa using hj) (by rw [kid_len]; simpa using hj)
    rw [show i + 1 + j = i + (j + 1) by omega] at this
    exact this
/-- One row stripped by itself, and put in its place. -/
theorem Wnd.step {B : Nat} {X : Nat → Prop} {P : List Pd} {p : Pd} {w w1 : World} {R : World → Prop} {d : Nat} {l : List (St (d + 1))} {okO : Nat → Prop} {wO : World} (hp : p.2 = ⟨d + 1, l⟩) (hW : Wnd B X (P ++ [p]) w R) (hX : ∀ b, X b → b < w.heap.size) (hXp : ¬ X p.1.1) (hb : Below w.heap.size w w1) (hB : B ≤ w.heap.size) (pb : p.1.1 < w.heap.size)
    (hnd : ∀ q ∈ P, q.1 ≠ p.1) (hlt : ∀ q ∈ P, q.1.1 < w.heap.size) (hc0 : ∃ v, w.cell? (pdA p) = some v) (hu : RowG w1 w.heap.size 11 l.length (rHf d okO wO) l) (hG : w.heap.size < w1.heap.size) (hm : l.length ≤ maxLen) :
    Wnd B X (P ++ kidC w.heap.size d 0 l) (w1.setCell (pdA p) (.slice (some ⟨w.heap.size, 0, none⟩) l.length l.length)) R := by
  intro w' hA hr
  obtain ⟨u, hu'⟩ : ∃ u, Value.slice (some ⟨w.heap.size, 0, none⟩) l.length l.length = u := ⟨_, rfl⟩
  rw [hu'] at hA
  have hs2 : (w1.setCell (pdA p) u).heap.size = w1.heap.size := by simp
  have hsw := hb.size
  have hA1 := hA.size
  rw [hs2] at hA1
  have hkb : ∀ q ∈ kidC w.heap.size d 0 l, q.1.1 = w.heap.size := fun q hq => by
    obtain ⟨j, hj, rfl⟩ := kid_mem hq
    rfl
  have nofar : ∀ b o, b < w.heap.size → ¬ X b → (∀ q ∈ P ++ [p], q.1 ≠ (b, o)) → w'.cell? ⟨b, o, none⟩ = w.cell? ⟨b, o, none⟩ := fun b o hl hn hq => by
    have h1 := hA.cell b o (by rw [hs2]; omega) hn (fun q hq' => by
      rcases List.mem_append.1 hq' with h | h
      · exact hq q (List.mem_append_left _ h)
      · intro e
        have := hkb q h
        rw [e] at this
        have : b = w.heap.size := this
        omega)
    rw [h1]
    have hne : p.1 ≠ (b, o) := hq p (List.mem_append_right _ List.mem_cons_self)
    have h2 : (w1.setCell (pdA p) u).cell? ⟨b, o, none⟩ = w1.cell? ⟨b, o, none⟩ := World.cell?_setCell_other w1 (pdA p) ⟨b, o, none⟩ u (fun e => hne (by
      unfold pdA at e
      simp only [Addr.mk.injEq, and_true] at e
      exact Prod.ext e.1 e.2))
    rw [h2]
    exact hb.cell (p := ⟨b, o, none⟩) hl
  refine hW w' ⟨by omega, fun b hl hn hq => ?_, nofar⟩ (fun q hq => ?_)
  · have h1 := hA.block b (by rw [hs2]; omega) hn (fun q hq' => by
      rcases List.mem_append.1 hq' with h | h
      · exact hq q (List.mem_append_left _ h)
      · rw [hkb q h]; omega)
    rw [h1, Below.heap_setCell _ _ _ _ (fun e => hq p (List.mem_append_right _ List.mem_cons_self) e.symm)]
    exact hb.block b hl
  · rcases List.mem_append.1 hq with h | h
    · exact hr q (List.mem_append_left _ h)
    · have : q = p := by simpa using h
      subst this
      have hcell : w'.cell? (pdA q) = some u := by
        have h1 := hA.cell q.1.1 q.1.2 (by rw [hs2]; omega) hXp (fun q' hq' => by
          rcases List.mem_append.1 hq' with h | h
          · exact fun e => hnd q' h e
          · intro e
            have := hkb q' h
            rw [e] at this
            have : q.1.1 = w.heap.size := this
            omega)
        show w'.cell? ⟨q.1.1, q.1.2, none⟩ = _
        rw [h1]
        obtain ⟨v, hv⟩ := hc0
        exact cell_same4 ((hb.cell (p := pdA q) pb).trans hv)
      refine ⟨u, hcell, ?_⟩
      rw [hp]
      subst hu'
      refine ⟨some ⟨w.heap.size, 0, none⟩, l.length, by rw [List.length_map], by rw [List.length_map]; exact Nat.le_refl _, hm, fun i hi => ?_⟩
      have hil : i < l.length := by simpa using hi
      obtain ⟨cs, hk, ⟨so, si, rfl, hso, hsi⟩, hcs⟩ := hu.2 i hil
      have hkid := hr _ (List.mem_append_right _ (kid_of (G := w.heap.size) (i := 0) i hil))
      obtain ⟨v, hv1, hv2⟩ := hkid
      refine ⟨w.heap.size, 0, hdV (stH l[i].1) so v, rfl, hB, by omega, rfl, ?_, fun j x hx => ?_⟩
      · have e1 : (l.map (stS (d + 1)))[i] = stS (d + 1) l[i] := by simp
        rw [e1]
        refine ⟨so, v, rfl, ?_, hv2⟩
        refine hso.stay kp_on (fun b hb' hl => ⟨by omega, ?_⟩)
        have h1 := hA.block b (by rw [hs2]; exact hl) (fun q => by have := hX b q; omega) (fun q' hq' => by
          rcases List.mem_append.1 hq' with h | h
          · have := hlt q' h; omega
          · rw [hkb q' h]; omega)
        rw [h1]
        exact Below.heap_setCell _ _ _ _ (fun e => by have e2 : b = q.1.1 := e; omega)
      · rw [Nat.zero_add]
        by_cases hj : j = 10
        · subst hj
          have : x = v := by
            have : (hdV (stH l[i].1) so v)[10]? = some v := rfl
            rw [this] at hx
            exact (Option.some.inj hx).symm
          subst this
          rw [Nat.zero_add] at hv1
          exact hv1
        · have hj11 : j < 11 := (List.getElem?_eq_some_iff.1 hx).1
          have hx' : (hdV (stH l[i].1) so si)[j]? = some x := by
            rw [← hx]
            match j, hj11, hj with
            | 0, _, _ => rfl
            | 1, _, _ => rfl
            | 2, _, _ => rfl
            | 3, _, _ => rfl
            | 4, _, _ => rfl
            | 5, _, _ => rfl
            | 6, _, _ => rfl
            | 7, _, _ => rfl
            | 8, _, _ => rfl
            | 9, _, _ => rfl
            | 10, _, h => exact absurd rfl h
          have h1 := hA.cell w.heap.size (i * 11 + j) (by rw [hs2]; exact hG) (fun q => by have := hX _ q; omega) (fun q' hq' => by
            rcases List.mem_append.1 hq' with h | h
            · intro e; have := hlt q' h; rw [e] at this; exact absurd this (by simp)
            · obtain ⟨j', hj', rfl⟩ := kid_mem h
              intro e
              have : (0 + j') * 11 + 10 = i * 11 + j := congrArg Prod.snd e
              omega)
          rw [h1, World.cell?_setCell_far _ _ _ _ (by show q.1.1 ≠ w.heap.size; omega)]
          exact hcs j x hx'
/-- How much is left. -/
def szL : (d : Nat) → List (St d) → Nat
  | 0, _ => 1
  | d + 1, l => (l.map (fun t => szL d t.2)).sum + 1
def szF (p : Pd) : Nat := szL p.2.1 p.2.2
theorem szL_pos : ∀ (d : Nat) (l : List (St d)), 1 ≤ szL d l
  | 0, _ => Nat.le_refl _
  | d + 1, l => by
    show 1 ≤ (l.map (fun t => szL d t.2)).sum + 1
    omega
theorem kid_sz {G : Nat} : ∀ (i d : Nat) (l : List (St (d + 1))), ((kidC G d i l).map szF).sum + 1 = szL (d + 1) l
  | i, d, [] => rfl
  | i, d, t :: l => by
    have := kid_sz (G := G) (i + 1) d l
    have e1 : szL (d + 1) l = (l.map (fun t => szL d t.2)).sum + 1 := rfl
    have e2 : szL (d + 1) (t :: l) = (szL d t.2 + (l.map (fun t => szL d t.2)).sum) + 1 := rfl
    have e3 : ((kidC G d i (t :: l)).map szF).sum = szL d t.2 + ((kidC G d (i + 1) l).map szF).sum := rfl
    omega
end Go.Proofs.YtccmmkhcacglhaaGreatDoor

/- A stack of what is left to strip, and its steps. -/
namespace Go.Proofs.YtccmmkhcacglhaaGreatDoor
open Go.RowKit Go.Lib
set_option linter.unusedSimpArgs false
set_option linter.unusedVariables false

def StOk : (d : Nat) → St d → Prop
  | 0, t => Empty.elim t
  | d + 1, t => HdOk t.1 ∧ t.2.length ≤ 100000 ∧ ∀ x ∈ t.2, StOk d x
def FoOk (x : Fo) : Prop := x.2.length ≤ 100000 ∧ ∀ t ∈ x.2, StOk x.1 t
def POk (N : Nat) (X : Nat → Prop) (w : World) (p : Pd) : Prop :=
  N ≤ p.1.1 ∧ p.1.1 < w.heap.size ∧ w.frozen? (pdA p) = false ∧ ¬ X p.1.1 ∧ FoOk p.2 ∧ ∃ u, w.cell? (pdA p) = some u ∧ RdK (fun b => b < N) w 11 (rSt p.2.1 (fun b => b < N) w) p.2.2 u
structure PInv (N : Nat) (R : World → Prop) (X : Nat → Prop) (w : World) (v : Value) (P : List Pd) : Prop where
  row : w.ownsRow N 93 1 v P.length (P.map pdV)
  ok : ∀ p ∈ P, POk N X w p
  nd : P.Pairwise (fun a b => a.1 ≠ b.1)
  wnd : Wnd (N + 2) X P w R
  x1 : ∀ b, X b → b < w.heap.size ∧ N ≤ b
  x2 : ∀ g, v.ownBlock = some g → X g
  big : N + 2 ≤ w.heap.size
theorem rowV_pop {w : World} {base e : Nat} {v : Value} {xs : List Value} {x : Value} {n : Nat} (hn : n = xs.length) (h : w.ownsRow base e 1 v (n + 1) (xs ++ [x])) : ∃ g cap, v = .slice (some ⟨g, 0, none⟩) (n + 1) cap ∧ n + 1 ≤ cap ∧ cap ≤ maxLen ∧ base ≤ g ∧ g < w.heap.size ∧
    w.cell? ⟨g, n, none⟩ = some x ∧ w.ownsRow base e 1 (.slice (some ⟨g, 0, none⟩) n cap) n xs := by
  subst hn
  have hc := fun g => World.ownsRow.cells h (g := g)
  rcases h.2 with ⟨_, h2⟩ | ⟨g, cap, cur, rfl, hb, hg, hnc, hcm, hcs, htake⟩
  · omega
  · have h1 := hc g rfl xs.length x (by simp)
    rw [show (⟨g, 0, none⟩ : Addr).add xs.length = ⟨g, xs.length, none⟩ by unfold Addr.add; split <;> simp_all] at h1
    refine ⟨g, cap, rfl, hnc, hcm, hb, (Array.getElem?_eq_some_iff.1 hg).1, h1, by simp, .inr ⟨g, cap, cur, rfl, hb, hg, by omega, hcm, hcs, ?_⟩⟩
    have h3 := congrArg (List.take xs.length) htake
    rw [List.take_take] at h3
    simp only [Nat.mul_one] at h3 ⊢
    rw [Nat.min_eq_left (by omega), List.take_left' (by simp)] at h3
    exact h3
theorem rowV_nil {w : World} {base e : Nat} {v : Value} (h : w.ownsRow base e 1 v 0 []) : ∃ a cap, v = .slice a 0 cap := by
  rcases h.2 with ⟨h1, _⟩ | ⟨g, cap, cur, rfl, _⟩
  · exact ⟨_, _, h1⟩
  · exact ⟨_, _, rfl⟩
/-- The last one, an empty row, as one at depth 1. -/
theorem PInv.deep {N : Nat} {R : World → Prop} {X : Nat → Prop} {w : World} {v : Value} {P : List Pd} {p : Pd} (h : PInv N R X w v (P ++ [p])) : ∃ (d : Nat) (l : List (St (d + 1))), PInv N R X w v (P ++ [(p.1, ⟨d + 1, l⟩)]) ∧ szF p = szL (d + 1) l := by
  obtain ⟨a, d, l⟩ := p
  cases d with
  | succ d => exact ⟨d, l, h, rfl⟩
  | zero =>
    cases l with
    | cons x _ => exact Empty.elim x
    | nil =>
      refine ⟨0, [], ⟨?_, fun q hq => ?_, ?_, h.wnd.zero, h.x1, h.x2, h.big⟩, rfl⟩
      · have := h.row
        rw [List.map_append, List.length_append] at this ⊢
        exact this
      · rcases List.mem_append.1 hq with hq | hq
        · exact h.ok q (List.mem_append_left _ hq)
        · have e : q = (a, (⟨1, []⟩ : Fo)) := by simpa using hq
          subst e
          obtain ⟨h1, h2, h3, h4, h5, u, h6, a1, cap, h7, h8, h9, _⟩ := h.ok (a, (⟨0, []⟩ : Fo)) (List.mem_append_right _ List.mem_cons_self)
          exact ⟨h1, h2, h3, h4, ⟨by simp, fun t ht => by cases ht⟩, u, h6, a1, cap, h7, h8, h9, fun i hi => absurd hi (by simp)⟩
      · have := h.nd
        rw [List.pairwise_append] at this ⊢
        refine ⟨this.1, List.pairwise_singleton _ _, fun x hx y hy => ?_⟩
        have e : y = (a, (⟨1, []⟩ : Fo)) := by simpa using hy
        subst e
        exact this.2.2 x hx (a, (⟨0, []⟩ : Fo)) List.mem_cons_self
theorem szF_len : ∀ P : List Pd, P.length ≤ (P.map szF).sum
  | [] => by simp
  | p :: P => by
    have := szF_len P
    have := szL_pos p.2.1 p.2.2
    show P.length + 1 ≤ szL p.2.1 p.2.2 + (P.map szF).sum
    omega
theorem kid_pair {G d : Nat} : ∀ (i : Nat) (l : List (St (d + 1))), (kidC G d i l).Pairwise (fun a b => a.1 ≠ b.1)
  | i, [] => List.Pairwise.nil
  | i, t :: l => by
    refine List.Pairwise.cons (fun q hq => ?_) (kid_pair (i + 1) l)
    obtain ⟨j, hj, rfl⟩ := kid_mem hq
    intro e
    have : i * 11 + 10 = (i + 1 + j) * 11 + 10 := congrArg Prod.snd e
    omega
theorem PInv.step {N : Nat} {R : World → Prop} {X : Nat → Prop} {w w1 w2 : World} {v v2 : Value} {P : List Pd} {a : Nat × Nat} {d : Nat} {l : List (St (d + 1))} {g : Nat} (h : PInv N R X w v (P ++ [(a, ⟨d + 1, l⟩)])) (hb : Below w.heap.size w w1) (hu : RowG w1 w.heap.size 11 l.length (rHf d (fun b => b < N) w) l) (hG : w.heap.size < w1.heap.size) (hv : v.ownBlock = some g)
    (hrow : w2.ownsRow N 93 1 v2 (P ++ kidC w.heap.size d 0 l).length ((P ++ kidC w.heap.size d 0 l).map pdV)) (hgr : (w1.setCell ⟨a.1, a.2, none⟩ (.slice (some ⟨w.heap.size, 0, none⟩) l.length l.length)).grownBy w2 (some g)) (hl2 : ∀ g', v2.ownBlock = some g' → g = g' ∨ w1.heap.size ≤ g') (hl3 : ∀ g', v2.ownBlock = some g' → g' < w2.heap.size) :
    PInv N R (fun b => X b ∨ v2.ownBlock = some b) w2 v2 (P ++ kidC w.heap.size d 0 l) := by
  have hN := h.big
  obtain ⟨U, hU⟩ : ∃ U, Value.slice (some ⟨w.heap.size, 0, none⟩) l.length l.length = U := ⟨_, rfl⟩
  rw [hU] at hgr
  have hs1 : (w1.setCell ⟨a.1, a.2, none⟩ U).heap.size = w1.heap.size := by simp
  have hXg := h.x2 g hv
  obtain ⟨g1, g2⟩ := h.x1 g hXg
  have hpo := h.ok (a, ⟨d + 1, l⟩) (List.mem_append_right _ List.mem_cons_self)
  obtain ⟨p1, p2, p3, p4, p5, u0, p6, p7⟩ := hpo
  have p1 : N ≤ a.1 := p1
  have p2 : a.1 < w.heap.size := p2
  have p4 : ¬ X a.1 := p4
  have hag : a.1 ≠ g := fun e => p4 (e ▸ hXg)
  have hsw := hb.size
  have hgs := hgr.size
  rw [hs1] at hgs
  have far : ∀ b, b < w1.heap.size → b ≠ g → w2.heap[b]? = (w1.setCell ⟨a.1, a.2, none⟩ U).heap[b]? := fun b hl hn => hgr.block b (by rw [hs1]; exact hl) (fun e => hn (Option.some.inj e))
  have far2 : ∀ b, b < w1.heap.size → b ≠ g → b ≠ a.1 → w2.heap[b]? = w1.heap[b]? := fun b hl hn hn2 => (far b hl hn).trans (Below.heap_setCell _ _ _ _ (fun e => hn2 e))
  have far3 : ∀ b, b < w.heap.size → b ≠ g → b ≠ a.1 → w2.heap[b]? = w.heap[b]? := fun b hl hn hn2 => (far2 b (by omega) hn hn2).trans (hb.block b hl)
  have low : ∀ b, b < N → b < w.heap.size → b < N ∧ w2.heap[b]? = w.heap[b]? := fun b hbN hl => ⟨hbN, far3 b hl (by omega) (by omega)⟩
  have hnd := List.pairwise_append.1 h.nd
  have hne : ∀ q ∈ P, q.1 ≠ a := fun q hq => hnd.2.2 q hq (a, ⟨d + 1, l⟩) List.mem_cons_self
  have nX : ∀ b, b < w1.heap.size → ¬ X b → ¬ (X b ∨ v2.ownBlock = some b) := fun b hl hn q => by
    rcases q with q | q
    · exact hn q
    · rcases hl2 b q with e | e
      · exact hn (e ▸ hXg)
      · omega
  refine ⟨hrow, fun q hq => ?_, ?_, ?_, fun b q => ?_, fun g' hg' => .inr hg', by omega⟩
  · rcases List.mem_append.1 hq with hq | hq
    · obtain ⟨q1, q2, q3, q4, q5, u, q6, q7⟩ := h.ok q (List.mem_append_left _ hq)
      have hqg : q.1.1 ≠ g := fun e => q4 (e ▸ hXg)
      have hblk := far q.1.1 (by omega) hqg
      have hne2 : (⟨a.1, a.2, none⟩ : Addr) ≠ pdA q := fun e => hne q hq (by
        unfold pdA at e
        simp only [Addr.mk.injEq, and_true] at e
        exact Prod.ext e.1.symm e.2.symm)
      refine ⟨q1, by omega, ?_, nX _ (by omega) q4, q5, u, ?_, q7.stay (kp_st _) low⟩
      · rw [show pdA q = ⟨q.1.1, q.1.2, none⟩ from rfl] at q3 ⊢
        rw [frozen_of_block hblk, World.frozen?_setCell, hb.frozen (p := ⟨q.1.1, q.1.2, none⟩) q2]
        exact q3
      · rw [World.cell?_of_block (w := w1.setCell ⟨a.1, a.2, none⟩ U) (a := pdA q) hblk, World.cell?_setCell_other w1 _ _ U hne2, hb.cell (p := pdA q) q2]
        exact q6
    · obtain ⟨j, hj, rfl⟩ := kid_mem hq
      obtain ⟨cs, hk, ⟨so, si, rfl, hso, hsi⟩, hcs⟩ := hu.2 j hj
      have hGg : w.heap.size ≠ g := by omega
      have hblk := far2 w.heap.size hG hGg (by omega)
      have hc10 := hcs 10 si rfl
      have hfr := (hu.1 (j * 11 + 10) (mul_in hj (by omega))).2
      refine ⟨by show N ≤ w.heap.size; omega, by show w.heap.size < _; omega, ?_, nX _ hG (fun q => absurd (show w.heap.size < w.heap.size from (h.x1 _ q).1) (Nat.lt_irrefl _)), ⟨(p5.2 _ (List.getElem_mem hj)).2.1, (p5.2 _ (List.getElem_mem hj)).2.2⟩, si, ?_, hsi.stay (kp_st d) low⟩
      · show w2.frozen? ⟨w.heap.size, (0 + j) * 11 + 10, none⟩ = false
        rw [Nat.zero_add, frozen_of_block hblk]
        exact hfr
      · show w2.cell? ⟨w.heap.size, (0 + j) * 11 + 10, none⟩ = some si
        rw [Nat.zero_add, World.cell?_of_block (w := w1) (a := ⟨w.heap.size, j * 11 + 10, none⟩) hblk]
        exact hc10
  · rw [List.pairwise_append]
    refine ⟨hnd.1, kid_pair 0 l, fun q hq k hk => ?_⟩
    obtain ⟨j, hj, rfl⟩ := kid_mem hk
    intro e
    have h1 := (h.ok q (List.mem_append_left _ hq)).2.1
    rw [e] at h1
    exact absurd h1 (by simp)
  · have hst := Wnd.step (p := (a, ⟨d + 1, l⟩)) rfl h.wnd (fun b q => (h.x1 b q).1) p4 hb hN p2 (fun q hq => hne q hq) (fun q hq => (h.ok q (List.mem_append_left _ hq)).2.1) ⟨u0, p6⟩ hu hG (by unfold maxLen; have := p5.1; simp only at this; omega)
    rw [hU] at hst
    refine hst.move (by show (w1.setCell ⟨a.1, a.2, none⟩ U).heap.size ≤ _; rw [hs1]; exact hgs) (fun b q => ?_) (fun b hl hn => ?_)
    · rcases q with q | q
      · exact .inl q
      · rcases hl2 b q with e | e
        · exact .inl (e ▸ hXg)
        · right
          show (w1.setCell ⟨a.1, a.2, none⟩ U).heap.size ≤ b
          rw [hs1]; exact e
    · have hl' : b < w1.heap.size := by
        have : b < (w1.setCell ⟨a.1, a.2, none⟩ U).heap.size := hl
        rw [hs1] at this; exact this
      exact far b hl' (fun e => hn (e ▸ hXg))
  · rcases q with q | q
    · have := h.x1 b q
      exact ⟨by omega, this.2⟩
    · refine ⟨hl3 b q, ?_⟩
      rcases hl2 b q with e | e
      · omega
      · omega
end Go.Proofs.YtccmmkhcacglhaaGreatDoor

/- Two rows of the call's own, that grow one by one. -/
namespace Go.Proofs.YtccmmkhcacglhaaGreatDoor
open Go.RowKit Go.Lib
set_option linter.unusedSimpArgs false
set_option linter.unusedVariables false

structure Two (w : World) (base e : Nat) (p q : Value) (n1 n2 : Nat) (xa xb : List Value) : Prop where
  a : w.ownsRow base e 1 p n1 xa
  b : w.ownsRow base e 1 q n2 xb
  ne : ∀ g, p.ownBlock = some g → q.ownBlock ≠ some g
theorem Two.symm {w : World} {base e : Nat} {p q : Value} {n1 n2 : Nat} {xa xb : List Value} (h : Two w base e p q n1 n2 xa xb) : Two w base e q p n2 n1 xb xa := ⟨h.b, h.a, fun g h1 h2 => h.ne g h2 h1⟩
theorem Two.alloc {w : World} {base e : Nat} {p q : Value} {n1 n2 : Nat} {xa xb : List Value} (h : Two w base e p q n1 n2 xa xb) (O : Obj) : Two (w.alloc O) base e p q n1 n2 xa xb := ⟨World.ownsRow.alloc h.a O, World.ownsRow.alloc h.b O, h.ne⟩
theorem Two.drew {w : World} {base e : Nat} {p q : Value} {n1 n2 : Nat} {xa xb : List Value} (h : Two w base e p q n1 n2 xa xb) : Two w.drew base e p q n1 n2 xa xb := ⟨h.a, h.b, h.ne⟩
theorem Two.on {w w' : World} {base e : Nat} {p q : Value} {n1 n2 : Nat} {xa xb : List Value} (h : Two w base e p q n1 n2 xa xb) (hb : Below w.heap.size w w') : Two w' base e p q n1 n2 xa xb := ⟨own_on h.a hb (Nat.le_refl _), own_on h.b hb (Nat.le_refl _), h.ne⟩
theorem own_formQ {w : World} {base e size : Nat} {v : Value} {n : Nat} {xs : List Value} (h : w.ownsRow base e size v n xs) : ∃ a cap, v = .slice a n cap ∧ n ≤ cap ∧ cap ≤ maxLen := by
  rcases h.2 with ⟨h1, h2⟩ | ⟨g, cap, cur, h1, _, _, h3, h4, _⟩
  · exact ⟨none, 0, by rw [h1, h2], by omega, by simp [maxLen]⟩
  · exact ⟨_, _, h1, h3, h4⟩
theorem two_push {P : Program} (w : World) {ops : Array Oper} {o : Oper} {a : Act} {K : Act → World → Prop} {Q : Exit → Act → World → Prop} {E : Prop} (hgd : o.guard = none) (s x : Operand) (t : TypeId)
    (ho : o.op = .call { callee := .builtin .append, args := #[s, x], argTypes := #[t, t] })
    (base : Nat) (e : TypeId) (i : TypeInfo) (z : Value) (bytes : Nat) (ht : P.underlying t = some (.slice e)) (hi : P.info? e = some i) (hz : i.zero = some z)
    (hsize : i.size = 1) (hby : i.bytes = bytes) (hzs : z.cells.size = 1) (p q : Value) (n1 n2 : Nat) (xa xb : List Value) (hs : a.eval s = p) (hT : Two w base e p q n1 n2 xa xb)
    (k : Nat) (u : Value) (hx : a.eval x = .slice (some ⟨k, 0, none⟩) 1 1) (hc : w.cell? ⟨k, 0, none⟩ = some u) (h1 : u.oneCell' = true) (hroom : (n1 + 1 + (n1 + 1) / 4 + 192) * bytes ≤ 281474976710656) (h63 : n1 + 1 ≤ maxLen) (hbase : base ≤ w.heap.size)
    (h : ∀ a' cap' w', Two w' base e (.slice a' (n1 + 1) cap') q (n1 + 1) n2 (xa ++ [u]) xb → Below base w w' → (∀ b u', w.cell? ⟨b, 0, none⟩ = some u' → p.ownBlock ≠ some b → w'.cell? ⟨b, 0, none⟩ = some u') → K (a.put o.dst (.slice a' (n1 + 1) cap')) w') :
    if Region.wanted o (yielded ops a.tmps) = true then Oper.wp P o a w K Q else E := by
  have hsrc : Src P 1 t (.slice (some ⟨k, 0, none⟩) 1 1) 1 [u] w := Src.ofSlice _ ht _ 1 1 _ rfl (fun j v hv => by
    match j with
    | 0 =>
      have : u = v := by simpa using hv
      subst this
      rw [add_plain]
      exact hc
    | j + 1 => simp at hv) (fun v hv => by
    have : v = u := by simpa using hv
    subst this
    exact h1)
  refine step_append_at _ hgd s x t t ho base e i z 1 bytes ht hi hz hsize hby hzs p n1 xa hs hT.a _ 1 [u] hx hsrc 1 (.inr hroom) (Nat.le_refl _) h63 hbase ?_
  intro v' w' hown hg hat
  obtain ⟨a', cap', rfl, _⟩ := own_formQ hown
  have hqk := ownsRow_lt hT.b
  refine h a' cap' w' ⟨hown, ownsRow_keep hT.b (fun g hg' => hg.block g (hqk g hg').2 (fun e => hT.ne g e.symm hg')), fun g hg1 hg2 => ?_⟩ ((Below.refl base w).grown hg hbase (fun k hk => (ownsRow_lt hT.a k hk).1)) (fun b u' hb hne => ?_)
  · rcases hat with h2 | h2
    · exact hT.ne g (h2 ▸ hg1) hg2
    · rw [h2] at hg1
      have : w.heap.size = g := Option.some.inj hg1
      have := (hqk g hg2).2
      omega
  · rw [World.cell?_of_block (w := w) (a := ⟨b, 0, none⟩) (hg.block b (World.block_lt_of_cell? w _ hb) (fun e => hne e.symm))]
    exact hb
theorem Two.pop {w : World} {base e : Nat} {p q : Value} {n : Nat} {xa xb : List Value} {u u' : Value} (hn : n = xa.length) (hn' : n = xb.length) (h : Two w base e p q (n + 1) (n + 1) (xa ++ [u]) (xb ++ [u'])) : ∃ g cap g' cap', p = .slice (some ⟨g, 0, none⟩) (n + 1) cap ∧ q = .slice (some ⟨g', 0, none⟩) (n + 1) cap' ∧ n + 1 ≤ cap ∧ cap ≤ maxLen ∧ n + 1 ≤ cap' ∧ cap' ≤ maxLen ∧ g < w.heap.size ∧ g' < w.heap.size ∧ w.cell? ⟨g, n, none⟩ = some u ∧ w.cell? ⟨g', n, none⟩ = some u' ∧ Two w base e (.slice (some ⟨g, 0, none⟩) n cap) (.slice (some ⟨g', 0, none⟩) n cap') n n xa xb := by
  obtain ⟨g, cap, rfl, h1, h2, h3, h4, h5, h6⟩ := rowV_pop hn h.a
  obtain ⟨g', cap', rfl, k1, k2, k3, k4, k5, k6⟩ := rowV_pop hn' h.b
  exact ⟨g, cap, g', cap', rfl, rfl, h1, h2, k1, k2, h4, k4, h5, k5, h6, k6, fun x hx => h.ne x hx⟩
theorem Tryz.infoRS : (Tryz.prog.info? 26).map (fun i => (i.zero, i.size, i.bytes)) = some (some (.slice none 0 0), 1, 24) := by kernel_rfl
/-- What is left to be compared: lists, with the two values that read as each. -/
abbrev Pq2 := Fo × Value × Value
def PqOk (N : Nat) (w : World) (x : Pq2) : Prop := FoOk x.1 ∧ RdK (fun b => b < N) w 11 (rSt x.1.1 (fun b => b < N) w) x.1.2 x.2.1 ∧ RdK (fun b => b < N) w 11 (rSt x.1.1 (fun b => b < N) w) x.1.2 x.2.2
theorem pq_deep {N : Nat} {w : World} {x : Pq2} (h : PqOk N w x) : ∃ (d : Nat) (l : List (St (d + 1))), PqOk N w (⟨d + 1, l⟩, x.2) ∧ szL x.1.1 x.1.2 = szL (d + 1) l := by
  obtain ⟨⟨d, l⟩, v⟩ := x
  cases d with
  | succ d => exact ⟨d, l, h, rfl⟩
  | zero =>
    cases l with
    | cons x _ => exact Empty.elim x
    | nil =>
      obtain ⟨h1, ⟨a, cap, h2, h3, h4, _⟩, a', cap', k2, k3, k4, _⟩ := h
      exact ⟨0, [], ⟨⟨by simp, fun t ht => by cases ht⟩, ⟨a, cap, h2, h3, h4, fun i hi => absurd hi (by simp)⟩, a', cap', k2, k3, k4, fun i hi => absurd hi (by simp)⟩, rfl⟩
end Go.Proofs.YtccmmkhcacglhaaGreatDoor

/- Names in their order. Math, and rows of texts. -/
namespace Go.Proofs.YtccmmkhcacglhaaGreatDoor
open Go.RowKit Go.Lib
set_option linter.unusedSimpArgs false
set_option linter.unusedVariables false

def cS (ls : List ByteArray) : List Value := ls.map .string
/-- The slice v, made by calls of ours, holds the texts ls. -/
def RdS (w : World) (v : Value) (ls : List ByteArray) : Prop := w.ownsRow 0 9 1 v ls.length (cS ls)
theorem RdS.below {w w' : World} {v : Value} {ls : List ByteArray} {B : Nat} (h : RdS w v ls) (hb : Below B w w') (hB : w.heap.size ≤ B) : RdS w' v ls := by
  refine ⟨h.1, ?_⟩
  rcases h.2 with hn | ⟨g, cap, cur, rfl, hbg, hg, rest⟩
  · exact .inl hn
  · exact .inr ⟨g, cap, cur, rfl, hbg, by rw [hb.block g (by have := (Array.getElem?_eq_some_iff.1 hg).1; omega)]; exact hg, rest⟩
theorem RdS.form {w : World} {v : Value} {ls : List ByteArray} (h : RdS w v ls) : (v = .slice none 0 0 ∧ ls = []) ∨ ∃ g cap, v = .slice (some ⟨g, 0, none⟩) ls.length cap ∧ ls.length ≤ cap ∧ cap ≤ maxLen ∧ ∀ (i : Nat) (hi : i < ls.length), w.cell? ⟨g, i, none⟩ = some (.string ls[i]) := by
  rcases h.2 with ⟨h1, h2⟩ | ⟨g, cap, cur, rfl, hb, hg, hnc, hcm, _⟩
  · exact .inl ⟨h1, List.eq_nil_of_length_eq_zero h2⟩
  · refine .inr ⟨g, cap, rfl, hnc, hcm, fun i hi => ?_⟩
    have h1 := World.ownsRow.cells h (g := g) rfl i (.string ls[i]) (by simp [cS, hi])
    have hp : (⟨g, 0, none⟩ : Addr).add i = ⟨g, i, none⟩ := by unfold Addr.add; split <;> simp_all
    rw [hp] at h1
    exact h1
end Go.Proofs.YtccmmkhcacglhaaGreatDoor

/- The names of an expression. Math alone. -/
namespace Go.Proofs.YtccmmkhcacglhaaGreatDoor
open Go.RowKit Go.Lib
set_option linter.unusedSimpArgs false
set_option linter.unusedVariables false

end Go.Proofs.YtccmmkhcacglhaaGreatDoor

/- The names of an expression: in their order, sorted, each once. Math alone. -/
namespace Go.Proofs.YtccmmkhcacglhaaGreatDoor
open Go.RowKit Go.Lib
set_option linter.unusedSimpArgs false
set_option linter.unusedVariables false

end Go.Proofs.YtccmmkhcacglhaaGreatDoor

/- Contracts of the library at this program. -/
namespace Go.Proofs.YtccmmkhcacglhaaGreatDoor
open Go.Shelf
set_option linter.unusedVariables false

end Go.Proofs.YtccmmkhcacglhaaGreatDoor

/- What the program's addNames and Refs do. -/
namespace Go.Proofs.YtccmmkhcacglhaaGreatDoor
open Go.RowKit Go.Lib
set_option linter.unusedSimpArgs false
set_option linter.unusedVariables false
attribute [local go_sem ↓] Go.wp_at_zero Go.wp_at_succ

/-- Nothing has turned but the row of v, and new blocks; the row is where it was, or new. -/
structure Fr (w w' : World) (v u : Value) : Prop where
  grown : w.grownBy w' v.ownBlock
  lies : ∀ g, u.ownBlock = some g → v.ownBlock = some g ∨ w.heap.size ≤ g
theorem Fr.of {w w' : World} {B : Nat} (h : Below B w w') (hB : w.heap.size ≤ B) (v : Value) : Fr w w' v v := ⟨⟨h.os, h.tape, h.output, h.size, fun k hk _ => h.block k (by omega)⟩, fun g hg => .inl hg⟩
theorem Fr.trans {w w1 w2 : World} {v u t : Value} (h : Fr w w1 v u) (k : Fr w1 w2 u t) : Fr w w2 v t := by
  refine ⟨⟨k.grown.os.trans h.grown.os, k.grown.tape.trans h.grown.tape, k.grown.output.trans h.grown.output, Nat.le_trans h.grown.size k.grown.size, fun j hj hne => ?_⟩, fun g hg => ?_⟩
  · rw [k.grown.block j (Nat.lt_of_lt_of_le hj h.grown.size) (fun e => ?_), h.grown.block j hj hne]
    rcases h.lies j e.symm with q | q
    · exact hne q.symm
    · omega
  · rcases k.lies g hg with q | q
    · exact h.lies g q
    · exact .inr (Nat.le_trans h.grown.size q)
theorem Fr.below {w w' : World} {v u : Value} {B : Nat} (h : Fr w w' v u) (hB : B ≤ w.heap.size) (hv : ∀ g, v.ownBlock = some g → B ≤ g) : Below B w w' := (Below.refl B w).grown h.grown hB (fun k hk => hv k hk)
end Go.Proofs.YtccmmkhcacglhaaGreatDoor
