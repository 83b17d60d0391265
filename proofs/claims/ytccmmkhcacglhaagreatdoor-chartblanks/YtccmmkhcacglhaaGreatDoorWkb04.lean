import Derived.Test.YtccmmkhcacglhaaGreatDoorWkb02
import Derived.Test.YtccmmkhcacglhaaGreatDoorWkb03

/- The program's Same of ons. -/
namespace Go.Proofs.YtccmmkhcacglhaaGreatDoor
open Go.RowKit Go.Lib
set_option linter.unusedSimpArgs false
set_option linter.unusedVariables false
attribute [local go_sem ↓] Go.wp_at_zero Go.wp_at_succ

theorem sameG {o : OnC} (h : OnOk o) (w : World) : Calls Tryz.prog 124 #[gdV o.2.1, gdV o.2.1] w fun e w' => e = .returned (.bool true) ∧ Below w.heap.size w w' := by
  unfold gdV
  split
  · next hb => exact sameX (h.2.2.1 hb) w
  · exact sameX exOk_no w
set_option maxRecDepth 100000 in
set_option maxHeartbeats 8000000 in
theorem son2_nil (ev tg : ByteArray) (ol oc : Int) (s1 t1 : Option Addr) (ns s3 t3 : Nat) (w : World) (hs : ∀ w1, Below w.heap.size w w1 → Calls Tryz.prog 124 #[.nilIface, .nilIface] w1 fun e w' => e = .returned (.bool true) ∧ Below w1.heap.size w1 w') (hq : ∀ w1, Below w.heap.size w w1 → Calls Tryz.prog 125 #[.slice s1 ns s3, .slice t1 ns t3, .func (.func 126) #[] #[]] w1 fun e w' => e = .returned (.bool true) ∧ Below w1.heap.size w1 w') : Calls Tryz.prog 85 #[.agg #[.string ev, .nilIface, .string tg, .slice s1 ns s3, .int .i64 ol, .int .i64 oc], .agg #[.string ev, .nilIface, .string tg, .slice t1 ns t3, .int .i64 ol, .int .i64 oc]] w fun e w' => e = .returned (.bool true) ∧ Below w.heap.size w w' := by
  have hal : Below w.heap.size w ((w.alloc (.cells #[.string ev, .nilIface, .string tg, .slice s1 ns s3, .int .i64 ol, .int .i64 oc] 142)).alloc (.cells #[.string ev, .nilIface, .string tg, .slice t1 ns t3, .int .i64 ol, .int .i64 oc] 142)) := ((Below.refl w.heap.size w).alloc (Nat.le_refl _) _).alloc (by simp) _
  have hX : Bn ((w.alloc (.cells #[.string ev, .nilIface, .string tg, .slice s1 ns s3, .int .i64 ol, .int .i64 oc] 142)).alloc (.cells #[.string ev, .nilIface, .string tg, .slice t1 ns t3, .int .i64 ol, .int .i64 oc] 142)) w.heap.size [.string ev, .nilIface, .string tg, .slice s1 ns s3, .int .i64 ol, .int .i64 oc] := (Bn.new w [.string ev, .nilIface, .string tg, .slice s1 ns s3, .int .i64 ol, .int .i64 oc] 142 _ rfl).on ((Below.refl _ _).alloc (Nat.le_refl _) _)
  have hY : Bn ((w.alloc (.cells #[.string ev, .nilIface, .string tg, .slice s1 ns s3, .int .i64 ol, .int .i64 oc] 142)).alloc (.cells #[.string ev, .nilIface, .string tg, .slice t1 ns t3, .int .i64 ol, .int .i64 oc] 142)) (w.heap.size + 1) [.string ev, .nilIface, .string tg, .slice t1 ns t3, .int .i64 ol, .int .i64 oc] := Bn.new (w.alloc (.cells #[.string ev, .nilIface, .string tg, .slice s1 ns s3, .int .i64 ol, .int .i64 oc] 142)) [.string ev, .nilIface, .string tg, .slice t1 ns t3, .int .i64 ol, .int .i64 oc] 142 _ (by simp)
  go_enter Tryz.func85, Tryz.ntmps85
  go_upto_region 1 with fail
  generalize ((w.alloc (.cells #[.string ev, .nilIface, .string tg, .slice s1 ns s3, .int .i64 ol, .int .i64 oc] 142)).alloc (.cells #[.string ev, .nilIface, .string tg, .slice t1 ns t3, .int .i64 ol, .int .i64 oc] 142)) = wx at *
  have hB : Below wx.heap.size wx wx := Below.refl _ _
  obtain ⟨x0, _⟩ := hX 0 _ rfl
  obtain ⟨y0, _⟩ := hY 0 _ rfl
  obtain ⟨x1, _⟩ := hX 1 _ rfl
  obtain ⟨y1, _⟩ := hY 1 _ rfl
  obtain ⟨x2, _⟩ := hX 2 _ rfl
  obtain ⟨y2, _⟩ := hY 2 _ rfl
  obtain ⟨x3, _⟩ := hX 3 _ rfl
  obtain ⟨y3, _⟩ := hY 3 _ rfl
  obtain ⟨x4, _⟩ := hX 4 _ rfl
  obtain ⟨y4, _⟩ := hY 4 _ rfl
  obtain ⟨x5, _⟩ := hX 5 _ rfl
  obtain ⟨y5, _⟩ := hY 5 _ rfl
  go_wp2_with (first
    | (go_at_call 124; refine (hs _ (hal.trans (hB.mono hal.size))).mono ?_; rintro e w1 ⟨rfl, b1⟩; have hB := Below.nx hB b1; obtain ⟨x3, _⟩ := (hX.on hB) 3 _ rfl; obtain ⟨y3, _⟩ := (hY.on hB) 3 _ rfl)
    | (go_at_call 125; refine (hq _ (hal.trans (hB.mono hal.size))).mono ?_; rintro e w1 ⟨rfl, b1⟩; have hB := Below.nx hB b1; skip)
    | fail)
  go_ret
  exact ⟨rfl, hal.trans (hB.mono hal.size)⟩
set_option maxRecDepth 100000 in
set_option maxHeartbeats 8000000 in
theorem son2_ifc (ev tg : ByteArray) (gu : TypeId) (gy : Value) (ol oc : Int) (s1 t1 : Option Addr) (ns s3 t3 : Nat) (w : World) (hs : ∀ w1, Below w.heap.size w w1 → Calls Tryz.prog 124 #[.iface gu gy, .iface gu gy] w1 fun e w' => e = .returned (.bool true) ∧ Below w1.heap.size w1 w') (hq : ∀ w1, Below w.heap.size w w1 → Calls Tryz.prog 125 #[.slice s1 ns s3, .slice t1 ns t3, .func (.func 126) #[] #[]] w1 fun e w' => e = .returned (.bool true) ∧ Below w1.heap.size w1 w') : Calls Tryz.prog 85 #[.agg #[.string ev, .iface gu gy, .string tg, .slice s1 ns s3, .int .i64 ol, .int .i64 oc], .agg #[.string ev, .iface gu gy, .string tg, .slice t1 ns t3, .int .i64 ol, .int .i64 oc]] w fun e w' => e = .returned (.bool true) ∧ Below w.heap.size w w' := by
  have hal : Below w.heap.size w ((w.alloc (.cells #[.string ev, .iface gu gy, .string tg, .slice s1 ns s3, .int .i64 ol, .int .i64 oc] 142)).alloc (.cells #[.string ev, .iface gu gy, .string tg, .slice t1 ns t3, .int .i64 ol, .int .i64 oc] 142)) := ((Below.refl w.heap.size w).alloc (Nat.le_refl _) _).alloc (by simp) _
  have hX : Bn ((w.alloc (.cells #[.string ev, .iface gu gy, .string tg, .slice s1 ns s3, .int .i64 ol, .int .i64 oc] 142)).alloc (.cells #[.string ev, .iface gu gy, .string tg, .slice t1 ns t3, .int .i64 ol, .int .i64 oc] 142)) w.heap.size [.string ev, .iface gu gy, .string tg, .slice s1 ns s3, .int .i64 ol, .int .i64 oc] := (Bn.new w [.string ev, .iface gu gy, .string tg, .slice s1 ns s3, .int .i64 ol, .int .i64 oc] 142 _ rfl).on ((Below.refl _ _).alloc (Nat.le_refl _) _)
  have hY : Bn ((w.alloc (.cells #[.string ev, .iface gu gy, .string tg, .slice s1 ns s3, .int .i64 ol, .int .i64 oc] 142)).alloc (.cells #[.string ev, .iface gu gy, .string tg, .slice t1 ns t3, .int .i64 ol, .int .i64 oc] 142)) (w.heap.size + 1) [.string ev, .iface gu gy, .string tg, .slice t1 ns t3, .int .i64 ol, .int .i64 oc] := Bn.new (w.alloc (.cells #[.string ev, .iface gu gy, .string tg, .slice s1 ns s3, .int .i64 ol, .int .i64 oc] 142)) [.string ev, .iface gu gy, .string tg, .slice t1 ns t3, .int .i64 ol, .int .i64 oc] 142 _ (by simp)
  go_enter Tryz.func85, Tryz.ntmps85
  go_upto_region 1 with fail
  generalize ((w.alloc (.cells #[.string ev, .iface gu gy, .string tg, .slice s1 ns s3, .int .i64 ol, .int .i64 oc] 142)).alloc (.cells #[.string ev, .iface gu gy, .string tg, .slice t1 ns t3, .int .i64 ol, .int .i64 oc] 142)) = wx at *
  have hB : Below wx.heap.size wx wx := Below.refl _ _
  obtain ⟨x0, _⟩ := hX 0 _ rfl
  obtain ⟨y0, _⟩ := hY 0 _ rfl
  obtain ⟨x1, _⟩ := hX 1 _ rfl
  obtain ⟨y1, _⟩ := hY 1 _ rfl
  obtain ⟨x2, _⟩ := hX 2 _ rfl
  obtain ⟨y2, _⟩ := hY 2 _ rfl
  obtain ⟨x3, _⟩ := hX 3 _ rfl
  obtain ⟨y3, _⟩ := hY 3 _ rfl
  obtain ⟨x4, _⟩ := hX 4 _ rfl
  obtain ⟨y4, _⟩ := hY 4 _ rfl
  obtain ⟨x5, _⟩ := hX 5 _ rfl
  obtain ⟨y5, _⟩ := hY 5 _ rfl
  go_wp2_with (first
    | (go_at_call 124; refine (hs _ (hal.trans (hB.mono hal.size))).mono ?_; rintro e w1 ⟨rfl, b1⟩; have hB := Below.nx hB b1; obtain ⟨x3, _⟩ := (hX.on hB) 3 _ rfl; obtain ⟨y3, _⟩ := (hY.on hB) 3 _ rfl)
    | (go_at_call 125; refine (hq _ (hal.trans (hB.mono hal.size))).mono ?_; rintro e w1 ⟨rfl, b1⟩; have hB := Below.nx hB b1; skip)
    | fail)
  go_ret
  exact ⟨rfl, hal.trans (hB.mono hal.size)⟩
set_option maxRecDepth 100000 in
set_option maxHeartbeats 8000000 in
theorem eqfOn_any  {ok ok' : Nat → Prop} {w : World} {l : List (OnC)} {v v' : Value} (h : RdK ok w 6 (rOn ok w) l v) (h' : RdK ok' w 6 (rOn ok' w) l v') (hok : ∀ s ∈ l, OnOk s) :
    Calls Tryz.prog 84 #[v, v', .func (.func 85) #[] #[]] w fun e w' => e = .returned (.bool true) ∧ Below w.heap.size w w' := by
  obtain ⟨a, cap, rfl, hlc, hcm⟩ := h.form
  obtain ⟨a', cap', rfl, hlc', hcm'⟩ := h'.form
  unfold maxLen at hcm hcm'
  have HC := mkHid h
  have HC' := mkHid h'
  have HK := mkHid hok
  obtain ⟨n, hn⟩ : ∃ n, l.length = n := ⟨_, rfl⟩
  rw [hn] at hlc hlc' ⊢
  have HN : Hid (l.length = n) := hn
  clear h h' hok hn
  go_enter Tryz.func84, Tryz.ntmps84
  go_wp2
  go_loopw [17] (fun ix wr => ∃ (i : Nat), i ≤ n ∧ ix = .int .i64 (i : Int) ∧ Below w.heap.size w wr) (fun ix _ => n - (RowKit.intOf ix).toNat)
  case atStart => exact ⟨0, Nat.zero_le _, rfl, Below.refl _ _⟩
  case round =>
    obtain ⟨i, hi, rfl, hb⟩ := hrel
    by_cases hlt : i < n
    · have hil : i < l.length := by rw [HN.out]; exact hlt
      obtain ⟨b, off, s1, s3, rfl, hbl, hSe, hc⟩ := onQ_at HC.out i hil
      obtain ⟨b', off', t1, t3, rfl, hbl', hSe', hc'⟩ := onQ_at HC'.out i hil
      have hko := HK.out _ (List.getElem_mem hil)
      obtain ⟨o, ho⟩ : ∃ o, l[i] = o := ⟨_, rfl⟩
      rw [ho] at hSe hc hko hSe' hc'
      obtain ⟨ns, hns⟩ : ∃ m, o.2.2.2.1.length = m := ⟨_, rfl⟩
      rw [hns] at hSe hc hSe' hc'
      have hform := gdV_form o.2.1
      have hsm := sameG hko
      obtain ⟨gv, hgv⟩ : ∃ gv, gdV o.2.1 = gv := ⟨_, rfl⟩
      obtain ⟨ev, tg, ol, oc, hov⟩ : ∃ ev tg ol oc, onV o = fun sl => [.string ev, gdV o.2.1, .string tg, sl, .int .i64 ol, .int .i64 oc] := ⟨_, _, _, _, rfl⟩
      rw [hov] at hc hc'
      rw [hgv] at hform hsm hc hc'
      have HSE := mkHid hSe
      have HSE' := mkHid hSe'
      have HKO := mkHid hko
      clear ho hns hgv hov hSe hSe' hko
      have i1 : (i : Int) < (n : Int) := by omega
      have i2 : (0 : Int) ≤ (i : Int) := by omega
      have C0 := (hb.cell (p := ⟨b, off + i * 6 + 0, none⟩) hbl).trans (hc 0 _ rfl)
      have D0 := (hb.cell (p := ⟨b', off' + i * 6 + 0, none⟩) hbl').trans (hc' 0 _ rfl)
      have C1 := (hb.cell (p := ⟨b, off + i * 6 + 1, none⟩) hbl).trans (hc 1 _ rfl)
      have D1 := (hb.cell (p := ⟨b', off' + i * 6 + 1, none⟩) hbl').trans (hc' 1 _ rfl)
      have C2 := (hb.cell (p := ⟨b, off + i * 6 + 2, none⟩) hbl).trans (hc 2 _ rfl)
      have D2 := (hb.cell (p := ⟨b', off' + i * 6 + 2, none⟩) hbl').trans (hc' 2 _ rfl)
      have C3 := (hb.cell (p := ⟨b, off + i * 6 + 3, none⟩) hbl).trans (hc 3 _ rfl)
      have D3 := (hb.cell (p := ⟨b', off' + i * 6 + 3, none⟩) hbl').trans (hc' 3 _ rfl)
      have C4 := (hb.cell (p := ⟨b, off + i * 6 + 4, none⟩) hbl).trans (hc 4 _ rfl)
      have D4 := (hb.cell (p := ⟨b', off' + i * 6 + 4, none⟩) hbl').trans (hc' 4 _ rfl)
      have C5 := (hb.cell (p := ⟨b, off + i * 6 + 5, none⟩) hbl).trans (hc 5 _ rfl)
      have D5 := (hb.cell (p := ⟨b', off' + i * 6 + 5, none⟩) hbl').trans (hc' 5 _ rfl)
      clear hc hc'
      rcases hform with rfl | ⟨gu, gy, rfl⟩
      · have hal : Below wr.heap.size wr ((wr.alloc (.cells #[.string ev, .nilIface, .string tg, .slice s1 ns s3, .int .i64 ol, .int .i64 oc] 142)).alloc (.cells #[.string ev, .nilIface, .string tg, .slice t1 ns t3, .int .i64 ol, .int .i64 oc] 142)) := ((Below.refl _ _).alloc (Nat.le_refl _) _).alloc (by simp) _
        have hX : Bn ((wr.alloc (.cells #[.string ev, .nilIface, .string tg, .slice s1 ns s3, .int .i64 ol, .int .i64 oc] 142)).alloc (.cells #[.string ev, .nilIface, .string tg, .slice t1 ns t3, .int .i64 ol, .int .i64 oc] 142)) wr.heap.size [.string ev, .nilIface, .string tg, .slice s1 ns s3, .int .i64 ol, .int .i64 oc] := (Bn.new wr [.string ev, .nilIface, .string tg, .slice s1 ns s3, .int .i64 ol, .int .i64 oc] 142 _ rfl).on ((Below.refl _ _).alloc (Nat.le_refl _) _)
        have hY : Bn ((wr.alloc (.cells #[.string ev, .nilIface, .string tg, .slice s1 ns s3, .int .i64 ol, .int .i64 oc] 142)).alloc (.cells #[.string ev, .nilIface, .string tg, .slice t1 ns t3, .int .i64 ol, .int .i64 oc] 142)) (wr.heap.size + 1) [.string ev, .nilIface, .string tg, .slice t1 ns t3, .int .i64 ol, .int .i64 oc] := Bn.new (wr.alloc (.cells #[.string ev, .nilIface, .string tg, .slice s1 ns s3, .int .i64 ol, .int .i64 oc] 142)) [.string ev, .nilIface, .string tg, .slice t1 ns t3, .int .i64 ol, .int .i64 oc] 142 _ (by simp)
        have hal1 := (Below.refl wr.heap.size wr).alloc (Nat.le_refl _) (.cells #[.string ev, .nilIface, .string tg, .slice s1 ns s3, .int .i64 ol, .int .i64 oc] 142)
        have E0 := (hal1.cell (p := ⟨b', off' + i * 6 + 0, none⟩) (Nat.lt_of_lt_of_le hbl' hb.size)).trans D0
        have E1 := (hal1.cell (p := ⟨b', off' + i * 6 + 1, none⟩) (Nat.lt_of_lt_of_le hbl' hb.size)).trans D1
        have E2 := (hal1.cell (p := ⟨b', off' + i * 6 + 2, none⟩) (Nat.lt_of_lt_of_le hbl' hb.size)).trans D2
        have E3 := (hal1.cell (p := ⟨b', off' + i * 6 + 3, none⟩) (Nat.lt_of_lt_of_le hbl' hb.size)).trans D3
        have E4 := (hal1.cell (p := ⟨b', off' + i * 6 + 4, none⟩) (Nat.lt_of_lt_of_le hbl' hb.size)).trans D4
        have E5 := (hal1.cell (p := ⟨b', off' + i * 6 + 5, none⟩) (Nat.lt_of_lt_of_le hbl' hb.size)).trans D5
        rw [Nat.add_zero] at E0 C0
        have hbx := hb.trans (hal.mono hb.size)
        have hcall : ∀ w1, Below w.heap.size w w1 → Calls Tryz.prog 85 #[.agg #[.string ev, .nilIface, .string tg, .slice s1 ns s3, .int .i64 ol, .int .i64 oc], .agg #[.string ev, .nilIface, .string tg, .slice t1 ns t3, .int .i64 ol, .int .i64 oc]] w1 fun e w' => e = .returned (.bool true) ∧ Below w1.heap.size w1 w' := fun w1 b1 => son2_nil ev tg ol oc s1 t1 ns s3 t3 w1 (fun w2 _ => hsm w2) (fun w2 b2 => eqfSet_any (HSE.out.stay kp_set (ok' := ok) (fun b hb hl => ⟨hb, ((b2.block b (Nat.lt_of_lt_of_le hl b1.size)).trans (b1.block b hl))⟩)) (HSE'.out.stay kp_set (ok' := ok') (fun b hb hl => ⟨hb, ((b2.block b (Nat.lt_of_lt_of_le hl b1.size)).trans (b1.block b hl))⟩)) HKO.out.2.2.2.1)
        clear hsm
        go_upto_region 7 with fail
        clear C0 D0 E0 C1 D1 E1 C2 D2 E2 C3 D3 E3 C4 D4 E4 C5 D5 E5 hal1
        generalize ((wr.alloc (.cells #[.string ev, .nilIface, .string tg, .slice s1 ns s3, .int .i64 ol, .int .i64 oc] 142)).alloc (.cells #[.string ev, .nilIface, .string tg, .slice t1 ns t3, .int .i64 ol, .int .i64 oc] 142)) = wx at *
        obtain ⟨x0, _⟩ := hX 0 _ rfl
        obtain ⟨y0, _⟩ := hY 0 _ rfl
        obtain ⟨x1, _⟩ := hX 1 _ rfl
        obtain ⟨y1, _⟩ := hY 1 _ rfl
        obtain ⟨x2, _⟩ := hX 2 _ rfl
        obtain ⟨y2, _⟩ := hY 2 _ rfl
        obtain ⟨x3, _⟩ := hX 3 _ rfl
        obtain ⟨y3, _⟩ := hY 3 _ rfl
        obtain ⟨x4, _⟩ := hX 4 _ rfl
        obtain ⟨y4, _⟩ := hY 4 _ rfl
        obtain ⟨x5, _⟩ := hX 5 _ rfl
        obtain ⟨y5, _⟩ := hY 5 _ rfl
        go_wp2_with (first
          | (go_at_call 85; refine (hcall _ hbx).mono ?_; rintro e w1 ⟨rfl, b1⟩)
          | fail)
        have hb2 := hbx.trans (b1.mono hbx.size)
        go_wp2
        go_roundw
        case rel => exact ⟨i + 1, hlt, by go_num, hb2⟩
        case measure => simp [RowKit.intOf]; omega
      · have hal : Below wr.heap.size wr ((wr.alloc (.cells #[.string ev, .iface gu gy, .string tg, .slice s1 ns s3, .int .i64 ol, .int .i64 oc] 142)).alloc (.cells #[.string ev, .iface gu gy, .string tg, .slice t1 ns t3, .int .i64 ol, .int .i64 oc] 142)) := ((Below.refl _ _).alloc (Nat.le_refl _) _).alloc (by simp) _
        have hX : Bn ((wr.alloc (.cells #[.string ev, .iface gu gy, .string tg, .slice s1 ns s3, .int .i64 ol, .int .i64 oc] 142)).alloc (.cells #[.string ev, .iface gu gy, .string tg, .slice t1 ns t3, .int .i64 ol, .int .i64 oc] 142)) wr.heap.size [.string ev, .iface gu gy, .string tg, .slice s1 ns s3, .int .i64 ol, .int .i64 oc] := (Bn.new wr [.string ev, .iface gu gy, .string tg, .slice s1 ns s3, .int .i64 ol, .int .i64 oc] 142 _ rfl).on ((Below.refl _ _).alloc (Nat.le_refl _) _)
        have hY : Bn ((wr.alloc (.cells #[.string ev, .iface gu gy, .string tg, .slice s1 ns s3, .int .i64 ol, .int .i64 oc] 142)).alloc (.cells #[.string ev, .iface gu gy, .string tg, .slice t1 ns t3, .int .i64 ol, .int .i64 oc] 142)) (wr.heap.size + 1) [.string ev, .iface gu gy, .string tg, .slice t1 ns t3, .int .i64 ol, .int .i64 oc] := Bn.new (wr.alloc (.cells #[.string ev, .iface gu gy, .string tg, .slice s1 ns s3, .int .i64 ol, .int .i64 oc] 142)) [.string ev, .iface gu gy, .string tg, .slice t1 ns t3, .int .i64 ol, .int .i64 oc] 142 _ (by simp)
        have hal1 := (Below.refl wr.heap.size wr).alloc (Nat.le_refl _) (.cells #[.string ev, .iface gu gy, .string tg, .slice s1 ns s3, .int .i64 ol, .int .i64 oc] 142)
        have E0 := (hal1.cell (p := ⟨b', off' + i * 6 + 0, none⟩) (Nat.lt_of_lt_of_le hbl' hb.size)).trans D0
        have E1 := (hal1.cell (p := ⟨b', off' + i * 6 + 1, none⟩) (Nat.lt_of_lt_of_le hbl' hb.size)).trans D1
        have E2 := (hal1.cell (p := ⟨b', off' + i * 6 + 2, none⟩) (Nat.lt_of_lt_of_le hbl' hb.size)).trans D2
        have E3 := (hal1.cell (p := ⟨b', off' + i * 6 + 3, none⟩) (Nat.lt_of_lt_of_le hbl' hb.size)).trans D3
        have E4 := (hal1.cell (p := ⟨b', off' + i * 6 + 4, none⟩) (Nat.lt_of_lt_of_le hbl' hb.size)).trans D4
        have E5 := (hal1.cell (p := ⟨b', off' + i * 6 + 5, none⟩) (Nat.lt_of_lt_of_le hbl' hb.size)).trans D5
        rw [Nat.add_zero] at E0 C0
        have hbx := hb.trans (hal.mono hb.size)
        have hcall : ∀ w1, Below w.heap.size w w1 → Calls Tryz.prog 85 #[.agg #[.string ev, .iface gu gy, .string tg, .slice s1 ns s3, .int .i64 ol, .int .i64 oc], .agg #[.string ev, .iface gu gy, .string tg, .slice t1 ns t3, .int .i64 ol, .int .i64 oc]] w1 fun e w' => e = .returned (.bool true) ∧ Below w1.heap.size w1 w' := fun w1 b1 => son2_ifc ev tg gu gy ol oc s1 t1 ns s3 t3 w1 (fun w2 _ => hsm w2) (fun w2 b2 => eqfSet_any (HSE.out.stay kp_set (ok' := ok) (fun b hb hl => ⟨hb, ((b2.block b (Nat.lt_of_lt_of_le hl b1.size)).trans (b1.block b hl))⟩)) (HSE'.out.stay kp_set (ok' := ok') (fun b hb hl => ⟨hb, ((b2.block b (Nat.lt_of_lt_of_le hl b1.size)).trans (b1.block b hl))⟩)) HKO.out.2.2.2.1)
        clear hsm
        go_upto_region 7 with fail
        clear C0 D0 E0 C1 D1 E1 C2 D2 E2 C3 D3 E3 C4 D4 E4 C5 D5 E5 hal1
        generalize ((wr.alloc (.cells #[.string ev, .iface gu gy, .string tg, .slice s1 ns s3, .int .i64 ol, .int .i64 oc] 142)).alloc (.cells #[.string ev, .iface gu gy, .string tg, .slice t1 ns t3, .int .i64 ol, .int .i64 oc] 142)) = wx at *
        obtain ⟨x0, _⟩ := hX 0 _ rfl
        obtain ⟨y0, _⟩ := hY 0 _ rfl
        obtain ⟨x1, _⟩ := hX 1 _ rfl
        obtain ⟨y1, _⟩ := hY 1 _ rfl
        obtain ⟨x2, _⟩ := hX 2 _ rfl
        obtain ⟨y2, _⟩ := hY 2 _ rfl
        obtain ⟨x3, _⟩ := hX 3 _ rfl
        obtain ⟨y3, _⟩ := hY 3 _ rfl
        obtain ⟨x4, _⟩ := hX 4 _ rfl
        obtain ⟨y4, _⟩ := hY 4 _ rfl
        obtain ⟨x5, _⟩ := hX 5 _ rfl
        obtain ⟨y5, _⟩ := hY 5 _ rfl
        go_wp2_with (first
          | (go_at_call 85; refine (hcall _ hbx).mono ?_; rintro e w1 ⟨rfl, b1⟩)
          | fail)
        have hb2 := hbx.trans (b1.mono hbx.size)
        go_wp2
        go_roundw
        case rel => exact ⟨i + 1, hlt, by go_num, hb2⟩
        case measure => simp [RowKit.intOf]; omega
    · have i1 : ¬ (i : Int) < (n : Int) := by omega
      go_wp2
      go_ret
      exact ⟨rfl, hb⟩
end Go.Proofs.YtccmmkhcacglhaaGreatDoor

/- What the program's stripAlone is. -/
namespace Go.Proofs.YtccmmkhcacglhaaGreatDoor
open Go.RowKit Go.Lib
set_option linter.unusedSimpArgs false
set_option linter.unusedVariables false
attribute [local go_sem ↓] Go.wp_at_zero Go.wp_at_succ

theorem cst_res {w4 : World} {R : Nat} {a b c d e f g h i j k : Value} {tmps : Array Value} (hR : Bn w4 R [a, b, c, d, e, f, g, h, i, j, k]) (ht : tmps.getD 2 undef = .pointer (some ⟨R, 0, none⟩)) : (results Tryz.f50 tmps).run Tryz.prog w4 = .ok (.agg #[a, b, c, d, e, f, g, h, i, j, k]) w4 := by
  have ht' : tmps[2]?.getD undef = .pointer (some ⟨R, 0, none⟩) := by simpa using ht
  have c0 := (hR 0 _ rfl).1
  have c1 := (hR 1 _ rfl).1
  have c2 := (hR 2 _ rfl).1
  have c3 := (hR 3 _ rfl).1
  have c4 := (hR 4 _ rfl).1
  have c5 := (hR 5 _ rfl).1
  have c6 := (hR 6 _ rfl).1
  have c7 := (hR 7 _ rfl).1
  have c8 := (hR 8 _ rfl).1
  have c9 := (hR 9 _ rfl).1
  have c10 := (hR 10 _ rfl).1
  simp [results, Tryz.results50, go_sem, ht', c0, c1, c2, c3, c4, c5, c6, c7, c8, c9, c10]
set_option maxRecDepth 100000 in
set_option maxHeartbeats 8000000 in
theorem salone_any {ok : Nat → Prop} {w : World} (sn : ByteArray) (sl sc : Int) (sb se : Bool) (sd su : ByteArray) (sw sr : Int) (p1 : Option Addr) (m p3 : Nat) (p4 : Option Addr) (i p6 : Nat) (l : List OnC) (h1 : sn.size ≤ 140737488351232) (h2 : sd.size ≤ 140737488351232) (h3 : su.size ≤ 140737488351232)
    (hs : RdK ok w 6 (rOn ok w) l (.slice p1 m p3)) (hn : l.length = m) (hl : m ≤ 100000) (hok : ∀ s ∈ l, OnOk s) : Calls Tryz.prog 50 #[.agg #[.string sn, .int .i64 sl, .int .i64 sc, .bool sb, .bool se, .string sd, .string su, .int .i64 sw, .int .i64 sr, .slice p1 m p3, .slice p4 i p6]] w fun e w' => ∃ u1 u3, e = .returned (.agg #[.string sn, .int .i64 0, .int .i64 0, .bool sb, .bool se, .string sd, .string su, .int .i64 sw, .int .i64 sr, .slice u1 m u3, .slice p4 i p6]) ∧ RdK (fun b => w.heap.size ≤ b) w' 6 (rOn (fun b => w.heap.size ≤ b) w') (l.map stO) (.slice u1 m u3) ∧ Below w.heap.size w w' := by
  have g1 := fun w1 => pClone_any sn w1 h1
  have g2 := fun w1 => pClone_any sd w1 h2
  have g3 := fun w1 => pClone_any su w1 h3
  have hal : Below w.heap.size w ((w.alloc (.cells #[.string sn, .int .i64 sl, .int .i64 sc, .bool sb, .bool se, .string sd, .string su, .int .i64 sw, .int .i64 sr, .slice p1 m p3, .slice p4 i p6] 52)).alloc (.cells #[.string ⟨#[]⟩, .int .i64 0, .int .i64 0, .bool false, .bool false, .string ⟨#[]⟩, .string ⟨#[]⟩, .int .i64 0, .int .i64 0, .slice none 0 0, .slice none 0 0] 52)) := ((Below.refl w.heap.size w).alloc (Nat.le_refl _) _).alloc (by simp) _
  have hX : Bn ((w.alloc (.cells #[.string sn, .int .i64 sl, .int .i64 sc, .bool sb, .bool se, .string sd, .string su, .int .i64 sw, .int .i64 sr, .slice p1 m p3, .slice p4 i p6] 52)).alloc (.cells #[.string ⟨#[]⟩, .int .i64 0, .int .i64 0, .bool false, .bool false, .string ⟨#[]⟩, .string ⟨#[]⟩, .int .i64 0, .int .i64 0, .slice none 0 0, .slice none 0 0] 52)) w.heap.size [.string sn, .int .i64 sl, .int .i64 sc, .bool sb, .bool se, .string sd, .string su, .int .i64 sw, .int .i64 sr, .slice p1 m p3, .slice p4 i p6] := (Bn.new w [.string sn, .int .i64 sl, .int .i64 sc, .bool sb, .bool se, .string sd, .string su, .int .i64 sw, .int .i64 sr, .slice p1 m p3, .slice p4 i p6] 52 _ rfl).on ((Below.refl _ _).alloc (Nat.le_refl _) _)
  have hR : Bn ((w.alloc (.cells #[.string sn, .int .i64 sl, .int .i64 sc, .bool sb, .bool se, .string sd, .string su, .int .i64 sw, .int .i64 sr, .slice p1 m p3, .slice p4 i p6] 52)).alloc (.cells #[.string ⟨#[]⟩, .int .i64 0, .int .i64 0, .bool false, .bool false, .string ⟨#[]⟩, .string ⟨#[]⟩, .int .i64 0, .int .i64 0, .slice none 0 0, .slice none 0 0] 52)) (w.heap.size + 1) [.string ⟨#[]⟩, .int .i64 0, .int .i64 0, .bool false, .bool false, .string ⟨#[]⟩, .string ⟨#[]⟩, .int .i64 0, .int .i64 0, .slice none 0 0, .slice none 0 0] := Bn.new (w.alloc (.cells #[.string sn, .int .i64 sl, .int .i64 sc, .bool sb, .bool se, .string sd, .string su, .int .i64 sw, .int .i64 sr, .slice p1 m p3, .slice p4 i p6] 52)) [.string ⟨#[]⟩, .int .i64 0, .int .i64 0, .bool false, .bool false, .string ⟨#[]⟩, .string ⟨#[]⟩, .int .i64 0, .int .i64 0, .slice none 0 0, .slice none 0 0] 52 _ (by simp)
  have hsz : w.heap.size + 2 ≤ ((w.alloc (.cells #[.string sn, .int .i64 sl, .int .i64 sc, .bool sb, .bool se, .string sd, .string su, .int .i64 sw, .int .i64 sr, .slice p1 m p3, .slice p4 i p6] 52)).alloc (.cells #[.string ⟨#[]⟩, .int .i64 0, .int .i64 0, .bool false, .bool false, .string ⟨#[]⟩, .string ⟨#[]⟩, .int .i64 0, .int .i64 0, .slice none 0 0, .slice none 0 0] 52)).heap.size := by simp
  go_enter Tryz.func50, Tryz.ntmps50
  go_upto_region 1 with fail
  generalize ((w.alloc (.cells #[.string sn, .int .i64 sl, .int .i64 sc, .bool sb, .bool se, .string sd, .string su, .int .i64 sw, .int .i64 sr, .slice p1 m p3, .slice p4 i p6] 52)).alloc (.cells #[.string ⟨#[]⟩, .int .i64 0, .int .i64 0, .bool false, .bool false, .string ⟨#[]⟩, .string ⟨#[]⟩, .int .i64 0, .int .i64 0, .slice none 0 0, .slice none 0 0] 52)) = wx at *
  obtain ⟨c0, e0⟩ := hX 0 _ rfl
  go_upto_region 2 with (first
    | (go_at_call 46; refine (g1 _).mono ?_; rintro e w1 ⟨rfl, b1⟩; have hX1 := hX.on b1; obtain ⟨x0, y0⟩ := hX1 0 _ rfl))
  have hX2 := hX1.set (i := 0) (by simp) (.string sn)
  have hR2 := (hR.on b1).far (X := w.heap.size) (i := 0) (by omega) (.string sn)
  have hB2 : Below w.heap.size w (w1.setCell ⟨w.heap.size, 0, none⟩ (.string sn)) := (hal.trans (b1.mono (by omega))).setCell (Nat.le_refl _) _
  have hs2 : w.heap.size + 2 ≤ (w1.setCell ⟨w.heap.size, 0, none⟩ (.string sn)).heap.size := by simpa using Nat.le_trans hsz b1.size
  clear hX hR hX1 x0 y0 c0 e0 b1 hal hsz
  generalize w1.setCell ⟨w.heap.size, 0, none⟩ (.string sn) = w2 at *
  obtain ⟨a1, q1⟩ := hX2 1 _ rfl
  obtain ⟨a2, q2⟩ := hX2 2 _ rfl
  go_upto_region 3 with fail
  have hX3 := (hX2.set (i := 1) (by simp) (.int .i64 0)).set (i := 2) (by simp) (.int .i64 0)
  have hR3 := (hR2.far (X := w.heap.size) (i := 1) (by omega) (.int .i64 0)).far (X := w.heap.size) (i := 2) (by omega) (.int .i64 0)
  have hB3 : Below w.heap.size w ((w2.setCell ⟨w.heap.size, 1, none⟩ (.int .i64 0)).setCell ⟨w.heap.size, 2, none⟩ (.int .i64 0)) := (hB2.setCell (p := ⟨w.heap.size, 1, none⟩) (Nat.le_refl _) _).setCell (p := ⟨w.heap.size, 2, none⟩) (Nat.le_refl _) _
  have hs3 : w.heap.size + 2 ≤ ((w2.setCell ⟨w.heap.size, 1, none⟩ (.int .i64 0)).setCell ⟨w.heap.size, 2, none⟩ (.int .i64 0)).heap.size := by simpa using hs2
  clear hX2 hR2 hB2 hs2 a1 q1 a2 q2
  generalize (w2.setCell ⟨w.heap.size, 1, none⟩ (.int .i64 0)).setCell ⟨w.heap.size, 2, none⟩ (.int .i64 0) = w3 at *
  obtain ⟨c5, e5⟩ := hX3 5 _ rfl
  go_upto_region 4 with (first
    | (go_at_call 46; refine (g2 _).mono ?_; rintro e w4 ⟨rfl, b4⟩; have hX4 := hX3.on b4; obtain ⟨x5, y5⟩ := hX4 5 _ rfl))
  have hX5 := hX4.set (i := 5) (by simp) (.string sd)
  have hR5 := (hR3.on b4).far (X := w.heap.size) (i := 5) (by omega) (.string sd)
  have hB5 : Below w.heap.size w (w4.setCell ⟨w.heap.size, 5, none⟩ (.string sd)) := (hB3.trans (b4.mono (by omega))).setCell (Nat.le_refl _) _
  have hs5 : w.heap.size + 2 ≤ (w4.setCell ⟨w.heap.size, 5, none⟩ (.string sd)).heap.size := by simpa using Nat.le_trans hs3 b4.size
  clear hX3 hR3 hX4 x5 y5 c5 e5 b4 hB3 hs3
  generalize w4.setCell ⟨w.heap.size, 5, none⟩ (.string sd) = w5 at *
  obtain ⟨c6, e6⟩ := hX5 6 _ rfl
  go_upto_region 5 with (first
    | (go_at_call 46; refine (g3 _).mono ?_; rintro e w6 ⟨rfl, b6⟩; have hX6 := hX5.on b6; obtain ⟨x6, y6⟩ := hX6 6 _ rfl))
  have hX7 := hX6.set (i := 6) (by simp) (.string su)
  have hR7 := (hR5.on b6).far (X := w.heap.size) (i := 6) (by omega) (.string su)
  have hB7 : Below w.heap.size w (w6.setCell ⟨w.heap.size, 6, none⟩ (.string su)) := (hB5.trans (b6.mono (by omega))).setCell (Nat.le_refl _) _
  have hs7 : w.heap.size + 2 ≤ (w6.setCell ⟨w.heap.size, 6, none⟩ (.string su)).heap.size := by simpa using Nat.le_trans hs5 b6.size
  clear hX5 hR5 hX6 x6 y6 c6 e6 b6 hB5 hs5
  generalize w6.setCell ⟨w.heap.size, 6, none⟩ (.string su) = w7 at *
  have hE : Calls Tryz.prog 88 #[.slice p1 m p3, .func (.func 89) #[] #[]] w7 fun e w' => ∃ u1 u3, e = .returned (.slice u1 m u3) ∧ RdK (fun b => w7.heap.size ≤ b) w' 6 (rOn (fun b => w7.heap.size ≤ b) w') (l.map stO) (.slice u1 m u3) ∧ Below w7.heap.size w7 w' := by
    refine (eachOn_any (hs.stay kp_on (ok' := ok) (w' := w7) (fun b hb hl => ⟨hb, hB7.block b hl⟩)) (by omega) hok).mono ?_
    rintro e w' ⟨u, h1, h2, h3⟩
    obtain ⟨u1, u3, rfl, _⟩ := h2.form
    rw [List.length_map, hn] at h1 h2
    exact ⟨u1, u3, h1, h2, h3⟩
  obtain ⟨c9, e9⟩ := hX7 9 _ rfl
  go_upto_region 6 with (first
    | (go_at_call 88; refine hE.mono ?_; rintro e w8 ⟨u1, u3, rfl, hr, b8⟩; have hX8 := hX7.on b8; obtain ⟨x9, y9⟩ := hX8 9 _ rfl))
  have hX9 : Bn (w8.setCell ⟨w.heap.size, 9, none⟩ (.slice u1 m u3)) w.heap.size [.string sn, .int .i64 0, .int .i64 0, .bool sb, .bool se, .string sd, .string su, .int .i64 sw, .int .i64 sr, .slice u1 m u3, .slice p4 i p6] := hX8.set (i := 9) (by simp) (.slice u1 m u3)
  have hR9 := (hR7.on b8).far (X := w.heap.size) (i := 9) (by omega) (.slice u1 m u3)
  have hB9 : Below w.heap.size w (w8.setCell ⟨w.heap.size, 9, none⟩ (.slice u1 m u3)) := (hB7.trans (b8.mono (by omega))).setCell (Nat.le_refl _) _
  have hr9 := hr.stay kp_on (ok' := fun b => w.heap.size + 2 ≤ b) (w' := w8.setCell ⟨w.heap.size, 9, none⟩ (.slice u1 m u3)) (fun b hb hl => ⟨by omega, Below.heap_setCell _ _ _ _ (fun e => by have e2 : b = w.heap.size := e; omega)⟩)
  clear hX7 hR7 hX8 x9 y9 c9 e9 b8 hB7 hs7 hr hE
  generalize w8.setCell ⟨w.heap.size, 9, none⟩ (.slice u1 m u3) = w9 at *
  obtain ⟨k0, _⟩ := hX9 0 _ rfl
  obtain ⟨r0, f0⟩ := hR9 0 _ rfl
  obtain ⟨k1, _⟩ := hX9 1 _ rfl
  obtain ⟨r1, f1⟩ := hR9 1 _ rfl
  obtain ⟨k2, _⟩ := hX9 2 _ rfl
  obtain ⟨r2, f2⟩ := hR9 2 _ rfl
  obtain ⟨k3, _⟩ := hX9 3 _ rfl
  obtain ⟨r3, f3⟩ := hR9 3 _ rfl
  obtain ⟨k4, _⟩ := hX9 4 _ rfl
  obtain ⟨r4, f4⟩ := hR9 4 _ rfl
  obtain ⟨k5, _⟩ := hX9 5 _ rfl
  obtain ⟨r5, f5⟩ := hR9 5 _ rfl
  obtain ⟨k6, _⟩ := hX9 6 _ rfl
  obtain ⟨r6, f6⟩ := hR9 6 _ rfl
  obtain ⟨k7, _⟩ := hX9 7 _ rfl
  obtain ⟨r7, f7⟩ := hR9 7 _ rfl
  obtain ⟨k8, _⟩ := hX9 8 _ rfl
  obtain ⟨r8, f8⟩ := hR9 8 _ rfl
  obtain ⟨k9, _⟩ := hX9 9 _ rfl
  obtain ⟨r9, f9⟩ := hR9 9 _ rfl
  obtain ⟨k10, _⟩ := hX9 10 _ rfl
  obtain ⟨r10, f10⟩ := hR9 10 _ rfl
  have hRz := ((((((((((hR9.set (i := 0) (by simp) (.string sn)).set (i := 1) (by simp) (.int .i64 0)).set (i := 2) (by simp) (.int .i64 0)).set (i := 3) (by simp) (.bool sb)).set (i := 4) (by simp) (.bool se)).set (i := 5) (by simp) (.string sd)).set (i := 6) (by simp) (.string su)).set (i := 7) (by simp) (.int .i64 sw)).set (i := 8) (by simp) (.int .i64 sr)).set (i := 9) (by simp) (.slice u1 m u3)).set (i := 10) (by simp) (.slice p4 i p6)
  have hbz := putL_below [.string sn, .int .i64 0, .int .i64 0, .bool sb, .bool se, .string sd, .string su, .int .i64 sw, .int .i64 sr, .slice u1 m u3, .slice p4 i p6] w9 (w.heap.size + 1) 0 hB9 (by omega)
  have hrz := hr9.stay kp_on (ok' := fun b => w.heap.size ≤ b) (w' := putL w9 (w.heap.size + 1) 0 [.string sn, .int .i64 0, .int .i64 0, .bool sb, .bool se, .string sd, .string su, .int .i64 sw, .int .i64 sr, .slice u1 m u3, .slice p4 i p6]) (fun b hb hl => ⟨by omega, putL_heap _ _ _ _ _ (by omega)⟩)
  go_wp2
  exact bodyPost_ret (cst_res hRz rfl) rfl ⟨u1, u3, rfl, hrz, hbz⟩
end Go.Proofs.YtccmmkhcacglhaaGreatDoor

/- What the program's each is over states. -/
namespace Go.Proofs.YtccmmkhcacglhaaGreatDoor
open Go.RowKit Go.Lib
set_option linter.unusedSimpArgs false
set_option linter.unusedVariables false
attribute [local go_sem ↓] Go.wp_at_zero Go.wp_at_succ

theorem Tryz.infoESt : (Tryz.prog.info? 52).map (fun i => (i.zero, i.size, i.bytes)) = some (some (.agg #[.string ⟨#[]⟩, .int .i64 0, .int .i64 0, .bool false, .bool false, .string ⟨#[]⟩, .string ⟨#[]⟩, .int .i64 0, .int .i64 0, .slice none 0 0, .slice none 0 0]), 11, 136) := by kernel_rfl
def stH (h : HdC) : HdC := ((h.1.1, (0, 0)), h.2.1, h.2.2.1, h.2.2.2.1, h.2.2.2.2.map stO)
def HdOk (h : HdC) : Prop := h.1.1.length ≤ 140737488351232 ∧ h.2.2.1.1.length ≤ 140737488351232 ∧ h.2.2.1.2.length ≤ 140737488351232 ∧ h.2.2.2.2.length ≤ 100000 ∧ ∀ o ∈ h.2.2.2.2, OnOk o
/-- A state stripped by itself: what lies in it is as it was, in the memory that was. -/
def rHf (d : Nat) (okO : Nat → Prop) (w0 : World) (ok : Nat → Prop) (w : World) (t : St (d + 1)) (cs : List Value) : Prop := ∃ so si, cs = hdV (stH t.1) so si ∧ RdK ok w 6 (rOn ok w) (t.1.2.2.2.2.map stO) so ∧ RdK okO w0 11 (rSt d okO w0) t.2 si
theorem kp_hf (d : Nat) (okO : Nat → Prop) (w0 : World) : Kp (rHf d okO w0) := fun _ _ _ _ _ _ ⟨so, si, h, h1, h2⟩ hk => ⟨so, si, h, h1.stay kp_on hk, h2⟩
theorem stQ_at {ok : Nat → Prop} {w : World} {d : Nat} {l : List (St (d + 1))} {a : Option Addr} {n cap : Nat} (h : RdK ok w 11 (rSt (d + 1) ok w) l (.slice a n cap)) (j : Nat) (hj : j < l.length) : ∃ b off p1 p3 p4 p6, a = some ⟨b, off, none⟩ ∧ b < w.heap.size ∧ RdK ok w 6 (rOn ok w) l[j].1.2.2.2.2 (.slice p1 l[j].1.2.2.2.2.length p3) ∧ RdK ok w 11 (rSt d ok w) l[j].2 (.slice p4 l[j].2.length p6) ∧ ∀ i u, (hdV l[j].1 (.slice p1 l[j].1.2.2.2.2.length p3) (.slice p4 l[j].2.length p6))[i]? = some u → w.cell? ⟨b, off + j * 11 + i, none⟩ = some u := by
  obtain ⟨a1, cap1, he, h1, h2, h3⟩ := h
  simp only [Value.slice.injEq] at he
  obtain ⟨rfl, rfl, rfl⟩ := he
  obtain ⟨b, off, cs, ha, _, hb, hl, ⟨so, si, rfl, hs, hi⟩, hc⟩ := h3 j hj
  obtain ⟨s1, s3, rfl, _⟩ := hs.form
  obtain ⟨s4, s6, rfl, _⟩ := hi.form
  exact ⟨b, off, s1, s3, s4, s6, ha, hb, hs, hi, hc⟩
set_option maxRecDepth 100000 in
set_option maxHeartbeats 8000000 in
theorem eachSt_any {d : Nat} {ok : Nat → Prop} {w : World} {l : List (St (d + 1))} {v : Value} (h : RdK ok w 11 (rSt (d + 1) ok w) l v) (hl : l.length ≤ 100000) (hok : ∀ s ∈ l, HdOk s.1) :
    Calls Tryz.prog 49 #[v, .func (.func 50) #[] #[]] w fun e w' => e = .returned (.slice (some ⟨w.heap.size, 0, none⟩) l.length l.length) ∧ RowG w' w.heap.size 11 l.length (rHf d ok w) (l) ∧ Below w.heap.size w w' ∧ w.heap.size < w'.heap.size := by
  obtain ⟨ie, hie, hie0, hie1, hie2⟩ := info_parts Tryz.infoESt
  obtain ⟨a, cap, rfl, hlc, hcm⟩ := h.form
  unfold maxLen at hcm
  have HC := mkHid h
  have HK := mkHid hok
  obtain ⟨n, hn⟩ : ∃ n, l.length = n := ⟨_, rfl⟩
  rw [hn] at hlc hl ⊢
  have HN : Hid (l.length = n) := hn
  clear h hok hn
  have hmk := run_make (P := Tryz.prog) w 26 52 ie _ Tryz.underlying26 hie hie0 .i64 .i64 (n : Int) (n : Int) (by omega) (by omega) (by rw [hie2]; omega) (by omega)
  rw [Int.toNat_natCast, hie1] at hmk
  have hG0 : RowG (w.alloc (.cells (madeCells (.agg #[.string ⟨#[]⟩, .int .i64 0, .int .i64 0, .bool false, .bool false, .string ⟨#[]⟩, .string ⟨#[]⟩, .int .i64 0, .int .i64 0, .slice none 0 0, .slice none 0 0] : Value).cells (n * 11)) 52)) w.heap.size 11 n (rHf d ok w) ([] : List (St (d + 1))) := RowG.made w _ 11 n _ _
  have hb0 : Below w.heap.size w (w.alloc (.cells (madeCells (.agg #[.string ⟨#[]⟩, .int .i64 0, .int .i64 0, .bool false, .bool false, .string ⟨#[]⟩, .string ⟨#[]⟩, .int .i64 0, .int .i64 0, .slice none 0 0, .slice none 0 0] : Value).cells (n * 11)) 52)) := (Below.refl _ _).alloc (Nat.le_refl _) _
  have hs0 : (w.alloc (.cells (madeCells (.agg #[.string ⟨#[]⟩, .int .i64 0, .int .i64 0, .bool false, .bool false, .string ⟨#[]⟩, .string ⟨#[]⟩, .int .i64 0, .int .i64 0, .slice none 0 0, .slice none 0 0] : Value).cells (n * 11)) 52)).heap.size = w.heap.size + 1 := by simp
  generalize w.alloc (.cells (madeCells (.agg #[.string ⟨#[]⟩, .int .i64 0, .int .i64 0, .bool false, .bool false, .string ⟨#[]⟩, .string ⟨#[]⟩, .int .i64 0, .int .i64 0, .slice none 0 0, .slice none 0 0] : Value).cells (n * 11)) 52) = w0 at *
  go_enter Tryz.func49, Tryz.ntmps49
  go_wp2
  go_loopw [13] (fun ix wr => ∃ (i : Nat), i ≤ n ∧ ix = .int .i64 (i : Int) ∧ RowG wr w.heap.size 11 n (rHf d ok w) ((l).take i) ∧ Below w.heap.size w wr ∧ w.heap.size < wr.heap.size) (fun ix _ => n - (RowKit.intOf ix).toNat)
  case atStart => exact ⟨0, Nat.zero_le _, rfl, hG0, hb0, by omega⟩
  case round =>
    obtain ⟨i, hi, rfl, hRow, hb, hGs⟩ := hrel
    clear hG0 hb0 hs0 hmk
    by_cases hlt : i < n
    · have hil : i < l.length := by rw [HN.out]; exact hlt
      obtain ⟨b, off, p1, p3, p4, p6, rfl, hbl, hOn, hIn, hc⟩ := stQ_at HC.out i hil
      have hko := HK.out _ (List.getElem_mem hil)
      obtain ⟨t, ht⟩ : ∃ t, l[i] = t := ⟨_, rfl⟩
      rw [ht] at hOn hIn hc hko
      obtain ⟨m, hm⟩ : ∃ m, t.1.2.2.2.2.length = m := ⟨_, rfl⟩
      obtain ⟨ni, hni⟩ : ∃ m, t.2.length = m := ⟨_, rfl⟩
      rw [hm] at hOn hc
      rw [hni] at hIn hc
      obtain ⟨sn, hsn⟩ : ∃ s : ByteArray, ⟨t.1.1.1.toArray⟩ = s := ⟨_, rfl⟩
      obtain ⟨sd, hsd⟩ : ∃ s : ByteArray, ⟨t.1.2.2.1.1.toArray⟩ = s := ⟨_, rfl⟩
      obtain ⟨su, hsu⟩ : ∃ s : ByteArray, ⟨t.1.2.2.1.2.toArray⟩ = s := ⟨_, rfl⟩
      have hz1 : sn.size ≤ 140737488351232 := by rw [← hsn]; show t.1.1.1.toArray.size ≤ _; simpa using hko.1
      have hz2 : sd.size ≤ 140737488351232 := by rw [← hsd]; show t.1.2.2.1.1.toArray.size ≤ _; simpa using hko.2.1
      have hz3 : su.size ≤ 140737488351232 := by rw [← hsu]; show t.1.2.2.1.2.toArray.size ≤ _; simpa using hko.2.2.1
      obtain ⟨sl, hsl⟩ : ∃ x, t.1.1.2.1 = x := ⟨_, rfl⟩
      obtain ⟨sc, hsc⟩ : ∃ x, t.1.1.2.2 = x := ⟨_, rfl⟩
      obtain ⟨sb, hsb⟩ : ∃ x, t.1.2.1.1 = x := ⟨_, rfl⟩
      obtain ⟨se, hse⟩ : ∃ x, t.1.2.1.2 = x := ⟨_, rfl⟩
      obtain ⟨sw, hsw⟩ : ∃ x, t.1.2.2.2.1.1 = x := ⟨_, rfl⟩
      obtain ⟨sr, hsr⟩ : ∃ x, t.1.2.2.2.1.2 = x := ⟨_, rfl⟩
      have hv : ∀ so si, hdV t.1 so si = [.string sn, .int .i64 sl, .int .i64 sc, .bool sb, .bool se, .string sd, .string su, .int .i64 sw, .int .i64 sr, so, si] := fun so si => by
        unfold hdV sV
        rw [hsn, hsd, hsu, hsl, hsc, hsb, hse, hsw, hsr]
      have hv2 : ∀ so si, hdV (stH t.1) so si = [.string sn, .int .i64 0, .int .i64 0, .bool sb, .bool se, .string sd, .string su, .int .i64 sw, .int .i64 sr, so, si] := fun so si => by
        show [sV t.1.1.1, .int .i64 0, .int .i64 0, .bool t.1.2.1.1, .bool t.1.2.1.2, sV t.1.2.2.1.1, sV t.1.2.2.1.2, .int .i64 t.1.2.2.2.1.1, .int .i64 t.1.2.2.2.1.2, so, si] = _
        unfold sV
        rw [hsn, hsd, hsu, hsb, hse, hsw, hsr]
      rw [hv] at hc
      have HQ : Hid (l[i] = t) := ht
      have HV2 : Hid (∀ so si, hdV (stH t.1) so si = [.string sn, .int .i64 0, .int .i64 0, .bool sb, .bool se, .string sd, .string su, .int .i64 sw, .int .i64 sr, so, si]) := hv2
      have HM : Hid (t.1.2.2.2.2.length = m) := hm
      have HKO : Hid (HdOk t.1) := hko
      have HON : Hid (RdK ok w 6 (rOn ok w) t.1.2.2.2.2 (.slice p1 m p3)) := hOn
      have HIN : Hid (RdK ok w 11 (rSt d ok w) t.2 (.slice p4 ni p6)) := hIn
      clear ht hm hni hko hOn hIn hsn hsd hsu hsl hsc hsb hse hsw hsr hv hv2
      obtain ⟨acc, hac⟩ : ∃ acc, (l).take i = acc := ⟨_, rfl⟩
      have hla : acc.length = i := by rw [← hac]; simp [HN.out]; omega
      rw [hac] at hRow
      have HAC : Hid ((l).take i = acc) := hac
      clear hac
      have i1 : (i : Int) < (n : Int) := by omega
      have i2 : (0 : Int) ≤ (i : Int) := by omega
      have C0 := (hb.cell (p := ⟨b, off + i * 11 + 0, none⟩) hbl).trans (hc 0 _ rfl)
      have C1 := (hb.cell (p := ⟨b, off + i * 11 + 1, none⟩) hbl).trans (hc 1 _ rfl)
      have C2 := (hb.cell (p := ⟨b, off + i * 11 + 2, none⟩) hbl).trans (hc 2 _ rfl)
      have C3 := (hb.cell (p := ⟨b, off + i * 11 + 3, none⟩) hbl).trans (hc 3 _ rfl)
      have C4 := (hb.cell (p := ⟨b, off + i * 11 + 4, none⟩) hbl).trans (hc 4 _ rfl)
      have C5 := (hb.cell (p := ⟨b, off + i * 11 + 5, none⟩) hbl).trans (hc 5 _ rfl)
      have C6 := (hb.cell (p := ⟨b, off + i * 11 + 6, none⟩) hbl).trans (hc 6 _ rfl)
      have C7 := (hb.cell (p := ⟨b, off + i * 11 + 7, none⟩) hbl).trans (hc 7 _ rfl)
      have C8 := (hb.cell (p := ⟨b, off + i * 11 + 8, none⟩) hbl).trans (hc 8 _ rfl)
      have C9 := (hb.cell (p := ⟨b, off + i * 11 + 9, none⟩) hbl).trans (hc 9 _ rfl)
      have C10 := (hb.cell (p := ⟨b, off + i * 11 + 10, none⟩) hbl).trans (hc 10 _ rfl)
      rw [Nat.add_zero] at C0
      clear hc
      have hal := (Below.refl wr.heap.size wr).alloc (Nat.le_refl _) (.cells #[.string sn, .int .i64 sl, .int .i64 sc, .bool sb, .bool se, .string sd, .string su, .int .i64 sw, .int .i64 sr, .slice p1 m p3, .slice p4 ni p6] 52)
      have hX := Bn.new wr [.string sn, .int .i64 sl, .int .i64 sc, .bool sb, .bool se, .string sd, .string su, .int .i64 sw, .int .i64 sr, .slice p1 m p3, .slice p4 ni p6] 52 _ rfl
      have hRx := hRow.on (kp_hf d ok w) hGs hal
      have hbx := hb.trans (hal.mono hb.size)
      have hGx := Nat.lt_of_lt_of_le hGs hal.size
      have hcall : ∀ w1, Below w.heap.size w w1 → Calls Tryz.prog 50 #[.agg #[.string sn, .int .i64 sl, .int .i64 sc, .bool sb, .bool se, .string sd, .string su, .int .i64 sw, .int .i64 sr, .slice p1 m p3, .slice p4 ni p6]] w1 fun e w' => ∃ u1 u3, e = .returned (.agg #[.string sn, .int .i64 0, .int .i64 0, .bool sb, .bool se, .string sd, .string su, .int .i64 sw, .int .i64 sr, .slice u1 m u3, .slice p4 ni p6]) ∧ RdK (fun b => w1.heap.size ≤ b) w' 6 (rOn (fun b => w1.heap.size ≤ b) w') (t.1.2.2.2.2.map stO) (.slice u1 m u3) ∧ Below w1.heap.size w1 w' := fun w1 b1 => salone_any sn sl sc sb se sd su sw sr p1 m p3 p4 ni p6 t.1.2.2.2.2 hz1 hz2 hz3 (HON.out.stay kp_on (ok' := ok) (fun b hb hl => ⟨hb, b1.block b hl⟩)) HM.out (by have := HKO.out.2.2.2.1; rw [HM.out] at this; exact this) HKO.out.2.2.2.2
      go_upto_region 5 with fail
      clear C0 C1 C2 C3 C4 C5 C6 C7 C8 C9 C10 hal
      generalize wr.alloc (.cells #[.string sn, .int .i64 sl, .int .i64 sc, .bool sb, .bool se, .string sd, .string su, .int .i64 sw, .int .i64 sr, .slice p1 m p3, .slice p4 ni p6] 52) = wx at *
      obtain ⟨X, hXX⟩ : ∃ X, wr.heap.size = X := ⟨_, rfl⟩
      rw [hXX] at hX ⊢
      have HXX : Hid (wr.heap.size = X) := hXX
      clear hXX
      obtain ⟨x0, _⟩ := hX 0 _ rfl
      obtain ⟨x1, _⟩ := hX 1 _ rfl
      obtain ⟨x2, _⟩ := hX 2 _ rfl
      obtain ⟨x3, _⟩ := hX 3 _ rfl
      obtain ⟨x4, _⟩ := hX 4 _ rfl
      obtain ⟨x5, _⟩ := hX 5 _ rfl
      obtain ⟨x6, _⟩ := hX 6 _ rfl
      obtain ⟨x7, _⟩ := hX 7 _ rfl
      obtain ⟨x8, _⟩ := hX 8 _ rfl
      obtain ⟨x9, _⟩ := hX 9 _ rfl
      obtain ⟨x10, _⟩ := hX 10 _ rfl
      go_wp2_with (first
        | (go_at_call 50; refine (hcall _ hbx).mono ?_; rintro e w1 ⟨u1, u3, rfl, hr, b1⟩; have hp : rHf d ok w (fun b => w.heap.size < b) w1 t [.string sn, .int .i64 0, .int .i64 0, .bool sb, .bool se, .string sd, .string su, .int .i64 sw, .int .i64 sr, .slice u1 m u3, .slice p4 ni p6] := (⟨.slice u1 m u3, .slice p4 ni p6, (HV2.out _ _).symm, hr.stay kp_on (fun b hb hl => ⟨Nat.lt_of_lt_of_le hGx hb, rfl⟩), HIN.out⟩); clear hr; have hR1 := hRx.on (kp_hf d ok w) hGx b1; obtain ⟨⟨r0, q0⟩, z0⟩ := hR1.1 (i * 11 + 0) (mul_in hlt (by omega)); obtain ⟨⟨r1, q1⟩, z1⟩ := hR1.1 (i * 11 + 1) (mul_in hlt (by omega)); obtain ⟨⟨r2, q2⟩, z2⟩ := hR1.1 (i * 11 + 2) (mul_in hlt (by omega)); obtain ⟨⟨r3, q3⟩, z3⟩ := hR1.1 (i * 11 + 3) (mul_in hlt (by omega)); obtain ⟨⟨r4, q4⟩, z4⟩ := hR1.1 (i * 11 + 4) (mul_in hlt (by omega)); obtain ⟨⟨r5, q5⟩, z5⟩ := hR1.1 (i * 11 + 5) (mul_in hlt (by omega)); obtain ⟨⟨r6, q6⟩, z6⟩ := hR1.1 (i * 11 + 6) (mul_in hlt (by omega)); obtain ⟨⟨r7, q7⟩, z7⟩ := hR1.1 (i * 11 + 7) (mul_in hlt (by omega)); obtain ⟨⟨r8, q8⟩, z8⟩ := hR1.1 (i * 11 + 8) (mul_in hlt (by omega)); obtain ⟨⟨r9, q9⟩, z9⟩ := hR1.1 (i * 11 + 9) (mul_in hlt (by omega)); obtain ⟨⟨r10, q10⟩, z10⟩ := hR1.1 (i * 11 + 10) (mul_in hlt (by omega)); rw [Nat.add_zero] at q0 z0)
        | fail)
      have hP := hR1.put (kp_hf d ok w) (x := t) (cs := [.string sn, .int .i64 0, .int .i64 0, .bool sb, .bool se, .string sd, .string su, .int .i64 sw, .int .i64 sr, .slice u1 m u3, .slice p4 ni p6]) (by rw [hla]; exact hlt) rfl hp
      rw [hla] at hP
      have hb2 := putL_below [.string sn, .int .i64 0, .int .i64 0, .bool sb, .bool se, .string sd, .string su, .int .i64 sw, .int .i64 sr, .slice u1 m u3, .slice p4 ni p6] w1 w.heap.size (i * 11) (hbx.trans (b1.mono (Nat.le_of_lt hGx))) (Nat.le_refl _)
      have hs2 : w.heap.size < (putL w1 w.heap.size (i * 11) [.string sn, .int .i64 0, .int .i64 0, .bool sb, .bool se, .string sd, .string su, .int .i64 sw, .int .i64 sr, .slice u1 m u3, .slice p4 ni p6]).heap.size := by rw [putL_size]; exact Nat.lt_of_lt_of_le hGx b1.size
      have hac2 : (l).take (i + 1) = acc ++ [t] := by
        rw [List.take_succ_eq_append_getElem (by simp [HN.out]; omega), HAC.out]
        simp [HQ.out]
      clear x0 r0 q0 z0 x1 r1 q1 z1 x2 r2 q2 z2 x3 r3 q3 z3 x4 r4 q4 z4 x5 r5 q5 z5 x6 r6 q6 z6 x7 r7 q7 z7 x8 r8 q8 z8 x9 r9 q9 z9 x10 r10 q10 z10 hR1 hRx hp
      go_wp2
      go_roundw
      case rel => exact ⟨i + 1, hlt, by go_num, by rw [hac2]; exact hP, hb2, hs2⟩
      case measure => simp [RowKit.intOf]; omega
    · have i1 : ¬ (i : Int) < (n : Int) := by omega
      have hin : i = n := by omega
      have hfull : (l).take i = l := List.take_of_length_le (by simp [HN.out]; omega)
      rw [hfull] at hRow
      go_wp2
      go_ret
      exact ⟨rfl, hRow, hb, hGs⟩
end Go.Proofs.YtccmmkhcacglhaaGreatDoor
