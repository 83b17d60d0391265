import Derived.Test.YtccmmkhcacglhaaGreatDoorWkb06
import Derived.Test.YtccmmkhcacglhaaGreatDoorWkb07
import Derived.Test.YtccmmkhcacglhaaGreatDoorWkc17

/- The walk of ChartBlanks. -/
namespace Go.Proofs.YtccmmkhcacglhaaGreatDoor
open Go.RowKit Go.Lib
set_option linter.unusedSimpArgs false
set_option linter.unusedVariables false
attribute [local go_sem ↓] Go.wp_at_zero Go.wp_at_succ

theorem rdC_formB {ok : Nat → Prop} {w : World} {d : Nat} {c : ChG d} {v : Value} (h : RdC ok w d c v) : ∃ a b e f g h' i j k l, v = .agg #[.string a, .int .i64 b, .int .i64 e, .int .i64 f, .slice g h' i, .slice j k l] := by
  obtain ⟨sv, ss, rfl, h1, h2⟩ := h
  obtain ⟨a, cap, rfl, _⟩ := h1.form
  obtain ⟨a', cap', rfl, _⟩ := h2.form
  exact ⟨_, _, _, _, _, _, _, _, _, _, rfl⟩
theorem bl_appB (a b : ByteArray) : bl (a ++ b) = bl a ++ bl b := by
  unfold bl
  rw [ByteArray.data_append, Array.toList_append]
theorem bl_len (a : ByteArray) : (bl a).length = a.size := by
  unfold bl
  rw [Array.length_toList]; rfl
theorem bl_one (s : ByteArray) (k : Nat) (h : k < s.size) : bl (s.extract k (k + 1)) = [s[k]] := by
  unfold bl
  rw [ByteArray.data_extract]
  have h2 : k < s.data.size := h
  apply List.ext_getElem
  · simp; omega
  · intro i h3 h4
    have : i = 0 := by simp at h4; omega
    subst this
    simp
    rfl
theorem bl_at (s : ByteArray) (k : Nat) (h : k < s.size) : (bl s).take (k + 1) = (bl s).take k ++ [s[k]] := by
  have h2 : k < (bl s).length := by rw [bl_len]; exact h
  rw [List.take_succ_eq_append_getElem h2]
  rfl
theorem wide_cons (c : UInt8) (r : List UInt8) : wideB (c :: r) = if spB c = true then 32 :: c :: 10 :: 9 :: wideB r else c :: wideB r := rfl
theorem wide_app : ∀ (a b : List UInt8), wideB (a ++ b) = wideB a ++ wideB b
  | [], b => rfl
  | c :: a, b => by
    have ih := wide_app a b
    rw [List.cons_append, wide_cons, wide_cons, ih]
    split
    · rfl
    · rfl
theorem nat_ne {b c : UInt8} (h : b ≠ c) : ((b.toNat : Int) == (c.toNat : Int)) = false ∧ ¬ (b.toNat : Int) = (c.toNat : Int) := by
  have : ¬ (b.toNat : Int) = (c.toNat : Int) := fun e => h (UInt8.toNat_inj.1 (by omega))
  exact ⟨beq_eq_false_iff_ne.2 this, this⟩
set_option maxRecDepth 100000 in
set_option maxHeartbeats 16000000 in
theorem chartBlanks_walk {w : World} (hE : Esy w) (s : ByteArray) (hs : s.size ≤ 140737488351232) : Calls Tryz.prog 5 #[.string s] w fun e w' => e = .returned (.bool true) ∧ Below w.heap.size w w' := by
  have h1 := fun w1 (b : Below w.heap.size w w1) => awakeC w1 (hE.on b)
  have hr0 := Below.refl w.heap.size w
  by_cases hbig : 3000 < s.size
  · have i1 : (3000 : Int) < (s.size : Int) := by omega
    go_enter Tryz.func5, Tryz.ntmps5
    go_upto_region 2 with (first
      | (go_at_call 9; refine (h1 _ hr0).mono ?_; rintro e w1 ⟨rfl, b1⟩))
    go_wp2_with (first
      | (go_at_call 9; refine (h1 _ b1).mono ?_; rintro e w2 ⟨rfl, b2⟩))
    go_ret
    exact ⟨rfl, b1.trans (b2.mono b1.size)⟩
  · have i1 : ¬ (3000 : Int) < (s.size : Int) := by omega
    obtain ⟨n, hn⟩ : ∃ n, s.size = n := ⟨_, rfl⟩
    rw [hn] at i1 hs hbig
    have HN := (show Hid (s.size = n) from hn)
    go_enter Tryz.func5, Tryz.ntmps5
    go_upto_region 3 with (first
      | (go_at_call 9; refine (h1 _ hr0).mono ?_; rintro e w1 ⟨rfl, b1⟩))
    go_wp2
    go_loopw [3, 4] (fun t3 t4 wr => ∃ (k : Nat) (wd : ByteArray), k ≤ n ∧ t4 = .int .i64 (k : Int) ∧ t3 = .string wd ∧ Hid (bl wd = wideB ((bl s).take k) ∧ ∀ c ∈ (bl s).take k, c ≠ 35) ∧ Hid (w1 = wr)) (fun _ t4 _ => n - (RowKit.intOf t4).toNat)
    case atStart => exact ⟨0, ⟨#[]⟩, Nat.zero_le _, rfl, rfl, ⟨rfl, fun c hc => by simp at hc⟩, rfl⟩
    case round =>
      obtain ⟨k, wd, hk, rfl, rfl, hW, hw⟩ := hrel
      obtain rfl := hw.out
      by_cases hlt : k < n
      · have i2 : (k : Int) < (n : Int) := by omega
        have i3 : (0 : Int) ≤ (k : Int) := by omega
        have hkz : k < s.size := by rw [hn]; exact hlt
        have hwz : wd.size ≤ 12000 := by
          rw [← bl_len, hW.out.1]
          have q1 := wideB_len ((bl s).take k)
          have q2 : ((bl s).take k).length ≤ k := by rw [List.length_take]; omega
          omega
        have i4 : (k : Int) ≤ (n : Int) := by omega
        have i5 : (k : Int) ≤ (k : Int) + 1 := by omega
        have i6 : (k : Int) + 1 ≤ (n : Int) := by omega
        have hmin : min (k + 1) n - k = 1 := by omega
        by_cases h35 : s[k] = 35
        · have e35 : ((s[k].toNat : Int) == 35) = true := by rw [h35]; rfl
          have f35 : (s[k].toNat : Int) = 35 := by rw [h35]; rfl
          clear h35
          go_wp2
          go_ret
          exact ⟨rfl, b1⟩
        · by_cases h32 : s[k] = 32
          · have hc := h32
            clear h32 h35
            have e35 : ((s[k].toNat : Int) == 35) = false := by rw [hc]; rfl
            have f35 : ¬ (s[k].toNat : Int) = 35 := by rw [hc]; decide
            have e32 : ((s[k].toNat : Int) == 32) = true := by rw [hc]; rfl
            have f32 : (s[k].toNat : Int) = 32 := by rw [hc]; decide
            have e123 : ((s[k].toNat : Int) == 123) = false := by rw [hc]; rfl
            have f123 : ¬ (s[k].toNat : Int) = 123 := by rw [hc]; decide
            have e125 : ((s[k].toNat : Int) == 125) = false := by rw [hc]; rfl
            have f125 : ¬ (s[k].toNat : Int) = 125 := by rw [hc]; decide
            have hw2 : wideB [s[k]] = [32, s[k], 10, 9] := by rw [hc]; rfl
            have HW2 := (show Hid (wideB [s[k]] = [32, s[k], 10, 9]) from hw2)
            have HNE : Hid (s[k] ≠ 35) := by show s[k] ≠ 35; rw [hc]; decide
            clear hc hw2
            go_wp2
            go_roundw
            case rel =>
              refine ⟨k + 1, _, hlt, by go_num, rfl, ⟨?_, ?_⟩, (by first | exact True.intro | exact rfl)⟩
              · rw [bl_at s k hkz, wide_app, HW2.out, ← hW.out.1]
                simp only [bl_appB, bl_one s k hkz, List.append_assoc]
                rfl
              · rw [bl_at s k hkz]
                intro c hc
                rcases List.mem_append.1 hc with hc | hc
                · exact hW.out.2 c hc
                · rw [List.mem_singleton.1 hc]; exact HNE.out
            case measure => simp [RowKit.intOf]; omega
          · by_cases h123 : s[k] = 123
            · have hc := h123
              clear h32 h35 h123
              have e35 : ((s[k].toNat : Int) == 35) = false := by rw [hc]; rfl
              have f35 : ¬ (s[k].toNat : Int) = 35 := by rw [hc]; decide
              have e32 : ((s[k].toNat : Int) == 32) = false := by rw [hc]; rfl
              have f32 : ¬ (s[k].toNat : Int) = 32 := by rw [hc]; decide
              have e123 : ((s[k].toNat : Int) == 123) = true := by rw [hc]; rfl
              have f123 : (s[k].toNat : Int) = 123 := by rw [hc]; decide
              have e125 : ((s[k].toNat : Int) == 125) = false := by rw [hc]; rfl
              have f125 : ¬ (s[k].toNat : Int) = 125 := by rw [hc]; decide
              have hw2 : wideB [s[k]] = [32, s[k], 10, 9] := by rw [hc]; rfl
              have HW2 := (show Hid (wideB [s[k]] = [32, s[k], 10, 9]) from hw2)
              have HNE : Hid (s[k] ≠ 35) := by show s[k] ≠ 35; rw [hc]; decide
              clear hc hw2
              go_wp2
              go_roundw
              case rel =>
                refine ⟨k + 1, _, hlt, by go_num, rfl, ⟨?_, ?_⟩, (by first | exact True.intro | exact rfl)⟩
                · rw [bl_at s k hkz, wide_app, HW2.out, ← hW.out.1]
                  simp only [bl_appB, bl_one s k hkz, List.append_assoc]
                  rfl
                · rw [bl_at s k hkz]
                  intro c hc
                  rcases List.mem_append.1 hc with hc | hc
                  · exact hW.out.2 c hc
                  · rw [List.mem_singleton.1 hc]; exact HNE.out
              case measure => simp [RowKit.intOf]; omega
            · by_cases h125 : s[k] = 125
              · have hc := h125
                clear h32 h35 h123 h125
                have e35 : ((s[k].toNat : Int) == 35) = false := by rw [hc]; rfl
                have f35 : ¬ (s[k].toNat : Int) = 35 := by rw [hc]; decide
                have e32 : ((s[k].toNat : Int) == 32) = false := by rw [hc]; rfl
                have f32 : ¬ (s[k].toNat : Int) = 32 := by rw [hc]; decide
                have e123 : ((s[k].toNat : Int) == 123) = false := by rw [hc]; rfl
                have f123 : ¬ (s[k].toNat : Int) = 123 := by rw [hc]; decide
                have e125 : ((s[k].toNat : Int) == 125) = true := by rw [hc]; rfl
                have f125 : (s[k].toNat : Int) = 125 := by rw [hc]; decide
                have hw2 : wideB [s[k]] = [32, s[k], 10, 9] := by rw [hc]; rfl
                have HW2 := (show Hid (wideB [s[k]] = [32, s[k], 10, 9]) from hw2)
                have HNE : Hid (s[k] ≠ 35) := by show s[k] ≠ 35; rw [hc]; decide
                clear hc hw2
                go_wp2
                go_roundw
                case rel =>
                  refine ⟨k + 1, _, hlt, by go_num, rfl, ⟨?_, ?_⟩, (by first | exact True.intro | exact rfl)⟩
                  · rw [bl_at s k hkz, wide_app, HW2.out, ← hW.out.1]
                    simp only [bl_appB, bl_one s k hkz, List.append_assoc]
                    rfl
                  · rw [bl_at s k hkz]
                    intro c hc
                    rcases List.mem_append.1 hc with hc | hc
                    · exact hW.out.2 c hc
                    · rw [List.mem_singleton.1 hc]; exact HNE.out
                case measure => simp [RowKit.intOf]; omega
              · obtain ⟨e35, f35⟩ := nat_ne h35
                obtain ⟨e32, f32⟩ := nat_ne h32
                obtain ⟨e123, f123⟩ := nat_ne h123
                obtain ⟨e125, f125⟩ := nat_ne h125
                have HW2 : Hid (wideB [s[k]] = [s[k]]) := by
                  show wideB [s[k]] = [s[k]]
                  unfold wideB spB
                  simp [h32, h123, h125, wideB]
                have HNE : Hid (s[k] ≠ 35) := h35
                simp only [show ((35 : UInt8).toNat : Int) = 35 from rfl, show ((32 : UInt8).toNat : Int) = 32 from rfl, show ((123 : UInt8).toNat : Int) = 123 from rfl, show ((125 : UInt8).toNat : Int) = 125 from rfl] at e35 f35 e32 f32 e123 f123 e125 f125
                clear h35 h32 h123 h125
                go_wp2
                go_roundw
                case rel =>
                  refine ⟨k + 1, _, hlt, by go_num, rfl, ⟨?_, ?_⟩, (by first | exact True.intro | exact rfl)⟩
                  · rw [bl_at s k hkz, wide_app, HW2.out, ← hW.out.1]
                    simp only [bl_appB, bl_one s k hkz, List.append_assoc]
                  · rw [bl_at s k hkz]
                    intro c hc
                    rcases List.mem_append.1 hc with hc | hc
                    · exact hW.out.2 c hc
                    · rw [List.mem_singleton.1 hc]; exact HNE.out
                case measure => simp [RowKit.intOf]; omega
      · have i2 : ¬ (k : Int) < (n : Int) := by omega
        have hkn : k = n := by omega
        have hfull : (bl s).take k = bl s := List.take_of_length_le (by rw [bl_len, hn]; omega)
        have hW2 := hW.out
        rw [hfull] at hW2
        have hne : ∀ c ∈ bl s, c ≠ 35 := hW2.2
        obtain ⟨k1, k2⟩ := read_wide (s := bl s) (by rw [bl_len, hn]; omega) hne
        rw [← hW2.1] at k1 k2
        have ok1 := read_chok (bl s)
        have ok2 := read_chok (bl wd)
        have hwz : wd.size ≤ 140737488351232 := by
          rw [← bl_len, hW2.1]
          have q1 := wideB_len (bl s)
          have q2 : (bl s).length = n := by rw [bl_len, hn]
          omega
        have h2 := fun w1 (b : Below w.heap.size w w1) => readP_any s w1 (hE.on b) (by rw [hn]; omega)
        have h3 := fun w1 (b : Below w.heap.size w w1) => readP_any wd w1 (hE.on b) hwz
        obtain ⟨⟨C, ⟨P1, P2⟩, E⟩, hR⟩ : ∃ x, readC (bl s) = x := ⟨_, rfl⟩
        obtain ⟨⟨D, ⟨Q1, Q2⟩, E'⟩, hR'⟩ : ∃ x, readC (bl wd) = x := ⟨_, rfl⟩
        simp only [hR] at h2 k1 k2 ok1
        simp only [hR'] at h3 k1 k2 ok2
        obtain rfl : E = E' := k2
        have hG : stG 7 C = stG 7 D := k1
        have h4 := fun (ok : Nat → Prop) w1 v (h : RdC ok w1 7 C v) => strip_any h ok1
        have h5 := fun (ok : Nat → Prop) w1 v (h : RdC ok w1 7 D v) => strip_any h ok2
        have h6 := fun (ok ok' : Nat → Prop) w1 v v' (h : RdC ok w1 7 (stG 7 C) v) (h' : RdC ok' w1 7 (stG 7 C) v') => same_any h h' (chok_st ok1)
        rw [← hG] at h5
        clear hR hR' hW hW2 hne k1 ok1 ok2 hG hfull h1 HN
        go_upto_region 12 with fail
        go_upto_region 13 with (first
          | (go_at_call 10; refine (h2 _ b1).mono ?_; rintro e w2 ⟨v2, rfl, hr2, b2⟩; obtain ⟨c0, c1, c2, c3, c4, c5, c6, c7, c8, c9, rfl⟩ := rdC_formB hr2))
        have hb2 := b1.trans (b2.mono b1.size)
        have hal := ((Below.refl w2.heap.size w2).alloc (Nat.le_refl _) (.cells #[.string c0, .int .i64 c1, .int .i64 c2, .int .i64 c3, .slice c4 c5 c6, .slice c7 c8 c9] 28)).alloc (by simp) (.cells #[.int .i64 P1, .int .i64 P2] 24)
        have hA : Bn ((w2.alloc (.cells #[.string c0, .int .i64 c1, .int .i64 c2, .int .i64 c3, .slice c4 c5 c6, .slice c7 c8 c9] 28)).alloc (.cells #[.int .i64 P1, .int .i64 P2] 24)) w2.heap.size [.string c0, .int .i64 c1, .int .i64 c2, .int .i64 c3, .slice c4 c5 c6, .slice c7 c8 c9] := (Bn.new w2 [.string c0, .int .i64 c1, .int .i64 c2, .int .i64 c3, .slice c4 c5 c6, .slice c7 c8 c9] 28 _ rfl).on ((Below.refl _ _).alloc (Nat.le_refl _) _)
        have hr3 := hr2.keep (fun b hb hl => ⟨hb, hal.block b hl⟩)
        have hb3 := hb2.trans (hal.mono hb2.size)
        clear hr2 b1 b2 hb2 hal h2
        generalize ((w2.alloc (.cells #[.string c0, .int .i64 c1, .int .i64 c2, .int .i64 c3, .slice c4 c5 c6, .slice c7 c8 c9] 28)).alloc (.cells #[.int .i64 P1, .int .i64 P2] 24)) = w3 at *
        obtain ⟨XA, hXA⟩ : ∃ x, w2.heap.size = x := ⟨_, rfl⟩
        rw [hXA] at hA ⊢
        clear hXA w2
        go_upto_region 14 with (first
          | (go_at_call 10; refine (h3 _ hb3).mono ?_; rintro e w4 ⟨v4, rfl, hr4, b4⟩; obtain ⟨d0, d1, d2, d3, d4, d5, d6, d7, d8, d9, rfl⟩ := rdC_formB hr4))
        have hb4 := hb3.trans (b4.mono hb3.size)
        have hal := ((Below.refl w4.heap.size w4).alloc (Nat.le_refl _) (.cells #[.string d0, .int .i64 d1, .int .i64 d2, .int .i64 d3, .slice d4 d5 d6, .slice d7 d8 d9] 28)).alloc (by simp) (.cells #[.int .i64 Q1, .int .i64 Q2] 24)
        have hB : Bn ((w4.alloc (.cells #[.string d0, .int .i64 d1, .int .i64 d2, .int .i64 d3, .slice d4 d5 d6, .slice d7 d8 d9] 28)).alloc (.cells #[.int .i64 Q1, .int .i64 Q2] 24)) w4.heap.size [.string d0, .int .i64 d1, .int .i64 d2, .int .i64 d3, .slice d4 d5 d6, .slice d7 d8 d9] := (Bn.new w4 [.string d0, .int .i64 d1, .int .i64 d2, .int .i64 d3, .slice d4 d5 d6, .slice d7 d8 d9] 28 _ rfl).on ((Below.refl _ _).alloc (Nat.le_refl _) _)
        have hr5 := hr4.keep (fun b hb hl => ⟨hb, hal.block b hl⟩)
        have hb5 := hb4.trans (hal.mono hb4.size)
        have hbw := b4.trans (hal.mono b4.size)
        have hr6 := hr3.keep (fun b hb hl => ⟨hb, hbw.block b hl⟩)
        have hA5 := hA.on hbw
        clear hr3 hr4 b4 hb4 hal h3 hb3 hbw hA
        generalize ((w4.alloc (.cells #[.string d0, .int .i64 d1, .int .i64 d2, .int .i64 d3, .slice d4 d5 d6, .slice d7 d8 d9] 28)).alloc (.cells #[.int .i64 Q1, .int .i64 Q2] 24)) = w5 at *
        obtain ⟨XB, hXB⟩ : ∃ x, w4.heap.size = x := ⟨_, rfl⟩
        rw [hXB] at hB ⊢
        clear hXB
        have hB0 : Below w5.heap.size w5 w5 := Below.refl _ _
        have lA := hA5.lt
        have lB := hB.lt
        obtain ⟨a0, _⟩ := hA5 0 _ rfl
        obtain ⟨b0, _⟩ := hB 0 _ rfl
        obtain ⟨a1, _⟩ := hA5 1 _ rfl
        obtain ⟨b1, _⟩ := hB 1 _ rfl
        obtain ⟨a2, _⟩ := hA5 2 _ rfl
        obtain ⟨b2, _⟩ := hB 2 _ rfl
        obtain ⟨a3, _⟩ := hA5 3 _ rfl
        obtain ⟨b3, _⟩ := hB 3 _ rfl
        obtain ⟨a4, _⟩ := hA5 4 _ rfl
        obtain ⟨b4, _⟩ := hB 4 _ rfl
        obtain ⟨a5, _⟩ := hA5 5 _ rfl
        obtain ⟨b5, _⟩ := hB 5 _ rfl
        have g1 : ∀ w1, Below w5.heap.size w5 w1 → Calls Tryz.prog 18 #[.agg #[.string c0, .int .i64 c1, .int .i64 c2, .int .i64 c3, .slice c4 c5 c6, .slice c7 c8 c9]] w1 fun e w' => ∃ e0 e1 e2 e3 e4 e5 e6 e7 e8 e9, e = .returned (.agg #[.string e0, .int .i64 e1, .int .i64 e2, .int .i64 e3, .slice e4 e5 e6, .slice e7 e8 e9]) ∧ RdC (fun b => w1.heap.size ≤ b) w' 7 (stG 7 C) (.agg #[.string e0, .int .i64 e1, .int .i64 e2, .int .i64 e3, .slice e4 e5 e6, .slice e7 e8 e9]) ∧ Below w1.heap.size w1 w' := fun w1 bb => (h4 _ w1 _ (hr6.keep (ok' := fun _ => True) (fun b hb hl => ⟨trivial, bb.block b hl⟩))).mono (fun e w' hh => by
          obtain ⟨u, h1, h2, h3⟩ := hh
          obtain ⟨e0, e1, e2, e3, e4, e5, e6, e7, e8, e9, rfl⟩ := rdC_formB h2
          exact ⟨e0, e1, e2, e3, e4, e5, e6, e7, e8, e9, h1, h2, h3⟩)
        have g2 : ∀ w1, Below w5.heap.size w5 w1 → Calls Tryz.prog 18 #[.agg #[.string d0, .int .i64 d1, .int .i64 d2, .int .i64 d3, .slice d4 d5 d6, .slice d7 d8 d9]] w1 fun e w' => ∃ e0 e1 e2 e3 e4 e5 e6 e7 e8 e9, e = .returned (.agg #[.string e0, .int .i64 e1, .int .i64 e2, .int .i64 e3, .slice e4 e5 e6, .slice e7 e8 e9]) ∧ RdC (fun b => w1.heap.size ≤ b) w' 7 (stG 7 C) (.agg #[.string e0, .int .i64 e1, .int .i64 e2, .int .i64 e3, .slice e4 e5 e6, .slice e7 e8 e9]) ∧ Below w1.heap.size w1 w' := fun w1 bb => (h5 _ w1 _ (hr5.keep (ok' := fun _ => True) (fun b hb hl => ⟨trivial, bb.block b hl⟩))).mono (fun e w' hh => by
          obtain ⟨u, h1, h2, h3⟩ := hh
          obtain ⟨e0, e1, e2, e3, e4, e5, e6, e7, e8, e9, rfl⟩ := rdC_formB h2
          exact ⟨e0, e1, e2, e3, e4, e5, e6, e7, e8, e9, h1, h2, h3⟩)
        clear h4 h5 hr5 hr6 hA5 hB hE
        go_region_held_law (fun w' => w'.cell? ⟨XA, 0, none⟩ = some (.string c0) ∧ w'.cell? ⟨XA, 1, none⟩ = some (.int .i64 c1) ∧ w'.cell? ⟨XA, 2, none⟩ = some (.int .i64 c2) ∧ w'.cell? ⟨XA, 3, none⟩ = some (.int .i64 c3) ∧ w'.cell? ⟨XA, 4, none⟩ = some (.slice c4 c5 c6) ∧ w'.cell? ⟨XA, 5, none⟩ = some (.slice c7 c8 c9) ∧ w'.cell? ⟨XB, 0, none⟩ = some (.string d0) ∧ w'.cell? ⟨XB, 1, none⟩ = some (.int .i64 d1) ∧ w'.cell? ⟨XB, 2, none⟩ = some (.int .i64 d2) ∧ w'.cell? ⟨XB, 3, none⟩ = some (.int .i64 d3) ∧ w'.cell? ⟨XB, 4, none⟩ = some (.slice d4 d5 d6) ∧ w'.cell? ⟨XB, 5, none⟩ = some (.slice d7 d8 d9))
          (exact ⟨(hB0.cell (p := ⟨XA, 0, none⟩) lA).trans a0, (hB0.cell (p := ⟨XA, 1, none⟩) lA).trans a1, (hB0.cell (p := ⟨XA, 2, none⟩) lA).trans a2, (hB0.cell (p := ⟨XA, 3, none⟩) lA).trans a3, (hB0.cell (p := ⟨XA, 4, none⟩) lA).trans a4, (hB0.cell (p := ⟨XA, 5, none⟩) lA).trans a5, (hB0.cell (p := ⟨XB, 0, none⟩) lB).trans b0, (hB0.cell (p := ⟨XB, 1, none⟩) lB).trans b1, (hB0.cell (p := ⟨XB, 2, none⟩) lB).trans b2, (hB0.cell (p := ⟨XB, 3, none⟩) lB).trans b3, (hB0.cell (p := ⟨XB, 4, none⟩) lB).trans b4, (hB0.cell (p := ⟨XB, 5, none⟩) lB).trans b5⟩)
          (first
            | (go_at_call 16; (first | (with_reducible refine (h6 _ _ _ _ _ hrA hrB).mono ?_) | (with_reducible refine (h6 _ _ _ _ _ (hrA.keep (ok' := fun _ => True) (fun b hb hl => ⟨trivial, rfl⟩)) (hrB.keep (ok' := fun _ => True) (fun b hb hl => ⟨trivial, rfl⟩))).mono ?_)); rintro e w7 ⟨rfl, bb⟩; (first | have hB0 := Below.nxd hB0 bb | have hB0 := Below.nx hB0 bb))
            | (go_at_call 18; (first | (with_reducible refine (g1 _ hB0).mono ?_) | (with_reducible refine (g1 _ hB0.drew).mono ?_)); rintro e w6 ⟨e0, e1, e2, e3, e4, e5, e6, e7, e8, e9, rfl, hrA, bb⟩; (try have hrB := hrB.keep (w' := w6) (ok' := fun _ => True) (fun b hb hl => ⟨trivial, bb.block b hl⟩)); (first | have hB0 := Below.nxd hB0 bb | have hB0 := Below.nx hB0 bb))
            | (go_at_call 18; (first | (with_reducible refine (g2 _ hB0).mono ?_) | (with_reducible refine (g2 _ hB0.drew).mono ?_)); rintro e w6 ⟨f0, f1, f2, f3, f4, f5, f6, f7, f8, f9, rfl, hrB, bb⟩; (try have hrA := hrA.keep (w' := w6) (ok' := fun _ => True) (fun b hb hl => ⟨trivial, bb.block b hl⟩)); (first | have hB0 := Below.nxd hB0 bb | have hB0 := Below.nx hB0 bb))
            | fail)
        all_goals (
          go_wp2
          go_ret
          exact ⟨rfl, hb5.trans (hB0.mono hb5.size)⟩)
end Go.Proofs.YtccmmkhcacglhaaGreatDoor
