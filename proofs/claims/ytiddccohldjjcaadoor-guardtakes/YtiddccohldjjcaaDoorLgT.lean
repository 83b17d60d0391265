
/- GuardTakes: the walk. -/
import Derived.Test.YtiddccohldjjcaaDoorLgA
import Derived.Test.YtiddccohldjjcaaDoorRgG
import Derived.Test.YtiddccohldjjcaaDoorRgO
import Derived.Test.YtiddccohldjjcaaDoorExN
import Derived.Test.YtiddccohldjjcaaDoorExPf
import Derived.Deep.RegionHeld
namespace Go.Proofs.YtiddccohldjjcaaDoor
open Go.RowKit Go.Lib
set_option linter.unusedSimpArgs false
set_option linter.unusedVariables false
attribute [local go_sem ↓] Go.wp_at_zero Go.wp_at_succ
set_option maxRecDepth 100000 in
set_option maxHeartbeats 4000000 in
theorem few_any (s : ByteArray) (w : World) : Calls Tryd.prog 10 #[.string s] w fun e w' => e = .returned (.bool (decide (s.size ≤ 12000))) ∧ w' = w := by
  by_cases h : s.size ≤ 12000
  · have h' : ((s.size : Nat) : Int) ≤ 12000 := by omega
    rw [decide_eq_true h]
    go_enter Tryd.func10, Tryd.ntmps10
    go_wp2
    go_ret
    simp [h']
  · have h' : ¬ ((s.size : Nat) : Int) ≤ 12000 := by omega
    rw [decide_eq_false h]
    go_enter Tryd.func10, Tryd.ntmps10
    go_wp2
    go_ret
    simp [h']
set_option maxRecDepth 100000 in
set_option maxHeartbeats 4000000 in
theorem guardTakes_walk {w : World} (hT : Tabs w) (s : ByteArray) (hs : s.size ≤ 140737488351232) :
    Calls Tryd.prog 4 #[.string s] w fun e w' => e = .returned (.bool true) ∧ Below w.heap.size w w' := by
  have h1 := fun w1 => awakeG w1
  have h0 := fun w1 => few_any s w1
  have h2 := fun w1 hT => refWords_any s w1 hT hs
  by_cases hfew : s.size ≤ 12000
  case neg =>
    simp only [decide_eq_false hfew] at h0
    have s1 := h1 w
    clear hfew
    go_enter Tryd.func4, Tryd.ntmps4
    go_wp2_with (first
      | (go_at_call 5; refine s1.mono ?_; rintro e w1 ⟨rfl, b1⟩; have s2 := h1 w1; clear s1)
      | (go_at_call 10; refine (h0 _).mono ?_; rintro e w2 ⟨rfl, rfl⟩)
      | (go_at_call 5; refine s2.mono ?_; rintro e w3 ⟨rfl, b3⟩; clear s2))
    go_ret
    exact ⟨rfl, bthen b1 b3⟩
  simp only [decide_eq_true hfew] at h0
  have ho := fun h => (words_one (l := bl s) h)
  obtain ⟨⟨ws, ⟨pl, pc⟩, er⟩, hR⟩ : ∃ r, wordsS (bl s) = r := ⟨_, rfl⟩
  simp only [hR] at h2 ho
  clear hR
  by_cases her : er = 0
  case neg =>
    go_enter Tryd.func4, Tryd.ntmps4
    go_wp2_with (first
      | (go_at_call 5; refine (h1 w).mono ?_; rintro e w1 ⟨rfl, b1⟩)
      | (go_at_call 10; refine (h0 _).mono ?_; rintro e w2 ⟨rfl, rfl⟩)
      | (go_at_call 11; refine (h2 _ (hT.below b1 (Nat.le_refl _))).mono ?_; rintro e w3 ⟨u, rfl, hu, b3⟩; obtain ⟨ua, uc, rfl, uq, um, ur⟩ := ownW_rd hu; have b3' := bthen b1 b3))
    go_ret
    exact ⟨rfl, b3'.alloc b3'.size _⟩
  subst her
  obtain ⟨ho1, ho2⟩ := ho rfl
  obtain ⟨i0, hi, hz0, hz1, hz2⟩ := info_parts Tryd.infoG
  have hTk : ∀ w1 v, OwnW w1 0 43 v ws → _ := fun w1 v hv => pTake_any hv ho1 ho2
  have hTr : ∀ w1 v, Tabs w1 → OwnW w1 0 44 v ws → _ := fun w1 v hT hv => rTake_any hT hv ho1 ho2
  obtain ⟨hc, _⟩ := take_cl ho1
  obtain ⟨X, hX⟩ : ∃ X, takeC (ws.map tkW) = X := ⟨_, rfl⟩
  rw [hX] at hc
  simp only [hX] at hTk hTr
  clear hX ho ho1
  obtain ⟨⟨d, t⟩, kk, no⟩ := X
  have h4 := fun w1 => ours_any d t w1 hc
  have h5 := fun w1 (ok ok' : Nat → Prop) v v' (ha : RdT ok w1 d t v) (hb : RdT ok' w1 d t v') => same_any d ok ok' d t t v v' w1 ha hb
  simp only [samC_refl] at h5
  simp only [show exX ⟨d, t⟩ = exV d t from rfl] at hTk
  have hf := exV_form d t
  obtain ⟨ev, hev⟩ : ∃ ev, exV d t = ev := ⟨_, rfl⟩
  simp only [hev] at hTk h4 hf
  clear hev
  go_enter Tryd.func4, Tryd.ntmps4
  go_wp2_with (first
    | (go_at_call 5; refine (h1 w).mono ?_; rintro e w1 ⟨rfl, b1⟩)
    | (go_at_call 10; refine (h0 _).mono ?_; rintro e w2 ⟨rfl, rfl⟩)
    | (go_at_call 11; refine (h2 _ (hT.below b1 (Nat.le_refl _))).mono ?_; rintro e w3 ⟨u, rfl, hu, b3⟩; obtain ⟨ua, uc, rfl, uq, um, ur⟩ := ownW_rd hu; have b3' := bthen b1 b3))
  have HR : Hid (∀ (i : Nat) (hi : i < ws.length), ∃ g, ua = some ⟨g, 0, none⟩ ∧ g < w3.heap.size ∧ w3.cell? ⟨g, i * 4, none⟩ = some (.int .i64 ((ws[i]).1 : Int)) ∧ w3.cell? ⟨g, i * 4 + 1, none⟩ = some (.string (txt (ws[i]).2.1)) ∧ w3.cell? ⟨g, i * 4 + 2, none⟩ = some (.int .i64 (ws[i]).2.2.1) ∧ w3.cell? ⟨g, i * 4 + 3, none⟩ = some (.int .i64 (ws[i]).2.2.2)) := ur
  have b4 : Below w3.heap.size w3 (w3.alloc (.cells #[.int .i64 pl, .int .i64 pc] 38)) := (Below.refl _ _).alloc (Nat.le_refl _) _
  clear ur h0 h1 h2
  generalize w3.alloc (.cells #[.int .i64 pl, .int .i64 pc] 38) = w4 at *
  go_loopw [6, 32] (fun v i wr => ∃ (j : Nat), j ≤ ws.length ∧ i = .int .i64 (j : Int) ∧ OwnW wr w4.heap.size 43 v (ws.take j) ∧ Below w4.heap.size w4 wr) (fun _ i _ => ws.length - (RowKit.intOf i).toNat)
  case atStart => exact ⟨0, Nat.zero_le _, rfl, ownW_nil _ _ _, Below.refl _ _⟩
  case round =>
    rename_i v6 v32
    obtain ⟨j, hj, rfl, hown, hbr⟩ := hrel
    obtain ⟨a6, cap6, rfl, q6, m6, _⟩ := ownW_rd hown
    by_cases hlt : j < ws.length
    · have i1 : (j : Int) < (ws.length : Int) := by omega
      have i2 : (0 : Int) ≤ (j : Int) := by omega
      obtain ⟨g, rfl, hgl, k0, k1, k2, k3⟩ := HR.out j hlt
      have b5 := b4.trans (hbr.mono b4.size)
      have C0 := (b5.cell (p := ⟨g, j * 4, none⟩) hgl).trans k0
      have C1 := (b5.cell (p := ⟨g, j * 4 + 1, none⟩) hgl).trans k1
      have C2 := (b5.cell (p := ⟨g, j * 4 + 2, none⟩) hgl).trans k2
      have C3 := (b5.cell (p := ⟨g, j * 4 + 3, none⟩) hgl).trans k3
      have hlen : (ws.take j).length = j := by rw [List.length_take]; omega
      have hszr := hbr.size
      have ho6 : World.ownsRow wr w4.heap.size 43 4 (.slice a6 (ws.take j).length cap6) j (celsW (ws.take j)) := by have := hown; unfold OwnW at this; rw [hlen] at this ⊢; exact this
      rw [hlen] at *
      clear k0 k1 k2 k3 hTk hTr h4 h5 hf hown
      go_wp2_with (first
        | (at_builtin; refine wpList_append_at _ rfl (.tmp 35) (.tmp 40) 41 41 rfl w4.heap.size 43 i0 (.agg #[.int .i64 0, .string ⟨#[]⟩, .int .i64 0, .int .i64 0]) 4 40 Tryd.underlying41 hi hz0 hz1 hz2 rfl _ j _ rfl (World.ownsRow.alloc ho6 _) _ 1 (celW ws[j]) rfl (src_word Tryd.underlying41 wr ws[j]) 1 (.inr (by omega)) (Nat.le_refl _) (by unfold maxLen; omega) (by simp; omega) ?_; intro v5 w5 ho5 hg5 hl5))
      have hN5 : OwnW w5 w4.heap.size 43 v5 (ws.take (j + 1)) := by
        rw [List.take_succ_eq_append_getElem hlt]
        have e1 : (ws.take j).length + 1 = j + 1 := by rw [List.length_take]; omega
        exact ownW_snoc (by rw [e1]; exact ho5)
      have hB5 : Below w4.heap.size w4 w5 := (hbr.alloc hszr _).grown hg5 (by simp; omega) (fun k hk => (World.ownsRow.lt ho6 k hk).1)
      go_roundw
      case rel => exact ⟨j + 1, hlt, by go_num, hN5, hB5⟩
      case measure => simp [RowKit.intOf]; omega
    · have i1 : ¬ (j : Int) < (ws.length : Int) := by omega
      have hjl : ws.take j = ws := List.take_of_length_le (by omega)
      rw [hjl] at hown q6 ⊢
      have b5 := b4.trans (hbr.mono b4.size)
      have hu5 := (hu.base (Nat.zero_le _)).below b5 (Nat.le_refl _)
      have s1 := hTk wr _ (hown.base (Nat.zero_le _))
      have bb : Below w.heap.size w wr := b3'.trans (b5.mono b3'.size)
      clear hTk hown i0 hi hz0 hz1 hz2 hjl
      rcases hf with rfl | ⟨eu, ey, rfl⟩
      all_goals
        go_wp2_with (first
          | (go_at_call 12; refine s1.mono ?_; rintro e w6 ⟨rfl, b6⟩; have bb6 := bthen bb b6; have s2 := hTr w6 _ (hT.below bb6 (Nat.le_refl _)) (hu5.below b6 (Nat.le_refl _)); clear s1)
          | (go_at_call 13; refine s2.mono ?_; rintro e w7 ⟨u, rfl, hu7, b7⟩; obtain ⟨xk, xm, xs, xa, xl, xc, rfl⟩ := rdT_form (show RdT _ w7 d t u from hu7); have bb7 := bthen bb6 b7; clear s2))
        have hA := At4.newAt w7 (.int .i64 xk) (.int .i64 xm) (.string xs) (.slice xa xl xc) 30 _ rfl
        have b8 := bb7.alloc bb7.size (.cells #[.int .i64 xk, .int .i64 xm, .string xs, .slice xa xl xc] 30)
        have hu8 : RdT (fun _ => True) (w7.alloc (.cells #[.int .i64 xk, .int .i64 xm, .string xs, .slice xa xl xc] 30)) d t (.agg #[.int .i64 xk, .int .i64 xm, .string xs, .slice xa xl xc]) := RdT.keep (ok' := fun _ => True) (fun b _ hl => ⟨trivial, ((Below.refl w7.heap.size w7).alloc (Nat.le_refl _) _).block b hl⟩) (show RdT _ w7 d t _ from hu7)
        obtain ⟨N, hN⟩ : ∃ N, w7.heap.size = N := ⟨_, rfl⟩
        rw [hN] at hA ⊢
        clear hTr hN
        generalize w7.alloc (.cells #[.int .i64 xk, .int .i64 xm, .string xs, .slice xa xl xc] 30) = wn at *
        have bd : Below wn.heap.size wn wn.drew := (Below.refl _ _).drew
        have bb := bthen b8 bd
        have hA := hA.on bd
        have hu := RdT.below bd (Nat.le_refl _) hu8
        have s1 := h4 wn.drew
        go_region_held (fun w' => w'.cell? ⟨N, 0, none⟩ = some (.int .i64 xk) ∧ w'.cell? ⟨N, 1, none⟩ = some (.int .i64 xm) ∧ w'.cell? ⟨N, 2, none⟩ = some (.string xs) ∧ w'.cell? ⟨N, 3, none⟩ = some (.slice xa xl xc))
          (first | exact ⟨hA.1, hA.2.1, hA.2.2.1, hA.2.2.2⟩ | go_keep)
          (first
            | (go_at_call 9; refine s1.mono ?_; rintro e wn ⟨u, rfl, hu4, bn⟩; obtain ⟨yk, ym, ys, ya, yl, yc, rfl⟩ := rdT_form hu4; have bb := bthen bb bn; have hA := hA.on bn; have s2 := h5 wn _ _ _ _ hu4 (RdT.below bn (Nat.le_refl _) hu); clear s1)
            | (go_at_call 8; refine s2.mono ?_; rintro e wn ⟨rfl, bn⟩; have bb := bthen bb bn; have hA := hA.on bn; clear s2))
        go_wp2
        go_ret
        exact ⟨rfl, bb⟩
end Go.Proofs.YtiddccohldjjcaaDoor
