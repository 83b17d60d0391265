/- What the document's Items does. -/
import Derived.Test.YtdbfblkdjijmmaaItemsP
import Derived.Test.YtdbfblkdjijmmaaRefTxt
namespace Go.Proofs.Ytdbfblkdjijmmaa
open Go.RowKit
set_option linter.unusedSimpArgs false
set_option linter.unusedVariables false
attribute [local go_sem ↓] Go.wp_at_zero Go.wp_at_succ

theorem Own.lower {w : World} {base base' e : Nat} {v : Value} {xs : List Int} (h : Own w base e v xs) (hb : base' ≤ base) : Own w base' e v xs := by
  refine ⟨h.1, ?_⟩
  rcases h.2 with hn | ⟨g, cap, cur, rfl, hbg, rest⟩
  · exact .inl hn
  · exact .inr ⟨g, cap, cur, rfl, Nat.le_trans hb hbg, rest⟩
theorem own_more {w : World} {base : Nat} {v : Value} {xs ys : List Int} (h : w.ownsRow base 5 1 v (xs.length + ys.length) (xs.map (Value.int .u8) ++ ys.map (Value.int .u8))) : Own w base 5 v (xs ++ ys) := by
  unfold Own
  rw [List.length_append, List.map_append]
  exact h

set_option maxHeartbeats 1000000 in
theorem refItems_any (v : Value) (l : List It) (w : World) (h : RdI w v l) (hl : l.length ≤ 1048576) (ht : txts l ≤ 1048576) :
    Calls Try.prog 19 #[v] w fun e w' => ∃ u, e = .returned (.tuple #[u, .int .i64 (itemsS l).2]) ∧ Own w' w.heap.size 5 u (itemsS l).1 ∧ Below w.heap.size w w' := by
  have hil := ibs_len l
  obtain ⟨i0, hi, hz0, hz1, hz2⟩ := info_parts Try.info5
  by_cases hn : l.length = 0
  · obtain rfl : l = [] := List.length_eq_zero_iff.1 hn
    obtain ⟨a, cap, rfl, hc, hm, hnone, hcell⟩ := h
    have e : itemsS [] = (nb 0, 0) := rfl
    rw [e]
    simp only [List.length_nil]
    go_enter Try.func19, Try.ntmps19
    go_wp2
    refine wp_loop_rounds 1 ?_
    rw [rounds_succ]
    go_wp2_with (first | (go_at_call 10; refine (refNumber_any 0 _).mono ?_; rintro e w1 ⟨u, rfl, ho, hb⟩))
    refine wp_loop_rounds 1 ?_
    rw [rounds_succ]
    go_wp2
    go_ret2
    exact ⟨_, rfl, ho, hb⟩
  · obtain ⟨b, off, cap, rfl, hc, hm, hbl, hcell⟩ := h.lies (by omega)
    have HC : Hid (∀ (i : Nat) (h : i < l.length), w.cell? ⟨b, off + i * 3, none⟩ = some (.bool (l[i]).1) ∧ w.cell? ⟨b, off + i * 3 + 1, none⟩ = some (.int .i64 (l[i]).2.1) ∧ w.cell? ⟨b, off + i * 3 + 2, none⟩ = some (.string (l[i]).2.2)) := hcell
    clear hcell h hn
    unfold maxLen at hm
    go_enter Try.func19, Try.ntmps19
    go_wp2
    go_loopw [9] (fun i wr => ∃ j : Nat, j ≤ l.length ∧ i = .int .i64 j ∧ Hid (∀ (i : Nat) (hi : i < l.length), i < j → badI l[i] = false) ∧ Below w.heap.size w wr) (fun i _ => l.length - (intOf i).toNat)
    case atStart => exact ⟨0, Nat.zero_le _, rfl, fun i hi h => absurd h (Nat.not_lt_zero _), Below.refl _ _⟩
    case round =>
      obtain ⟨j, hj, rfl, hgood, hbel⟩ := hrel
      by_cases hlt : j < l.length
      · obtain ⟨e0, e1, e2⟩ := HC.out j hlt
        obtain ⟨⟨xt, xn, xs⟩, hx⟩ : ∃ x, x = l[j] := ⟨_, rfl⟩
        rw [← hx] at e0 e1 e2
        have c0 := (hbel.cell (p := ⟨b, off + j * 3, none⟩) hbl).trans e0
        have c1 := (hbel.cell (p := ⟨b, off + j * 3 + 1, none⟩) hbl).trans e1
        have c2 := (hbel.cell (p := ⟨b, off + j * 3 + 2, none⟩) hbl).trans e2
        have hs := hbel.size
        have HI : Hid (badI (xt, xn, xs) = true → itemsS l = ([], 1)) := fun hb => itemsS_bad hlt (by rw [← hx]; exact hb)
        have HG : Hid (badI (xt, xn, xs) = false → ∀ (i : Nat) (hi : i < l.length), i < j + 1 → badI l[i] = false) := fun hb i hi hij => by
          rcases Nat.lt_or_ge i j with h | h
          · exact hgood.out i hi h
          · obtain rfl : i = j := by omega
            rw [← hx]; exact hb
        clear e0 e1 e2 hx
        cases xt with
        | true =>
          by_cases hn0 : xn = 0
          · subst hn0
            go_wp2
            go_roundw
            case rel => exact ⟨j + 1, hlt, by go_num, HG.out (badI_t0 xs), hbel⟩
            case measure => simp [intOf]; omega
          · have hne : (xn != 0) = true := by simpa using hn0
            have HE := HI.out (badI_t hn0 xs)
            have HE' : Hid (itemsS l = ([], 1)) := HE
            clear HE
            go_wp2
            go_ret2
            exact ⟨_, by rw [HE'.out]; rfl, by rw [HE'.out]; exact World.ownsRow_nil _ _ _ _, hbel⟩
        | false =>
          by_cases hs0 : xs.size = 0
          · have := size0 hs0
            subst this
            go_wp2
            go_roundw
            case rel => exact ⟨j + 1, hlt, by go_num, HG.out (badI_n0 xn), hbel⟩
            case measure => simp [intOf]; omega
          · have hne := toList_full hs0
            have HE : Hid (itemsS l = ([], 1)) := HI.out (badI_n hs0 xn)
            go_wp2
            go_ret2
            exact ⟨_, by rw [HE.out]; rfl, by rw [HE.out]; exact World.ownsRow_nil _ _ _ _, hbel⟩
      · have hall : ∀ (i : Nat) (hi : i < l.length), badI l[i] = false := fun i hi => hgood.out i hi (by omega)
        by_cases h4 : 4000 < l.length
        · have HE : Hid (itemsS l = ([], 4)) := itemsS_long hall h4
          clear hall hgood
          go_wp2
          go_ret2
          exact ⟨_, by rw [HE.out]; rfl, by rw [HE.out]; exact World.ownsRow_nil _ _ _ _, hbel⟩
        · have HE : Hid (itemsS l = (nb l.length ++ ibs l, 0)) := itemsS_ok hall h4
          have hnl := nb_le l.length
          clear hall hgood
          go_wp2_with (first | (go_at_call 10; refine (refNumber_any l.length wr).mono ?_; rintro e w1 ⟨u, rfl, ho1, hb1⟩))
          have ho1 : Own w1 w.heap.size 5 u (nb l.length) := ho1.lower hbel.size
          have bel1 := hbel.trans (hb1.mono hbel.size)
          clear hbel hb1
          go_loopw [5, 50] (fun u i wr => ∃ j : Nat, j ≤ l.length ∧ i = .int .i64 j ∧ Own wr w.heap.size 5 u (nb l.length ++ ibs (l.take j)) ∧ Below w.heap.size w wr) (fun _ i _ => l.length - (intOf i).toNat)
          case atStart => exact ⟨0, Nat.zero_le _, rfl, by simpa [ibs] using ho1, bel1⟩
          case round =>
            clear bel1 ho1
            obtain ⟨j, hj, rfl, ho, hbel⟩ := hrel
            by_cases hlt : j < l.length
            · obtain ⟨e0, e1, e2⟩ := HC.out j hlt
              obtain ⟨⟨xt, xn, xs⟩, hx⟩ : ∃ x, x = l[j] := ⟨_, rfl⟩
              rw [← hx] at e0 e1 e2
              have c0 := (hbel.cell (p := ⟨b, off + j * 3, none⟩) hbl).trans e0
              have c1 := (hbel.cell (p := ⟨b, off + j * 3 + 1, none⟩) hbl).trans e1
              have c2 := (hbel.cell (p := ⟨b, off + j * 3 + 2, none⟩) hbl).trans e2
              have hs := hbel.size
              have hblr : b < wr.heap.size := Nat.lt_of_lt_of_le hbl hs
              have htl := ibs_take l j
              have hxs : xs.size ≤ 1048576 := by
                have := txts_mem (x := l[j]) (List.getElem_mem hlt)
                rw [← hx] at this
                dsimp only at this
                omega
              have hlen : (nb l.length ++ ibs (l.take j)).length ≤ 9 + (10 * l.length + txts l) := by rw [List.length_append]; omega
              have HT : Hid (nb l.length ++ ibs (l.take (j + 1)) = (nb l.length ++ ibs (l.take j)) ++ ib (xt, xn, xs)) := by show _ = _; rw [take_snoc l j hlt, ibs_snoc, ← hx, List.append_assoc]
              clear e0 e1 e2 hx
              cases xt with
              | true =>
                have hnt := nb_le xs.size
                have hst := sb_length xs
                have htb : (tb xs).length ≤ 9 + xs.size := by unfold tb; rw [List.length_append]; omega
                have HD : Hid (w.cell? ⟨b, off + j * 3 + 2, none⟩ = some (.string xs)) := by have := (hbel.cell (p := ⟨b, off + j * 3 + 2, none⟩) hbl); exact this.symm.trans c2
                have HT : Hid (nb l.length ++ ibs (l.take (j + 1)) = ((nb l.length ++ ibs (l.take j)) ++ [2]) ++ tb xs) := by show _ = _; rw [HT.out]; simp [ib]
                go_wp2
                go_region_law (first
                    | ((refine step_append_both _ (by rfl) (.tmp 58) (.tmp 59) 22 22 (by rfl) w.heap.size 5 i0 (.int .u8 0) 1 1 Try.underlying22 hi hz0 hz1 hz2 rfl u5 _ _ (by rfl) ((World.ownsRow.alloc ho _).drew) _ 1 [.int .u8 2] (by rfl) (src_one_drew Try.underlying22 wr 2 rfl) 1 (.inr (by omega)) (Nat.le_refl _) (by unfold maxLen; omega) (by simp; omega) ?_; intro v3 w3 ho3 hg3 hr3; have bel3 : Below w.heap.size w w3 := ((hbel.alloc hs _).drew).grown hg3 (by simp; omega) (fun q hq => (World.ownsRow.lt ho q hq).1); have d0 := (bel3.cell (p := ⟨b, off + j * 3 + 2, none⟩) hbl).trans HD.out; have o3 : Own w3 w.heap.size 5 v3 ((nb l.length ++ ibs (l.take j)) ++ [2]) := own_more (ys := [2]) ho3; clear ho3 hr3 hg3))
                    | ((go_simp; go_at_call 12; refine (refText_any xs _ (by omega)).mono ?_; rintro e w4 ⟨v4, rfl, ho4, hb4⟩; have o4 : Own w4 w.heap.size 5 v3 ((nb l.length ++ ibs (l.take j)) ++ [2]) := o3.below hb4 (Nat.le_refl _); have bel4 : Below w.heap.size w w4 := bel3.trans (hb4.mono bel3.size); have r4 := ho4.rd))
                    | ((refine step_append_both _ (by rfl) (.tmp 60) (.tmp 66) 22 22 (by rfl) w.heap.size 5 i0 (.int .u8 0) 1 1 Try.underlying22 hi hz0 hz1 hz2 rfl v3 _ _ (by rfl) o4 _ _ _ (by rfl) (r4.src Try.underlying22) (tb xs).length (.inr (by rw [List.length_append]; simp only [List.length_cons, List.length_nil]; omega)) (Nat.le_refl _) (by rw [List.length_append]; simp only [List.length_cons, List.length_nil]; unfold maxLen; omega) bel4.size ?_; intro v5 w5 ho5 hg5 _; have bel5 : Below w.heap.size w w5 := bel4.grown hg5 bel4.size (fun q hq => (World.ownsRow.lt o4 q hq).1)))
                    )
                all_goals
                  go_wp2
                  go_roundw
                  case rel => exact ⟨j + 1, hlt, by go_num, by rw [HT.out]; exact own_more ho5, bel5⟩
                  case measure => simp [intOf]; omega
              | false =>
                have hnt := nb_le xn
                have HD : Hid (w.cell? ⟨b, off + j * 3 + 1, none⟩ = some (.int .i64 xn)) := by have := (hbel.cell (p := ⟨b, off + j * 3 + 1, none⟩) hbl); exact this.symm.trans c1
                have HT : Hid (nb l.length ++ ibs (l.take (j + 1)) = ((nb l.length ++ ibs (l.take j)) ++ [1]) ++ nb xn) := by show _ = _; rw [HT.out]; simp [ib]
                go_wp2
                go_region_law (first
                    | ((refine step_append_both _ (by rfl) (.tmp 68) (.tmp 69) 22 22 (by rfl) w.heap.size 5 i0 (.int .u8 0) 1 1 Try.underlying22 hi hz0 hz1 hz2 rfl u5 _ _ (by rfl) ((World.ownsRow.alloc ho _).drew) _ 1 [.int .u8 1] (by rfl) (src_one_drew Try.underlying22 wr 1 rfl) 1 (.inr (by omega)) (Nat.le_refl _) (by unfold maxLen; omega) (by simp; omega) ?_; intro v3 w3 ho3 hg3 hr3; have bel3 : Below w.heap.size w w3 := ((hbel.alloc hs _).drew).grown hg3 (by simp; omega) (fun q hq => (World.ownsRow.lt ho q hq).1); have d0 := (bel3.cell (p := ⟨b, off + j * 3 + 1, none⟩) hbl).trans HD.out; have o3 : Own w3 w.heap.size 5 v3 ((nb l.length ++ ibs (l.take j)) ++ [1]) := own_more (ys := [1]) ho3; clear ho3 hr3 hg3))
                    | ((go_simp; go_at_call 10; refine (refNumber_any xn _).mono ?_; rintro e w4 ⟨v4, rfl, ho4, hb4⟩; have o4 : Own w4 w.heap.size 5 v3 ((nb l.length ++ ibs (l.take j)) ++ [1]) := o3.below hb4 (Nat.le_refl _); have bel4 : Below w.heap.size w w4 := bel3.trans (hb4.mono bel3.size); have r4 := ho4.rd))
                    | ((refine step_append_both _ (by rfl) (.tmp 70) (.tmp 76) 22 22 (by rfl) w.heap.size 5 i0 (.int .u8 0) 1 1 Try.underlying22 hi hz0 hz1 hz2 rfl v3 _ _ (by rfl) o4 _ _ _ (by rfl) (r4.src Try.underlying22) (nb xn).length (.inr (by rw [List.length_append]; simp only [List.length_cons, List.length_nil]; omega)) (Nat.le_refl _) (by rw [List.length_append]; simp only [List.length_cons, List.length_nil]; unfold maxLen; omega) bel4.size ?_; intro v5 w5 ho5 hg5 _; have bel5 : Below w.heap.size w w5 := bel4.grown hg5 bel4.size (fun q hq => (World.ownsRow.lt o4 q hq).1)))
                    )
                all_goals
                  go_wp2
                  go_roundw
                  case rel => exact ⟨j + 1, hlt, by go_num, by rw [HT.out]; exact own_more ho5, bel5⟩
                  case measure => simp [intOf]; omega
            · rw [List.take_of_length_le (by omega)] at ho
              go_wp2
              go_ret2
              exact ⟨_, by rw [HE.out]; rfl, by rw [HE.out]; exact ho, hbel⟩
end Go.Proofs.Ytdbfblkdjijmmaa
