/- What pack.Items does. -/
import Derived.Test.YtdbfblkdjijmmaaAddI
import Derived.Test.YtdbfblkdjijmmaaRdI
namespace Go.Proofs.Ytdbfblkdjijmmaa
open Go.RowKit
set_option linter.unusedSimpArgs false
set_option linter.unusedVariables false

theorem toList_full {s : ByteArray} (h : ¬ s.size = 0) : s.toList.isEmpty = false := by
  rw [ByteArray.toList_eq]
  cases hd : s.data.toList with
  | nil => exact absurd (congrArg List.length hd) h
  | cons a r => rfl
theorem badI_t0 (s : ByteArray) : badI (true, 0, s) = false := by simp [badI]
theorem badI_t {n : Int} (h : ¬ n = 0) (s : ByteArray) : badI (true, n, s) = true := by simp [badI, h]
theorem badI_n0 (n : Int) : badI (false, n, ⟨#[]⟩) = false := by simp [badI]; rfl
theorem badI_n {s : ByteArray} (h : ¬ s.size = 0) (n : Int) : badI (false, n, s) = true := by simp [badI, h]

set_option maxHeartbeats 1000000 in
theorem items_any (v : Value) (l : List It) (w : World) (h : RdI w v l) (hl : l.length ≤ 1048576) (ht : txts l ≤ 1048576) :
    Calls Try.prog 17 #[v] w fun e w' => ∃ u, e = .returned (.tuple #[u, .int .i64 (itemsS l).2]) ∧ Own w' w.heap.size 5 u (itemsS l).1 ∧ Below w.heap.size w w' := by
  have hil := ibs_len l
  by_cases hn : l.length = 0
  · obtain rfl : l = [] := List.length_eq_zero_iff.1 hn
    obtain ⟨a, cap, rfl, hc, hm, hnone, hcell⟩ := h
    have e : itemsS [] = (nb 0, 0) := rfl
    rw [e]
    simp only [List.length_nil]
    have hcall := fun w' : World => addNumber_any w.heap.size (.slice none 0 0) [] 0 9 w' (World.ownsRow_nil _ _ _ _) (.inr (by simp)) (by omega) (by simp [maxLen])
    go_enter Try.func17, Try.ntmps17
    go_wp2
    refine wp_loop_rounds 1 ?_
    rw [rounds_succ]
    go_wp2_with (first | (go_at_call 23; refine (hcall _ (Nat.le_refl _)).mono ?_; rintro e w1 ⟨u, rfl, ho, _, hb⟩))
    refine wp_loop_rounds 1 ?_
    rw [rounds_succ]
    go_wp2
    go_ret2
    exact ⟨_, rfl, ho, hb⟩
  · obtain ⟨b, off, cap, rfl, hc, hm, hbl, hcell⟩ := h.lies (by omega)
    have HC : Hid (∀ (i : Nat) (h : i < l.length), w.cell? ⟨b, off + i * 3, none⟩ = some (.bool (l[i]).1) ∧ w.cell? ⟨b, off + i * 3 + 1, none⟩ = some (.int .i64 (l[i]).2.1) ∧ w.cell? ⟨b, off + i * 3 + 2, none⟩ = some (.string (l[i]).2.2)) := hcell
    clear hcell h hn
    unfold maxLen at hm
    go_enter Try.func17, Try.ntmps17
    go_wp2
    go_loopw [11] (fun i wr => ∃ j : Nat, j ≤ l.length ∧ i = .int .i64 j ∧ Hid (∀ (i : Nat) (hi : i < l.length), i < j → badI l[i] = false) ∧ Below w.heap.size w wr) (fun i _ => l.length - (intOf i).toNat)
    case atStart => exact ⟨0, Nat.zero_le _, rfl, fun i hi h => absurd h (Nat.not_lt_zero _), Below.refl _ _⟩
    case round =>
      obtain ⟨j, hj, rfl, hgood, hbel⟩ := hrel
      by_cases hlt : j < l.length
      · obtain ⟨e0, e1, e2⟩ := HC.out j hlt
        obtain ⟨⟨xt, xn, xs⟩, hx⟩ : ∃ x, x = l[j] := ⟨_, rfl⟩
        rw [← hx] at e0 e1 e2
        have c0 := (hbel.cell (p := ⟨b, off + j * 3, none⟩) hbl).trans e0
        have c1 := (hbel.cell (p := ⟨b, off + j * 3 + 1, none⟩) hbl).trans e1
        have c2 := (hbel.cell (p := ⟨b, off + j * 3 + 2, none⟩) hbl).trans e2
        have hs := hbel.size
        have HI : Hid (badI (xt, xn, xs) = true → itemsS l = ([], 1)) := fun hb => itemsS_bad hlt (by rw [← hx]; exact hb)
        have HG : Hid (badI (xt, xn, xs) = false → ∀ (i : Nat) (hi : i < l.length), i < j + 1 → badI l[i] = false) := fun hb i hi hij => by
          rcases Nat.lt_or_ge i j with h | h
          · exact hgood.out i hi h
          · obtain rfl : i = j := by omega
            rw [← hx]; exact hb
        clear e0 e1 e2 hx
        cases xt with
        | true =>
          by_cases hn0 : xn = 0
          · subst hn0
            go_wp2
            go_roundw
            case rel => exact ⟨j + 1, hlt, by go_num, HG.out (badI_t0 xs), hbel.alloc hs _⟩
            case measure => simp [intOf]; omega
          · have hne : (xn != 0) = true := by simpa using hn0
            have HE := HI.out (badI_t hn0 xs)
            have HE' : Hid (itemsS l = ([], 1)) := HE
            clear HE
            go_wp2
            go_ret2
            exact ⟨_, by rw [HE'.out]; rfl, by rw [HE'.out]; exact World.ownsRow_nil _ _ _ _, hbel.alloc hs _⟩
        | false =>
          by_cases hs0 : xs.size = 0
          · have := size0 hs0
            subst this
            go_wp2
            go_roundw
            case rel => exact ⟨j + 1, hlt, by go_num, HG.out (badI_n0 xn), hbel.alloc hs _⟩
            case measure => simp [intOf]; omega
          · have hne := toList_full hs0
            have HE : Hid (itemsS l = ([], 1)) := HI.out (badI_n hs0 xn)
            go_wp2
            go_ret2
            exact ⟨_, by rw [HE.out]; rfl, by rw [HE.out]; exact World.ownsRow_nil _ _ _ _, hbel.alloc hs _⟩
      · have hall : ∀ (i : Nat) (hi : i < l.length), badI l[i] = false := fun i hi => hgood.out i hi (by omega)
        by_cases h4 : 4000 < l.length
        · have HE : Hid (itemsS l = ([], 4)) := itemsS_long hall h4
          clear hall hgood
          go_wp2
          go_ret2
          exact ⟨_, by rw [HE.out]; rfl, by rw [HE.out]; exact World.ownsRow_nil _ _ _ _, hbel⟩
        · have HE : Hid (itemsS l = (nb l.length ++ ibs l, 0)) := itemsS_ok hall h4
          have hnl := nb_le l.length
          have hcall := addNumber_any w.heap.size (.slice none 0 0) [] l.length (20 * 1048576) wr (World.ownsRow_nil _ _ _ _) (.inr (by simp)) (by omega) (by simp [maxLen]) hbel.size
          clear hall hgood
          go_wp2_with (first | (go_at_call 23; refine hcall.mono ?_; rintro e w1 ⟨u, rfl, ho1, hr1, hb1⟩))
          rw [List.nil_append] at ho1
          have bel1 := hbel.trans hb1
          clear hbel hcall hr1 hb1
          go_loopw [6, 41] (fun u i wr => ∃ j : Nat, j ≤ l.length ∧ i = .int .i64 j ∧ Own wr w.heap.size 5 u (nb l.length ++ ibs (l.take j)) ∧ Below w.heap.size w wr) (fun _ i _ => l.length - (intOf i).toNat)
          case atStart => exact ⟨0, Nat.zero_le _, rfl, by simpa [ibs] using ho1, bel1⟩
          case round =>
            clear bel1 ho1
            obtain ⟨j, hj, rfl, ho, hbel⟩ := hrel
            by_cases hlt : j < l.length
            · obtain ⟨e0, e1, e2⟩ := HC.out j hlt
              obtain ⟨⟨xt, xn, xs⟩, hx⟩ : ∃ x, x = l[j] := ⟨_, rfl⟩
              rw [← hx] at e0 e1 e2
              have c0 := (hbel.cell (p := ⟨b, off + j * 3, none⟩) hbl).trans e0
              have c1 := (hbel.cell (p := ⟨b, off + j * 3 + 1, none⟩) hbl).trans e1
              have c2 := (hbel.cell (p := ⟨b, off + j * 3 + 2, none⟩) hbl).trans e2
              have hs := hbel.size
              have htl := ibs_take l j
              have hxs : xs.size ≤ 1048576 := by
                have := txts_mem (x := l[j]) (List.getElem_mem hlt)
                rw [← hx] at this
                dsimp only at this
                omega
              have hlen : (nb l.length ++ ibs (l.take j)).length ≤ 9 + (10 * l.length + txts l) := by rw [List.length_append]; omega
              have HT : Hid (nb l.length ++ ibs (l.take (j + 1)) = (nb l.length ++ ibs (l.take j)) ++ ib (xt, xn, xs)) := by show _ = _; rw [take_snoc l j hlt, ibs_snoc, ← hx, List.append_assoc]
              have hcall := fun o : Obj => addItem_any w.heap.size _ _ (xt, xn, xs) (20 * 1048576) (wr.alloc o) (World.ownsRow.alloc ho o) (.inr (by omega)) (by dsimp only; omega) (by unfold maxLen; omega) (by simp; omega)
              clear e0 e1 e2 hx
              go_wp2_with (first | (go_at_call 29; refine (hcall _).mono ?_; rintro e w2 ⟨u2, rfl, ho2, _, hb2⟩))
              go_roundw
              case rel => exact ⟨j + 1, hlt, by go_num, by rw [HT.out]; exact ho2, (hbel.alloc hs _).trans hb2⟩
              case measure => simp [intOf]; omega
            · rw [List.take_of_length_le (by omega)] at ho
              go_wp2
              go_ret2
              exact ⟨_, by rw [HE.out]; rfl, by rw [HE.out]; exact ho, hbel⟩
end Go.Proofs.Ytdbfblkdjijmmaa
