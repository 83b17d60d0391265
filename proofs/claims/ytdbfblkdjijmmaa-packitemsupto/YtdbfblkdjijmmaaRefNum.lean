/- What the document's least and Number do. -/
import Derived.Test.YtdbfblkdjijmmaaNumW
namespace Go.Proofs.Ytdbfblkdjijmmaa
open Go.RowKit
set_option linter.unusedSimpArgs false
set_option linter.unusedVariables false

set_option maxHeartbeats 400000 in
theorem least_any (n : Int) (w : World) :
    Calls Try.prog 25 #[.int .i64 n] w fun e w' => ∃ v', e = .returned v' ∧ Own w' w.heap.size 5 v' (bts n (wd n)) ∧ Below w.heap.size w w' := by
  obtain ⟨i0, hi, hz0, hz1, hz2⟩ := info_parts Try.info5
  by_cases h0 : n = 0
  · subst h0
    go_enter Try.func25, Try.ntmps25
    go_wp2
    go_ret
    exact ⟨_, rfl, World.ownsRow_nil _ _ _ _, Below.refl _ _⟩
  · have hb : (n == 0) = false := by simpa using h0
    have hs := wd_start h0
    have HS : Hid (wdFrom n (8 - 1) 1 = wd n) := hs
    clear hs
    go_enter Try.func25, Try.ntmps25
    go_wp2
    go_loop [3] (fun t => ∃ k : Nat, 1 ≤ k ∧ k ≤ 8 ∧ t = .int .i64 k ∧ Hid (wdFrom n (8 - k) k = wd n)) (fun t => 8 - (intOf t).toNat)
    case atStart => exact ⟨1, by omega, by omega, rfl, HS⟩
    case round =>
      obtain ⟨k, hk1, hk8, rfl, hw⟩ := hrel
      go_wp2
      rotate_left 1
      · go_round
        case rel => exact ⟨k + 1, by omega, by omega, by go_num, wd_next (by omega) hw.out (tells_no ‹_›)⟩
        case measure => simp [intOf]; omega
      all_goals
        have hkw : k = wd n := by first | exact wd_stop hw.out (tells_yes0 ‹_›) | exact wd_stop hw.out (tells_yes ‹_›) | exact wd_last hw.out (by omega)
        have HK : Hid (bts n k = bts n (wd n)) := by rw [hkw]; exact rfl
        clear hkw
        go_loopw [4, 5] (fun u i wr => ∃ (j : Nat) (ys : List Int), j ≤ 8 ∧ ys.length ≤ 8 - j ∧ i = .int .i64 ((j : Int) - 1) ∧ Own wr w.heap.size 5 u ys ∧ Hid (ys ++ bts n j = bts n (wd n)) ∧ Below w.heap.size w wr) (fun _ i _ => (intOf i + 1).toNat)
        case atStart => exact ⟨k, [], hk8, by simp, rfl, World.ownsRow_nil _ _ _ _, HK, Below.refl _ _⟩
        case round =>
          obtain ⟨j, ys, hj8, hyl, rfl, ho, hys, hbel⟩ := hrel
          cases j with
          | zero =>
            go_wp2
            go_ret
            have e : ys = bts n (wd n) := by have := hys.out; simpa [bts] using this
            rw [← e]
            exact ⟨_, rfl, ho, hbel⟩
          | succ j =>
            have hsz := hbel.size
            have hj0 : (0 : Int) ≤ (j : Int) := Int.natCast_nonneg _
            have hoa2 := ho.alloc (.cells #[.int .u8 (n / 2 ^ (8 * j) % 256)] 5)
            go_wp2_with (first
              | (at_builtin; refine wpList_append_both _ rfl (.tmp 36) (.tmp 43) 22 22 rfl w.heap.size 5 i0 (.int .u8 0) 1 1 Try.underlying22 hi hz0 hz1 hz2 rfl _ ys.length _ rfl hoa2 _ 1 [.int .u8 (n / 2 ^ (8 * j) % 256)] rfl (src_one Try.underlying22 _ _) 9 (.inr (by omega)) (by omega) (by unfold maxLen; omega) (by simp; omega) ?_))
            intro v2 w2 hown2 hgrow2 hroom2
            go_wp2
            go_roundw
            case rel =>
              refine ⟨j, ys ++ [byt n j], by omega, by simp; omega, by go_num, ?_, ?_, ?_⟩
              · simpa [Own, byt] using hown2
              · have := hys.out
                show (ys ++ [byt n j]) ++ bts n j = bts n (wd n)
                simpa [bts] using this
              · exact (hbel.alloc (by omega) _).grown hgrow2 (by simp; omega) (fun k hk => (ho.lt k hk).1)
            case measure => simp [intOf]

set_option maxHeartbeats 400000 in
theorem refNumber_any (n : Int) (w : World) :
    Calls Try.prog 10 #[.int .i64 n] w fun e w' => ∃ v', e = .returned v' ∧ Own w' w.heap.size 5 v' (nb n) ∧ Below w.heap.size w w' := by
  obtain ⟨i0, hi, hz0, hz1, hz2⟩ := info_parts Try.info5
  have hle := wd_le n
  have hbl := bts_length n (wd n)
  go_enter Try.func10, Try.ntmps10
  go_wp2_with (first
    | (go_at_call 25; refine (least_any _ _).mono ?_; rintro e w1 ⟨v1, rfl, ho1, hb1⟩; have hrd := ho1.rd; obtain ⟨a1, c1, hv1, hrest⟩ := ho1.rd; rw [hbl] at hv1; subst hv1; clear hrest; have hsz := hb1.size; have hrd2 := (hrd.below ((Below.refl _ _).alloc (Nat.le_refl _) (.cells #[.int .u8 (wd n)] 5)) (Nat.le_refl _)).src (P := Try.prog) Try.underlying22; rw [hbl] at hrd2)
    | (at_builtin; refine wpList_append_both _ rfl (.tmp 9) (.tmp 10) 22 22 rfl w.heap.size 5 i0 (.int .u8 0) 1 1 Try.underlying22 hi hz0 hz1 hz2 rfl _ 1 _ rfl (World.ownsRow_lit w1 #[.int .u8 (wd n)] 1 hsz (by unfold maxLen; omega) (by simp)) _ (wd n) _ rfl hrd2 9 (.inr (by omega)) (by omega) (by unfold maxLen; omega) (by simp; omega) ?_))
  intro v2 w2 hown2 hgrow2 hroom2
  go_wp2
  go_ret
  refine ⟨v2, rfl, ?_, (hb1.alloc hsz _).grown hgrow2 (by simp; omega) (fun k hk => by simp [Value.ownBlock] at hk; omega)⟩
  unfold Own
  rw [nb_length]
  simpa [nb, Nat.add_comm] using hown2

end Go.Proofs.Ytdbfblkdjijmmaa
