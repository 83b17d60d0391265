/- What copied, pack.Number, addText, pack.Text, and the document's least, Number and Text do. -/
import Derived.Test.YtdbfblkdjijmmaaA
namespace Go.Proofs.Ytdbfblkdjijmmaa
open Go.RowKit

theorem Own.below {w w' : World} {base : Nat} {e : TypeId} {v : Value} {xs : List Int} {B : Nat} (h : Own w base e v xs) (hb : Below B w w') (hB : w.heap.size ≤ B) : Own w' base e v xs := by
  refine ⟨h.1, ?_⟩
  rcases h.2 with hn | ⟨g, cap, cur, rfl, hbg, hg, rest⟩
  · exact .inl hn
  · refine .inr ⟨g, cap, cur, rfl, hbg, ?_, rest⟩
    rw [hb.block g (by have := (Array.getElem?_eq_some_iff.1 hg).1; omega)]
    exact hg

set_option maxHeartbeats 400000 in
theorem copied_any (bv : Value) (bs : List Int) (room : Nat) (w : World) (hb : Rd w bv bs) (hl : bs.length + room ≤ 281474976710656) :
    Calls Try.prog 24 #[bv, .int .i64 room] w fun e w' => ∃ v', e = .returned v' ∧ Own w' w.heap.size 5 v' bs ∧ Room 1 v' bs.length room ∧ Below w.heap.size w w' := by
  obtain ⟨i0, hi, hz0, hz1, hz2⟩ := info_parts Try.info5
  have hb0 := hb
  obtain ⟨a, cap, rfl, hc, hm, hn, hcell⟩ := hb
  clear hcell hn
  unfold maxLen at hm
  go_enter Try.func24, Try.ntmps24
  go_wp2_with (first
    | (at_make; refine wpList_make_own _ rfl (.const (.int .i64 0)) (.tmp 8) 22 rfl w.heap.size 5 i0 (.int .u8 0) 1 Try.underlying22 hi hz0 hz1 .i64 .i64 _ (bs.length + room) rfl rfl ?c1 ?c2 ?c3 ?c4 ?_))
  case c1 => omega
  case c2 => rw [hz2]; omega
  case c3 => unfold maxLen; omega
  case c4 => omega
  intro w1 hown1 hgrow1
  have hbel : Below w.heap.size w w1 := (Below.refl _ _).grown hgrow1 (Nat.le_refl _) (fun k hk => by cases hk)
  have hb1 := hb0.below hbel (Nat.le_refl _)
  have hsz := hbel.size
  go_wp2_with (first
    | (at_builtin; refine wpList_append_both _ rfl (.tmp 9) (.tmp 10) 22 22 rfl w.heap.size 5 i0 (.int .u8 0) 1 1 Try.underlying22 hi hz0 hz1 hz2 rfl _ 0 [] rfl hown1 _ bs.length _ rfl (hb1.src Try.underlying22) (bs.length + room) (.inl ⟨_, _, rfl, by omega⟩) (by omega) (by unfold maxLen; omega) hsz ?_))
  intro v2 w2 hown2 hgrow2 hroom2
  go_wp2
  go_ret
  exact ⟨v2, rfl, hown2, hroom2, hbel.grown hgrow2 hsz (fun k hk => by simp [Value.ownBlock] at hk; omega)⟩

set_option maxHeartbeats 400000 in
theorem number_any (bv : Value) (bs : List Int) (n : Int) (w : World) (hb : Rd w bv bs) (hl : bs.length + 9 ≤ 281474976710656) :
    Calls Try.prog 9 #[bv, .int .i64 n] w fun e w' => ∃ v', e = .returned v' ∧ Own w' w.heap.size 5 v' (bs ++ nb n) ∧ Below w.heap.size w w' := by
  go_enter Try.func9, Try.ntmps9
  go_wp2_with (first
    | (go_at_call 24; refine (copied_any _ bs 9 _ hb hl).mono ?_; rintro e w1 ⟨v1, rfl, ho1, hr1, hb1⟩)
    | (go_at_call 23; refine (addNumber_any w.heap.size v1 bs n 9 w1 ho1 hr1 (by omega) (by unfold maxLen; omega) hb1.size).mono ?_; rintro e w2 ⟨v2, rfl, ho2, hr2, hb2⟩))
  go_ret
  exact ⟨_, rfl, ho2, hb1.trans hb2⟩

/-- A string's bytes, as numbers. -/
def sb (s : ByteArray) : List Int := s.data.toList.map fun b => (b.toNat : Int)
/-- A text's bytes. -/
def tb (s : ByteArray) : List Int := nb s.size ++ sb s
theorem sb_length (s : ByteArray) : (sb s).length = s.size := by simp [sb]
theorem sb_cells (s : ByteArray) : byteCells s = (sb s).map (Value.int .u8) := by simp [sb, byteCells, Function.comp_def]

set_option maxHeartbeats 400000 in
theorem addText_any (base : Nat) (v : Value) (xs : List Int) (s : ByteArray) (r : Nat) (w : World) (hown : Own w base 5 v xs) (hroom : Room 1 v xs.length r) (hr : 9 + s.size ≤ r) (h63 : xs.length + r ≤ maxLen) (hbase : base ≤ w.heap.size) :
    Calls Try.prog 26 #[v, .string s] w fun e w' => ∃ v', e = .returned v' ∧ Own w' base 5 v' (xs ++ tb s) ∧ Room 1 v' (xs ++ tb s).length (r - (tb s).length) ∧ Below base w w' := by
  obtain ⟨i0, hi, hz0, hz1, hz2⟩ := info_parts Try.info5
  have hnl := nb_le s.size
  have hm : s.size ≤ 9223372036854775807 := by unfold maxLen at h63; omega
  have h63' : (xs ++ nb s.size).length + (r - (nb s.size).length) ≤ maxLen := by rw [List.length_append]; omega
  have hsl : s.size ≤ r - (nb s.size).length := by omega
  go_enter Try.func26, Try.ntmps26
  go_wp2_with (first
    | (go_at_call 23; refine (addNumber_any base v xs s.size r w hown hroom (by omega) h63 hbase).mono ?_; rintro e w1 ⟨v1, rfl, ho1, hr1, hb1⟩)
    | (at_builtin; refine wpList_append_both _ rfl (.tmp 8) (.tmp 9) 22 9 rfl base 5 i0 (.int .u8 0) 1 1 Try.underlying22 hi hz0 hz1 hz2 rfl v1 _ _ rfl ho1 _ s.size (byteCells s) rfl (Src.ofString _ Try.underlying9 s) (r - (nb s.size).length) hr1 hsl h63' (Nat.le_trans hbase hb1.size) ?_))
  intro v2 w2 hown2 hgrow2 hroom2
  go_wp2
  go_ret
  have e1 : (xs ++ tb s).length = (xs ++ nb s.size).length + s.size := by simp [tb, sb_length]; omega
  have e2 : r - (tb s).length = r - (nb s.size).length - s.size := by simp [tb, sb_length]; omega
  refine ⟨v2, rfl, ?_, ?_, hb1.grown hgrow2 (Nat.le_trans hbase hb1.size) (fun k hk => (ho1.lt k hk).1)⟩
  · unfold Own
    rw [e1]
    have e3 : (xs ++ tb s).map (Value.int .u8) = (xs ++ nb s.size).map (Value.int .u8) ++ byteCells s := by rw [sb_cells]; simp [tb]
    rw [e3]
    simpa using hown2
  · rw [e1, e2]
    simpa using hroom2

set_option maxHeartbeats 400000 in
theorem text_any (bv : Value) (bs : List Int) (s : ByteArray) (w : World) (hb : Rd w bv bs) (hl : bs.length + (9 + s.size) ≤ 281474976710656) :
    Calls Try.prog 11 #[bv, .string s] w fun e w' => ∃ v', e = .returned v' ∧ Own w' w.heap.size 5 v' (bs ++ tb s) ∧ Below w.heap.size w w' := by
  go_enter Try.func11, Try.ntmps11
  go_wp2_with (first
    | (go_at_call 24; refine (copied_any _ bs (9 + s.size) _ hb hl).mono ?_; rintro e w1 ⟨v1, rfl, ho1, hr1, hb1⟩)
    | (go_at_call 26; refine (addText_any w.heap.size v1 bs s (9 + s.size) w1 ho1 hr1 (by omega) (by unfold maxLen; omega) hb1.size).mono ?_; rintro e w2 ⟨v2, rfl, ho2, hr2, hb2⟩))
  go_ret
  exact ⟨_, rfl, ho2, hb1.trans hb2⟩

set_option maxHeartbeats 400000 in
theorem least_any (n : Int) (w : World) :
    Calls Try.prog 25 #[.int .i64 n] w fun e w' => ∃ v', e = .returned v' ∧ Own w' w.heap.size 5 v' (bts n (wd n)) ∧ Below w.heap.size w w' := by
  obtain ⟨i0, hi, hz0, hz1, hz2⟩ := info_parts Try.info5
  by_cases h0 : n = 0
  · subst h0
    go_enter Try.func25, Try.ntmps25
    go_wp2
    go_ret
    exact ⟨_, rfl, World.ownsRow_nil _ _ _ _, Below.refl _ _⟩
  · have hb : (n == 0) = false := by simpa using h0
    have hs := wd_start h0
    have HS : Hid (wdFrom n (8 - 1) 1 = wd n) := hs
    clear hs
    go_enter Try.func25, Try.ntmps25
    go_wp2
    go_loop [3] (fun t => ∃ k : Nat, 1 ≤ k ∧ k ≤ 8 ∧ t = .int .i64 k ∧ Hid (wdFrom n (8 - k) k = wd n)) (fun t => 8 - (intOf t).toNat)
    case atStart => exact ⟨1, by omega, by omega, rfl, HS⟩
    case round =>
      obtain ⟨k, hk1, hk8, rfl, hw⟩ := hrel
      go_wp2
      rotate_left 1
      · go_round
        case rel => exact ⟨k + 1, by omega, by omega, by go_num, wd_next (by omega) hw.out (tells_no ‹_›)⟩
        case measure => simp [intOf]; omega
      all_goals
        have hkw : k = wd n := by first | exact wd_stop hw.out (tells_yes0 ‹_›) | exact wd_stop hw.out (tells_yes ‹_›) | exact wd_last hw.out (by omega)
        have HK : Hid (bts n k = bts n (wd n)) := by rw [hkw]; exact rfl
        clear hkw
        go_loopw [4, 5] (fun u i wr => ∃ (j : Nat) (ys : List Int), j ≤ 8 ∧ ys.length ≤ 8 - j ∧ i = .int .i64 ((j : Int) - 1) ∧ Own wr w.heap.size 5 u ys ∧ Hid (ys ++ bts n j = bts n (wd n)) ∧ Below w.heap.size w wr) (fun _ i _ => (intOf i + 1).toNat)
        case atStart => exact ⟨k, [], hk8, by simp, rfl, World.ownsRow_nil _ _ _ _, HK, Below.refl _ _⟩
        case round =>
          obtain ⟨j, ys, hj8, hyl, rfl, ho, hys, hbel⟩ := hrel
          cases j with
          | zero =>
            go_wp2
            go_ret
            have e : ys = bts n (wd n) := by have := hys.out; simpa [bts] using this
            rw [← e]
            exact ⟨_, rfl, ho, hbel⟩
          | succ j =>
            have hsz := hbel.size
            have hj0 : (0 : Int) ≤ (j : Int) := Int.natCast_nonneg _
            have hoa2 := ho.alloc (.cells #[.int .u8 (n / 2 ^ (8 * j) % 256)] 5)
            go_wp2_with (first
              | (at_builtin; refine wpList_append_both _ rfl (.tmp 36) (.tmp 43) 22 22 rfl w.heap.size 5 i0 (.int .u8 0) 1 1 Try.underlying22 hi hz0 hz1 hz2 rfl _ ys.length _ rfl hoa2 _ 1 [.int .u8 (n / 2 ^ (8 * j) % 256)] rfl (src_one Try.underlying22 _ _) 9 (.inr (by omega)) (by omega) (by unfold maxLen; omega) (by simp; omega) ?_))
            intro v2 w2 hown2 hgrow2 hroom2
            go_wp2
            go_roundw
            case rel =>
              refine ⟨j, ys ++ [byt n j], by omega, by simp; omega, by go_num, ?_, ?_, ?_⟩
              · simpa [Own, byt] using hown2
              · have := hys.out
                show (ys ++ [byt n j]) ++ bts n j = bts n (wd n)
                simpa [bts] using this
              · exact (hbel.alloc (by omega) _).grown hgrow2 (by simp; omega) (fun k hk => (ho.lt k hk).1)
            case measure => simp [intOf]

set_option maxHeartbeats 400000 in
theorem refNumber_any (n : Int) (w : World) :
    Calls Try.prog 10 #[.int .i64 n] w fun e w' => ∃ v', e = .returned v' ∧ Own w' w.heap.size 5 v' (nb n) ∧ Below w.heap.size w w' := by
  obtain ⟨i0, hi, hz0, hz1, hz2⟩ := info_parts Try.info5
  have hle := wd_le n
  have hbl := bts_length n (wd n)
  go_enter Try.func10, Try.ntmps10
  go_wp2_with (first
    | (go_at_call 25; refine (least_any _ _).mono ?_; rintro e w1 ⟨v1, rfl, ho1, hb1⟩; have hrd := ho1.rd; obtain ⟨a1, c1, hv1, hrest⟩ := ho1.rd; rw [hbl] at hv1; subst hv1; clear hrest; have hsz := hb1.size; have hrd2 := (hrd.below ((Below.refl _ _).alloc (Nat.le_refl _) (.cells #[.int .u8 (wd n)] 5)) (Nat.le_refl _)).src (P := Try.prog) Try.underlying22; rw [hbl] at hrd2)
    | (at_builtin; refine wpList_append_both _ rfl (.tmp 9) (.tmp 10) 22 22 rfl w.heap.size 5 i0 (.int .u8 0) 1 1 Try.underlying22 hi hz0 hz1 hz2 rfl _ 1 _ rfl (World.ownsRow_lit w1 #[.int .u8 (wd n)] 1 hsz (by unfold maxLen; omega) (by simp)) _ (wd n) _ rfl hrd2 9 (.inr (by omega)) (by omega) (by unfold maxLen; omega) (by simp; omega) ?_))
  intro v2 w2 hown2 hgrow2 hroom2
  go_wp2
  go_ret
  refine ⟨v2, rfl, ?_, (hb1.alloc hsz _).grown hgrow2 (by simp; omega) (fun k hk => by simp [Value.ownBlock] at hk; omega)⟩
  unfold Own
  rw [nb_length]
  simpa [nb, Nat.add_comm] using hown2

set_option maxHeartbeats 400000 in
theorem refText_any (s : ByteArray) (w : World) (hl : s.size + 9 ≤ 140737488355328) :
    Calls Try.prog 12 #[.string s] w fun e w' => ∃ v', e = .returned v' ∧ Own w' w.heap.size 5 v' (tb s) ∧ Below w.heap.size w w' := by
  obtain ⟨i0, hi, hz0, hz1, hz2⟩ := info_parts Try.info5
  have hnl := nb_le s.size
  have hm : s.size ≤ 9223372036854775807 := by omega
  go_enter Try.func12, Try.ntmps12
  go_wp2_with (first
    | (go_at_call 10; refine (refNumber_any _ _).mono ?_; rintro e w1 ⟨v1, rfl, ho1, hb1⟩)
    | (at_builtin; refine wpList_append_both _ rfl (.tmp 5) (.tmp 6) 22 9 rfl w.heap.size 5 i0 (.int .u8 0) 1 1 Try.underlying22 hi hz0 hz1 hz2 rfl v1 _ _ rfl ho1 _ s.size (byteCells s) rfl (Src.ofString _ Try.underlying9 s) s.size (.inr (by omega)) (Nat.le_refl _) (by unfold maxLen; omega) hb1.size ?_))
  intro v2 w2 hown2 hgrow2 hroom2
  go_wp2
  go_ret
  refine ⟨v2, rfl, ?_, hb1.grown hgrow2 hb1.size (fun k hk => (ho1.lt k hk).1)⟩
  unfold Own
  have e1 : (tb s).length = (nb s.size).length + s.size := by simp [tb, sb_length]
  have e3 : (tb s).map (Value.int .u8) = (nb s.size).map (Value.int .u8) ++ byteCells s := by rw [sb_cells]; simp [tb]
  rw [e1, e3]
  exact hown2

end Go.Proofs.Ytdbfblkdjijmmaa
