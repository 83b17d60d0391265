/- The walks of PackNumbers and PackTexts. -/
import Derived.Test.YtdbfblkdjijmmaaB
import Derived.Deep.RegionHeld
import Derived.Deep.DrawnRows
namespace Go.Proofs.Ytdbfblkdjijmmaa
open Go.RowKit
attribute [local go_sem ↓] Go.wp_at_zero Go.wp_at_succ

theorem str_cat (xs ys : List Int) : strOfNums xs ++ strOfNums ys = strOfNums (xs ++ ys) := by
  apply ByteArray.ext
  simp [strOfNums, ByteArray.data_append]

theorem rd_conv {w : World} {v : Value} {xs : List Int} (h : Rd w v xs) : (convert 22 9 v).run Try.prog w = .ok (.string (strOfNums xs)) w :=
  h.convert Try.underlying22 Try.underlying5 Try.underlying9

set_option maxHeartbeats 1000000 in
theorem packNumbers_walk {w : World} (bv : Value) (bs : List Int) (hb : Rd w bv bs) (_hy : ∀ x ∈ bs, 0 ≤ x ∧ x ≤ 255) (hl : bs.length ≤ 140737488351232) (n : Int) (_hw : (Lit.int .i64 n).wf = true) :
    Calls Try.prog 3 #[bv, .int .i64 n] w fun e w' => e = .returned (.bool true) ∧ Below w.heap.size w w' := by
  clear _hy _hw
  have hnl := nb_le n
  have s1 := strOfNums_size bs
  have s2 := strOfNums_size (nb n)
  have cat := str_cat bs (nb n)
  have cv := rd_conv hb
  go_enter Try.func3, Try.ntmps3
  go_wp2_with fail
  have hbd : Rd w.drew bv bs := hb
  go_region_held (fun w' => Rd w' bv bs ∧ Below w.heap.size w w' ∧ (convert 22 9 bv).run Try.prog w' = .ok (.string (strOfNums bs)) w')
    (first
      | exact ⟨hb, Below.refl _ _, cv⟩
      | exact ⟨hbd, (Below.refl _ _).drew, rd_conv hbd⟩
      | exact ⟨hr1, hb1, rd_conv hr1⟩
      | exact ⟨hr2, hb1.trans hb2, rd_conv hr2⟩)
    (first
      | (go_at_call 9; refine (number_any bv bs n _ hbd (by omega)).mono ?_; rintro e w1 ⟨v1, rfl, ho1, hb1'⟩; have hb1 : Below w.heap.size w w1 := (Below.refl _ _).drew.trans hb1'; have hr1 := hb.below hb1 (Nat.le_refl _); have c1 := rd_conv ho1.rd)
      | (go_at_call 10; refine (refNumber_any n _).mono ?_; rintro e w2 ⟨v2, rfl, ho2, hb2'⟩; have hb2 := hb2'.mono hb1.size; have hr2 := hr1.below hb2' (Nat.le_refl _); have c2 := rd_conv ho2.rd; have c3 := rd_conv (ho1.rd.below hb2' (Nat.le_refl _))))
  all_goals go_wp2
  all_goals
    go_ret
    exact ⟨by simp, hb1.trans hb2⟩
set_option maxHeartbeats 1000000 in
theorem packTexts_walk {w : World} (bv : Value) (bs : List Int) (hb : Rd w bv bs) (_hy : ∀ x ∈ bs, 0 ≤ x ∧ x ≤ 255) (hl : bs.length ≤ 140737488351232) (s : ByteArray) (hsl : s.size ≤ 140737488351232) :
    Calls Try.prog 4 #[bv, .string s] w fun e w' => e = .returned (.bool true) ∧ Below w.heap.size w w' := by
  clear _hy
  have hnl := nb_le s.size
  have hsb := sb_length s
  have htl : (tb s).length ≤ 9 + s.size := by unfold tb; rw [List.length_append]; omega
  have s1 := strOfNums_size bs
  have s2 := strOfNums_size (tb s)
  have cat := str_cat bs (tb s)
  have cv := rd_conv hb
  go_enter Try.func4, Try.ntmps4
  go_wp2_with fail
  have hbd : Rd w.drew bv bs := hb
  go_region_held (fun w' => Rd w' bv bs ∧ Below w.heap.size w w' ∧ (convert 22 9 bv).run Try.prog w' = .ok (.string (strOfNums bs)) w')
    (first
      | exact ⟨hb, Below.refl _ _, cv⟩
      | exact ⟨hbd, (Below.refl _ _).drew, rd_conv hbd⟩
      | exact ⟨hr1, hb1, rd_conv hr1⟩
      | exact ⟨hr2, hb1.trans hb2, rd_conv hr2⟩)
    (first
      | (go_at_call 11; refine (text_any bv bs s _ hbd (by omega)).mono ?_; rintro e w1 ⟨v1, rfl, ho1, hb1'⟩; have hb1 : Below w.heap.size w w1 := (Below.refl _ _).drew.trans hb1'; have hr1 := hb.below hb1 (Nat.le_refl _); have c1 := rd_conv ho1.rd)
      | (go_at_call 12; refine (refText_any s _ (by omega)).mono ?_; rintro e w2 ⟨v2, rfl, ho2, hb2'⟩; have hb2 := hb2'.mono hb1.size; have hr2 := hr1.below hb2' (Nat.le_refl _); have c2 := rd_conv ho2.rd; have c3 := rd_conv (ho1.rd.below hb2' (Nat.le_refl _))))
  all_goals go_wp2
  all_goals
    go_ret
    exact ⟨by simp, hb1.trans hb2⟩

end Go.Proofs.Ytdbfblkdjijmmaa
