/- What addText and pack.Text do. -/
import Derived.Test.YtdbfblkdjijmmaaNumC
namespace Go.Proofs.Ytdbfblkdjijmmaa
open Go.RowKit
set_option linter.unusedSimpArgs false
set_option linter.unusedVariables false

/-- A string's bytes, as numbers. -/
def sb (s : ByteArray) : List Int := s.data.toList.map fun b => (b.toNat : Int)

/-- A text's bytes. -/
def tb (s : ByteArray) : List Int := nb s.size ++ sb s

theorem sb_length (s : ByteArray) : (sb s).length = s.size := by simp [sb]

theorem sb_cells (s : ByteArray) : byteCells s = (sb s).map (Value.int .u8) := by simp [sb, byteCells, Function.comp_def]

set_option maxHeartbeats 400000 in
theorem addText_any (base : Nat) (v : Value) (xs : List Int) (s : ByteArray) (r : Nat) (w : World) (hown : Own w base 5 v xs) (hroom : Room 1 v xs.length r) (hr : 9 + s.size ≤ r) (h63 : xs.length + r ≤ maxLen) (hbase : base ≤ w.heap.size) :
    Calls Try.prog 26 #[v, .string s] w fun e w' => ∃ v', e = .returned v' ∧ Own w' base 5 v' (xs ++ tb s) ∧ Room 1 v' (xs ++ tb s).length (r - (tb s).length) ∧ Below base w w' := by
  obtain ⟨i0, hi, hz0, hz1, hz2⟩ := info_parts Try.info5
  have hnl := nb_le s.size
  have hm : s.size ≤ 9223372036854775807 := by unfold maxLen at h63; omega
  have h63' : (xs ++ nb s.size).length + (r - (nb s.size).length) ≤ maxLen := by rw [List.length_append]; omega
  have hsl : s.size ≤ r - (nb s.size).length := by omega
  go_enter Try.func26, Try.ntmps26
  go_wp2_with (first
    | (go_at_call 23; refine (addNumber_any base v xs s.size r w hown hroom (by omega) h63 hbase).mono ?_; rintro e w1 ⟨v1, rfl, ho1, hr1, hb1⟩)
    | (at_builtin; refine wpList_append_both _ rfl (.tmp 8) (.tmp 9) 22 9 rfl base 5 i0 (.int .u8 0) 1 1 Try.underlying22 hi hz0 hz1 hz2 rfl v1 _ _ rfl ho1 _ s.size (byteCells s) rfl (Src.ofString _ Try.underlying9 s) (r - (nb s.size).length) hr1 hsl h63' (Nat.le_trans hbase hb1.size) ?_))
  intro v2 w2 hown2 hgrow2 hroom2
  go_wp2
  go_ret
  have e1 : (xs ++ tb s).length = (xs ++ nb s.size).length + s.size := by simp [tb, sb_length]; omega
  have e2 : r - (tb s).length = r - (nb s.size).length - s.size := by simp [tb, sb_length]; omega
  refine ⟨v2, rfl, ?_, ?_, hb1.grown hgrow2 (Nat.le_trans hbase hb1.size) (fun k hk => (ho1.lt k hk).1)⟩
  · unfold Own
    rw [e1]
    have e3 : (xs ++ tb s).map (Value.int .u8) = (xs ++ nb s.size).map (Value.int .u8) ++ byteCells s := by rw [sb_cells]; simp [tb]
    rw [e3]
    simpa using hown2
  · rw [e1, e2]
    simpa using hroom2

set_option maxHeartbeats 400000 in
theorem text_any (bv : Value) (bs : List Int) (s : ByteArray) (w : World) (hb : Rd w bv bs) (hl : bs.length + (9 + s.size) ≤ 281474976710656) :
    Calls Try.prog 11 #[bv, .string s] w fun e w' => ∃ v', e = .returned v' ∧ Own w' w.heap.size 5 v' (bs ++ tb s) ∧ Below w.heap.size w w' := by
  go_enter Try.func11, Try.ntmps11
  go_wp2_with (first
    | (go_at_call 24; refine (copied_any _ bs (9 + s.size) _ hb hl).mono ?_; rintro e w1 ⟨v1, rfl, ho1, hr1, hb1⟩)
    | (go_at_call 26; refine (addText_any w.heap.size v1 bs s (9 + s.size) w1 ho1 hr1 (by omega) (by unfold maxLen; omega) hb1.size).mono ?_; rintro e w2 ⟨v2, rfl, ho2, hr2, hb2⟩))
  go_ret
  exact ⟨_, rfl, ho2, hb1.trans hb2⟩

end Go.Proofs.Ytdbfblkdjijmmaa
