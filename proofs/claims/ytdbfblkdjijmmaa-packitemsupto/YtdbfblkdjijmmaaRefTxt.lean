/- What the document's Text does. -/
import Derived.Test.YtdbfblkdjijmmaaRefNum
import Derived.Test.YtdbfblkdjijmmaaTxtW
namespace Go.Proofs.Ytdbfblkdjijmmaa
open Go.RowKit
set_option linter.unusedSimpArgs false
set_option linter.unusedVariables false

set_option maxHeartbeats 400000 in
theorem refText_any (s : ByteArray) (w : World) (hl : s.size + 9 ≤ 140737488355328) :
    Calls Try.prog 12 #[.string s] w fun e w' => ∃ v', e = .returned v' ∧ Own w' w.heap.size 5 v' (tb s) ∧ Below w.heap.size w w' := by
  obtain ⟨i0, hi, hz0, hz1, hz2⟩ := info_parts Try.info5
  have hnl := nb_le s.size
  have hm : s.size ≤ 9223372036854775807 := by omega
  go_enter Try.func12, Try.ntmps12
  go_wp2_with (first
    | (go_at_call 10; refine (refNumber_any _ _).mono ?_; rintro e w1 ⟨v1, rfl, ho1, hb1⟩)
    | (at_builtin; refine wpList_append_both _ rfl (.tmp 5) (.tmp 6) 22 9 rfl w.heap.size 5 i0 (.int .u8 0) 1 1 Try.underlying22 hi hz0 hz1 hz2 rfl v1 _ _ rfl ho1 _ s.size (byteCells s) rfl (Src.ofString _ Try.underlying9 s) s.size (.inr (by omega)) (Nat.le_refl _) (by unfold maxLen; omega) hb1.size ?_))
  intro v2 w2 hown2 hgrow2 hroom2
  go_wp2
  go_ret
  refine ⟨v2, rfl, ?_, hb1.grown hgrow2 hb1.size (fun k hk => (ho1.lt k hk).1)⟩
  unfold Own
  have e1 : (tb s).length = (nb s.size).length + s.size := by simp [tb, sb_length]
  have e3 : (tb s).map (Value.int .u8) = (nb s.size).map (Value.int .u8) ++ byteCells s := by rw [sb_cells]; simp [tb]
  rw [e1, e3]
  exact hown2

end Go.Proofs.Ytdbfblkdjijmmaa
