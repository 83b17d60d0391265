/- What the bound on an input's bulk gives: the length of a slice, of a text. -/
import Derived.Test.YtdbfblkdjijmmaaRows
import Derived.Test.YtdbfblkdjijmmaaOpen
namespace Go.Proofs.Ytdbfblkdjijmmaa.bulks

theorem pos {H : Type} (d : DataW H) : 1 ≤ Rows.uptoBulk d := by
  cases d with
  | lit l => cases l <;> simp [Rows.uptoBulk]
  | _ => simp [Rows.uptoBulk]

theorem len_le {H : Type} : ∀ l : List (DataW H), l.length ≤ Rows.uptoBulkAll l
  | [] => by simp
  | d :: r => by
    have h1 := pos d
    have h2 := len_le r
    simp only [Rows.uptoBulkAll, List.length_cons]
    omega

theorem all_append {H : Type} (l r : List (DataW H)) : Rows.uptoBulkAll (l ++ r) = Rows.uptoBulkAll l + Rows.uptoBulkAll r := by
  induction l with
  | nil => simp [Rows.uptoBulkAll]
  | cons x l ih =>
    rw [List.cons_append]
    simp only [Rows.uptoBulkAll]
    rw [ih]
    omega

theorem slice_len {H : Type} {d : DataW H} {len : Nat} (h : IsSlice d len) : len ≤ Rows.uptoBulk d := by
  rcases h with ⟨_, rfl⟩ | ⟨elems, spare, rfl, rfl⟩
  · omega
  · have := len_le elems
    simp only [Rows.uptoBulk]
    omega

theorem text_len {H : Type} (s : ByteArray) : s.size ≤ Rows.uptoBulk (DataW.lit (H := H) (.string s.data.toList)) := by
  have e : Rows.uptoBulk (DataW.lit (H := H) (.string s.data.toList)) = s.data.toList.length + 1 := by simp only [Rows.uptoBulk]
  rw [e]
  exact Nat.le_succ _

end Go.Proofs.Ytdbfblkdjijmmaa.bulks
