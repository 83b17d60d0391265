/- What copied and pack.Number do. -/
import Derived.Test.YtdbfblkdjijmmaaNumW
namespace Go.Proofs.Ytdbfblkdjijmmaa
open Go.RowKit
set_option linter.unusedSimpArgs false
set_option linter.unusedVariables false

theorem Own.below {w w' : World} {base : Nat} {e : TypeId} {v : Value} {xs : List Int} {B : Nat} (h : Own w base e v xs) (hb : Below B w w') (hB : w.heap.size ≤ B) : Own w' base e v xs := by
  refine ⟨h.1, ?_⟩
  rcases h.2 with hn | ⟨g, cap, cur, rfl, hbg, hg, rest⟩
  · exact .inl hn
  · refine .inr ⟨g, cap, cur, rfl, hbg, ?_, rest⟩
    rw [hb.block g (by have := (Array.getElem?_eq_some_iff.1 hg).1; omega)]
    exact hg

set_option maxHeartbeats 400000 in
theorem copied_any (bv : Value) (bs : List Int) (room : Nat) (w : World) (hb : Rd w bv bs) (hl : bs.length + room ≤ 281474976710656) :
    Calls Try.prog 24 #[bv, .int .i64 room] w fun e w' => ∃ v', e = .returned v' ∧ Own w' w.heap.size 5 v' bs ∧ Room 1 v' bs.length room ∧ Below w.heap.size w w' := by
  obtain ⟨i0, hi, hz0, hz1, hz2⟩ := info_parts Try.info5
  have hb0 := hb
  obtain ⟨a, cap, rfl, hc, hm, hn, hcell⟩ := hb
  clear hcell hn
  unfold maxLen at hm
  go_enter Try.func24, Try.ntmps24
  go_wp2_with (first
    | (at_make; refine wpList_make_own _ rfl (.const (.int .i64 0)) (.tmp 8) 22 rfl w.heap.size 5 i0 (.int .u8 0) 1 Try.underlying22 hi hz0 hz1 .i64 .i64 _ (bs.length + room) rfl rfl ?c1 ?c2 ?c3 ?c4 ?_))
  case c1 => omega
  case c2 => rw [hz2]; omega
  case c3 => unfold maxLen; omega
  case c4 => omega
  intro w1 hown1 hgrow1
  have hbel : Below w.heap.size w w1 := (Below.refl _ _).grown hgrow1 (Nat.le_refl _) (fun k hk => by cases hk)
  have hb1 := hb0.below hbel (Nat.le_refl _)
  have hsz := hbel.size
  go_wp2_with (first
    | (at_builtin; refine wpList_append_both _ rfl (.tmp 9) (.tmp 10) 22 22 rfl w.heap.size 5 i0 (.int .u8 0) 1 1 Try.underlying22 hi hz0 hz1 hz2 rfl _ 0 [] rfl hown1 _ bs.length _ rfl (hb1.src Try.underlying22) (bs.length + room) (.inl ⟨_, _, rfl, by omega⟩) (by omega) (by unfold maxLen; omega) hsz ?_))
  intro v2 w2 hown2 hgrow2 hroom2
  go_wp2
  go_ret
  exact ⟨v2, rfl, hown2, hroom2, hbel.grown hgrow2 hsz (fun k hk => by simp [Value.ownBlock] at hk; omega)⟩

set_option maxHeartbeats 400000 in
theorem number_any (bv : Value) (bs : List Int) (n : Int) (w : World) (hb : Rd w bv bs) (hl : bs.length + 9 ≤ 281474976710656) :
    Calls Try.prog 9 #[bv, .int .i64 n] w fun e w' => ∃ v', e = .returned v' ∧ Own w' w.heap.size 5 v' (bs ++ nb n) ∧ Below w.heap.size w w' := by
  go_enter Try.func9, Try.ntmps9
  go_wp2_with (first
    | (go_at_call 24; refine (copied_any _ bs 9 _ hb hl).mono ?_; rintro e w1 ⟨v1, rfl, ho1, hr1, hb1⟩)
    | (go_at_call 23; refine (addNumber_any w.heap.size v1 bs n 9 w1 ho1 hr1 (by omega) (by unfold maxLen; omega) hb1.size).mono ?_; rintro e w2 ⟨v2, rfl, ho2, hr2, hb2⟩))
  go_ret
  exact ⟨_, rfl, ho2, hb1.trans hb2⟩

end Go.Proofs.Ytdbfblkdjijmmaa
