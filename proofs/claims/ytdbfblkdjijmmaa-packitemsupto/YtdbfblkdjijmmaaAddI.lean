/- What addItem does. -/
import Derived.Test.YtdbfblkdjijmmaaItemsM
import Derived.Test.YtdbfblkdjijmmaaStep
import Derived.Deep.RegionLaw
namespace Go.Proofs.Ytdbfblkdjijmmaa
open Go.RowKit
set_option linter.unusedSimpArgs false
set_option linter.unusedVariables false
attribute [local go_sem ↓] Go.wp_at_zero Go.wp_at_succ

theorem src_one_drew {P : Program} {t e : TypeId} (ht : P.underlying t = some (.slice e)) (w : World) (x : Int) {H : Nat} (hH : w.heap.size = H) :
    Src P 1 t (.slice (some ⟨H, 0, none⟩) 1 1) 1 [Value.int .u8 x] (w.alloc (.cells #[.int .u8 x] e)).drew := by
  subst hH
  exact Src.ofSlice _ ht _ 1 1 _ (by simp) (by simpa using cell_one_new _ _ _) (by simp [Value.oneCell'])

/-- Three cells of a block that was laid stay behind a new block, a draw and an append to another one. -/
theorem far3b {w2 w3 : World} {o : Obj} {row : Option Nat} {X : Nat} {c : Value} {i : Nat} (hg : (w2.alloc o).drew.grownBy w3 row) (hne : some X ≠ row) (h0 : w2.cell? ⟨X, i, none⟩ = some c) : w3.cell? ⟨X, i, none⟩ = some c := by
  have hX := World.block_lt_of_cell? w2 _ h0
  refine hg.cell ?_ hne
  have := (((Below.refl w2.heap.size w2).alloc (Nat.le_refl _) o).drew).cell (p := ⟨X, i, none⟩) hX
  rw [this]; exact h0

set_option maxHeartbeats 1000000 in
theorem addItem_any (base : Nat) (v : Value) (xs : List Int) (x : It) (r : Nat) (w : World) (hown : Own w base 5 v xs) (hroom : Room 1 v xs.length r) (hr : 10 + x.2.2.size ≤ r) (h63 : xs.length + r ≤ maxLen) (hbase : base ≤ w.heap.size) :
    Calls Try.prog 29 #[v, agg x] w fun e w' => ∃ v', e = .returned v' ∧ Own w' base 5 v' (xs ++ ib x) ∧ Room 1 v' (xs ++ ib x).length (r - (ib x).length) ∧ Below base w w' := by
  obtain ⟨i0, hi, hz0, hz1, hz2⟩ := info_parts Try.info5
  obtain ⟨t, n, s⟩ := x
  dsimp only at hr
  have hfar : some w.heap.size ≠ v.ownBlock := fun h => Nat.lt_irrefl _ (hown.lt _ h.symm).2
  have HL : Hid (∀ q, v.ownBlock = some q → base ≤ q) := fun q hq => (hown.lt q hq).1
  have hroom1 : Room 1 v xs.length r := hroom
  cases t with
  | true =>
    obtain ⟨w1, hw1⟩ : ∃ w1, w1 = w.alloc (.cells #[.bool true, .int .i64 n, .string s] 53) := ⟨_, rfl⟩
    have cx : w1.cell? ⟨w.heap.size, 2, none⟩ = some (.string s) := by rw [hw1]; simp
    have ho1 : w1.ownsRow base 5 1 v xs.length (xs.map (Value.int .u8)) := by rw [hw1]; exact hown.alloc _
    have bel1 : Below base w w1 := by rw [hw1]; exact (Below.refl _ _).alloc hbase _
    have hs1 : w1.heap.size = w.heap.size + 1 := by rw [hw1]; simp
    have ex : (xs ++ [2]) ++ tb s = xs ++ ib (true, n, s) := by simp [ib]
    have el : (xs ++ ib (true, n, s)).length = ((xs ++ [2]) ++ tb s).length := by rw [ex]
    have er : r - (ib (true, n, s)).length = r - 1 - (tb s).length := by simp [ib]; omega
    rw [el, er, ← ex]
    clear hown el er ex
    go_enter Try.func29, Try.ntmps29
    go_wp2
    rw [← hw1]
    clear hw1
    have hX : w.heap.size < w1.heap.size := by omega
    go_region_law (first
        | ((refine step_append_both _ (by rfl) (.tmp 7) (.tmp 8) 22 22 (by rfl) base 5 i0 (.int .u8 0) 1 1 Try.underlying22 hi hz0 hz1 hz2 rfl v xs.length _ (by rfl) ((World.ownsRow.alloc ho1 _).drew) _ 1 [.int .u8 2] (by rfl) (src_one_drew Try.underlying22 w1 2 hs1) r hroom1 (by omega) h63 (by simp; omega) ?_; intro v3 w3 ho3 hg3 hr3; have cx3 := far3b hg3 hfar cx; have o3 : Own w3 base 5 v3 (xs ++ [2]) := (by simpa [Own] using ho3); have r3 : Room 1 v3 (xs ++ [2]).length (r - 1) := (by simpa using hr3); have bel3 : Below base w w3 := ((bel1.alloc (by omega) _).drew).grown hg3 (by simp; omega) HL.out; clear ho3 hr3 hg3))
        | ((go_simp; go_at_call 26; refine (addText_any base v3 (xs ++ [2]) s (r - 1) w3 o3 r3 (by omega) (by rw [List.length_append]; simp; omega) (Nat.le_trans hbase bel3.size)).mono ?_; rintro e w4 ⟨v4, rfl, ho4, hr4, hb4⟩)))
    all_goals
      go_wp2
      go_ret
      exact ⟨v4, rfl, ho4, hr4, bel3.trans hb4⟩
  | false =>
    obtain ⟨w1, hw1⟩ : ∃ w1, w1 = w.alloc (.cells #[.bool false, .int .i64 n, .string s] 53) := ⟨_, rfl⟩
    have cx : w1.cell? ⟨w.heap.size, 1, none⟩ = some (.int .i64 n) := by rw [hw1]; simp
    have ho1 : w1.ownsRow base 5 1 v xs.length (xs.map (Value.int .u8)) := by rw [hw1]; exact hown.alloc _
    have bel1 : Below base w w1 := by rw [hw1]; exact (Below.refl _ _).alloc hbase _
    have hs1 : w1.heap.size = w.heap.size + 1 := by rw [hw1]; simp
    have ex : (xs ++ [1]) ++ nb n = xs ++ ib (false, n, s) := by simp [ib]
    have el : (xs ++ ib (false, n, s)).length = ((xs ++ [1]) ++ nb n).length := by rw [ex]
    have er : r - (ib (false, n, s)).length = r - 1 - (nb n).length := by simp [ib]; omega
    rw [el, er, ← ex]
    clear hown el er ex
    go_enter Try.func29, Try.ntmps29
    go_wp2
    rw [← hw1]
    clear hw1
    have hX : w.heap.size < w1.heap.size := by omega
    go_region_law (first
        | ((refine step_append_both _ (by rfl) (.tmp 13) (.tmp 14) 22 22 (by rfl) base 5 i0 (.int .u8 0) 1 1 Try.underlying22 hi hz0 hz1 hz2 rfl v xs.length _ (by rfl) ((World.ownsRow.alloc ho1 _).drew) _ 1 [.int .u8 1] (by rfl) (src_one_drew Try.underlying22 w1 1 hs1) r hroom1 (by omega) h63 (by simp; omega) ?_; intro v3 w3 ho3 hg3 hr3; have cx3 := far3b hg3 hfar cx; have o3 : Own w3 base 5 v3 (xs ++ [1]) := (by simpa [Own] using ho3); have r3 : Room 1 v3 (xs ++ [1]).length (r - 1) := (by simpa using hr3); have bel3 : Below base w w3 := ((bel1.alloc (by omega) _).drew).grown hg3 (by simp; omega) HL.out; clear ho3 hr3 hg3))
        | ((go_simp; go_at_call 23; refine (addNumber_any base v3 (xs ++ [1]) n (r - 1) w3 o3 r3 (by omega) (by rw [List.length_append]; simp; omega) (Nat.le_trans hbase bel3.size)).mono ?_; rintro e w4 ⟨v4, rfl, ho4, hr4, hb4⟩)))
    all_goals
      go_wp2
      go_ret
      exact ⟨v4, rfl, ho4, hr4, bel3.trans hb4⟩
end Go.Proofs.Ytdbfblkdjijmmaa
