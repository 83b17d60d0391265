/- What width and addNumber do. -/
import Derived.Test.YtdbfblkdjijmmaaProg
import Derived.Test.YtdbfblkdjijmmaaBytes
import Derived.Test.YtdbfblkdjijmmaaMath
namespace Go.Proofs.Ytdbfblkdjijmmaa
open Go.RowKit
set_option linter.unusedSimpArgs false
set_option linter.unusedVariables false

theorem Try.info5 : (Try.prog.info? 5).map (fun i => (i.zero, i.size, i.bytes)) = some (some (.int .u8 0), 1, 1) := by kernel_rfl

theorem ret_nat {k : IntKind} {a b : Nat} (h : a = b) : Ending.returned (.int k (a : Int)) = .returned (.int k (b : Int)) := by rw [h]

theorem tells_yes0 {n : Int} {k : Nat} (h : n / 2 ^ (8 * k - 1) = 0) : tells n k = true := by simp [tells, h]

theorem tells_no {n : Int} {k : Nat} (h : (n / 2 ^ (8 * k - 1) != 0) = true ∧ (n / 2 ^ (8 * k - 1) != -1) = true) : tells n k = false := by
  simp only [bne, Bool.not_eq_true'] at h
  simp [tells, h.1, h.2]

theorem tells_yes {n : Int} {k : Nat} (h : (n / 2 ^ (8 * k - 1) != 0) = false ∨ (n / 2 ^ (8 * k - 1) != -1) = false) : tells n k = true := by
  simp only [bne, Bool.not_eq_false'] at h
  rcases h with h | h <;> simp [tells, h]

theorem width_any (n : Int) (w : World) :
    Calls Try.prog 28 #[.int .i64 n] w fun e w' => e = .returned (.int .i64 (wd n)) ∧ w = w' := by
  by_cases h0 : n = 0
  · subst h0
    go_enter Try.func28, Try.ntmps28
    go_wp2
    go_ret
    exact ⟨rfl, rfl⟩
  · have hb : (n == 0) = false := by simpa using h0
    have hs := wd_start h0
    have HS : Hid (wdFrom n (8 - 1) 1 = wd n) := hs
    clear hs
    go_enter Try.func28, Try.ntmps28
    go_wp2
    go_loop [3] (fun t => ∃ k : Nat, 1 ≤ k ∧ k ≤ 8 ∧ t = .int .i64 k ∧ Hid (wdFrom n (8 - k) k = wd n)) (fun t => 8 - (intOf t).toNat)
    case atStart => exact ⟨1, by omega, by omega, rfl, HS⟩
    case round =>
      obtain ⟨k, hk1, hk8, rfl, hw⟩ := hrel
      go_wp2
      · go_ret
        exact ⟨ret_nat (wd_stop hw.out (tells_yes0 ‹_›)), rfl⟩
      · go_round
        case rel => exact ⟨k + 1, by omega, by omega, by go_num, wd_next (by omega) hw.out (tells_no ‹_›)⟩
        case measure => simp [intOf]; omega
      · go_ret
        exact ⟨ret_nat (wd_stop hw.out (tells_yes ‹_›)), rfl⟩
      · go_ret
        exact ⟨ret_nat (wd_last hw.out (by omega)), rfl⟩

theorem src_one {P : Program} {t e : TypeId} (ht : P.underlying t = some (.slice e)) (w : World) (x : Int) :
    Src P 1 t (.slice (some ⟨w.heap.size, 0, none⟩) 1 1) 1 [Value.int .u8 x] (w.alloc (.cells #[.int .u8 x] e)) :=
  Src.ofSlice _ ht _ 1 1 _ (by simp) (cell_one_new _ _ _) (by simp [Value.oneCell'])

set_option maxHeartbeats 400000 in
theorem addNumber_any (base : Nat) (v : Value) (xs : List Int) (n : Int) (r : Nat) (w : World) (hown : Own w base 5 v xs) (hroom : Room 1 v xs.length r) (hr : 9 ≤ r) (h63 : xs.length + r ≤ maxLen) (hbase : base ≤ w.heap.size) :
    Calls Try.prog 23 #[v, .int .i64 n] w fun e w' => ∃ v', e = .returned v' ∧ Own w' base 5 v' (xs ++ nb n) ∧ Room 1 v' (xs ++ nb n).length (r - (nb n).length) ∧ Below base w w' := by
  obtain ⟨i0, hi, hz0, hz1, hz2⟩ := info_parts Try.info5
  have hle := wd_le n
  have hoa := hown.alloc (.cells #[.int .u8 (wd n)] 5)
  go_enter Try.func23, Try.ntmps23
  go_wp2_with (first
    | (go_at_call 28; refine (width_any _ _).mono ?_; rintro e w' ⟨rfl, rfl⟩)
    | (at_builtin; refine wpList_append_both _ rfl (.tmp 9) (.tmp 12) 22 22 rfl base 5 i0 (.int .u8 0) 1 1 Try.underlying22 hi hz0 hz1 hz2 rfl v xs.length _ rfl hoa _ 1 [.int .u8 (wd n)] rfl (src_one Try.underlying22 _ _) r hroom ?c1 h63 ?c2 ?_))
  case c1 => omega
  case c2 => simp; omega
  intro v1 w1 hown1 hgrow1 hroom1
  go_wp2
  go_loopw [0, 6] (fun u i wr => ∃ (k : Nat) (ys : List Int) (q : Nat), k ≤ 8 ∧ i = .int .i64 ((k : Int) - 1) ∧ Own wr base 5 u ys ∧ Room 1 u ys.length q ∧ k ≤ q ∧ Hid (ys.length + q = xs.length + r) ∧ Hid (ys ++ bts n k = xs ++ nb n) ∧ Below base w wr) (fun _ i _ => (intOf i + 1).toNat)
  case atStart =>
    refine ⟨wd n, xs ++ [(wd n : Int)], r - 1, hle, rfl, ?_, ?_, by omega, ?_, ?_, ?_⟩
    · simpa [Own] using hown1
    · simpa using hroom1
    · show (xs ++ [(wd n : Int)]).length + (r - 1) = xs.length + r
      simp; omega
    · show (xs ++ [(wd n : Int)]) ++ bts n (wd n) = xs ++ nb n
      simp [nb]
    · exact ((Below.refl base w).alloc hbase _).grown hgrow1 (by simp; omega) (fun k hk => (hown.lt k hk).1)
  case round =>
    obtain ⟨k, ys, q, hk8, rfl, ho, hrm, hkq, hq, hys, hbel⟩ := hrel
    cases k with
    | zero =>
      go_wp2
      go_ret
      refine ⟨_, rfl, ?_⟩
      have e : ys = xs ++ nb n := by have := hys.out; simpa [bts] using this
      have e2 := hq.out
      subst e
      have e3 : q = r - (nb n).length := by rw [List.length_append] at e2; omega
      subst e3
      exact ⟨ho, hrm, hbel⟩
    | succ j =>
      have hsz := hbel.size
      have hj0 : (0 : Int) ≤ (j : Int) := Int.natCast_nonneg _
      have hoa2 := ho.alloc (.cells #[.int .u8 (n / 2 ^ (8 * j) % 256)] 5)
      have hqm : ys.length + q ≤ maxLen := by have := hq.out; omega
      go_wp2_with (first
        | (at_builtin; refine wpList_append_both _ rfl (.tmp 20) (.tmp 26) 22 22 rfl base 5 i0 (.int .u8 0) 1 1 Try.underlying22 hi hz0 hz1 hz2 rfl u0 ys.length _ rfl hoa2 _ 1 [.int .u8 (n / 2 ^ (8 * j) % 256)] rfl (src_one Try.underlying22 _ _) q hrm ?d1 hqm ?d2 ?_))
      case d1 => omega
      case d2 => simp; omega
      intro v2 w2 hown2 hgrow2 hroom2
      go_wp2
      go_roundw
      case rel =>
        refine ⟨j, ys ++ [byt n j], q - 1, by omega, by go_num, ?_, ?_, by omega, ?_, ?_, ?_⟩
        · simpa [Own, byt] using hown2
        · simpa using hroom2
        · have := hq.out
          show (ys ++ [byt n j]).length + (q - 1) = xs.length + r
          simp; omega
        · have := hys.out
          show (ys ++ [byt n j]) ++ bts n j = xs ++ nb n
          simpa [bts] using this
        · exact (hbel.alloc (by omega) _).grown hgrow2 (by simp; omega) (fun k hk => (ho.lt k hk).1)
      case measure => simp [intOf]

end Go.Proofs.Ytdbfblkdjijmmaa
