/- What the program's valueOf and Eval do. -/
import Derived.Test.YtjbfhpgiobddoaaPxF
namespace Go.Proofs.Ytjbfhpgiobddoaa
open Go.RowKit Go.Lib
set_option linter.unusedSimpArgs false
set_option linter.unusedVariables false
attribute [local go_sem ↓] Go.wp_at_zero Go.wp_at_succ

theorem pTruth_any (b : Bool) (w : World) : Calls Try.prog 28 #[.bool b] w fun e w' => e = .returned (.int .i64 (tru b)) ∧ w = w' := by
  cases b
  · go_enter Try.func28, Try.ntmps28
    go_wp2
    go_ret
    exact ⟨rfl, rfl⟩
  · go_enter Try.func28, Try.ntmps28
    go_wp2
    go_ret
    exact ⟨rfl, rfl⟩
theorem pRange_any (n : Int) (w : World) : Calls Try.prog 32 #[.int .i64 n] w fun e w' => e = .returned (.tuple #[.int .i64 (wth n).1, .int .i64 (wth n).2]) ∧ w = w' := by
  unfold wth
  by_cases h1 : n < -1000000000
  · rw [if_pos (.inl h1)]
    go_enter Try.func32, Try.ntmps32
    go_wp2
    go_ret2
    exact ⟨rfl, rfl⟩
  by_cases h2 : 1000000000 < n
  · rw [if_pos (.inr h2)]
    have h3 : n > 1000000000 := h2
    go_enter Try.func32, Try.ntmps32
    go_wp2
    go_ret2
    exact ⟨rfl, rfl⟩
  rw [if_neg (by omega)]
  have h3 : ¬ n > 1000000000 := h2
  go_enter Try.func32, Try.ntmps32
  go_wp2
  go_ret2
  exact ⟨rfl, rfl⟩

/-- What an operator makes of two values. -/
def wk (s : List UInt8) (x y : Int) : Int :=
  if s = [43] then x + y else if s = [45] then x - y else if s = [42] then x * y else if s = [60] then tru (decide (x < y)) else if s = [60, 61] then tru (decide (x ≤ y))
  else if s = [61, 61] then tru (x == y) else if s = [33, 61] then tru (x != y) else tru (y != 0)
theorem wth_tru (b : Bool) : wth (tru b) = (tru b, 0) := by cases b <;> rfl
theorem wth_wk (s : List UInt8) (x y : Int) : wth (wk s x y) = bin s x y := by
  unfold wk bin
  repeat' split
  all_goals first | rfl | exact wth_tru _
theorem mul_bd2 {x y : Int} (h1 : -1000000000 ≤ x) (h2 : x ≤ 1000000000) (h3 : -1000000000 ≤ y) (h4 : y ≤ 1000000000) : -1000000000000000000 ≤ x * y ∧ x * y ≤ 1000000000000000000 := by
  have a1 : (x * y).natAbs = x.natAbs * y.natAbs := Int.natAbs_mul x y
  have a2 : x.natAbs * y.natAbs ≤ 1000000000 * 1000000000 := Nat.mul_le_mul (by omega) (by omega)
  omega
set_option maxHeartbeats 4000000 in
theorem pWorked_any (s : ByteArray) (x y : Int) (h1 : -1000000000 ≤ x) (h2 : x ≤ 1000000000) (h3 : -1000000000 ≤ y) (h4 : y ≤ 1000000000) (w : World) :
    Calls Try.prog 33 #[.string s, .int .i64 x, .int .i64 y] w fun e w' => e = .returned (.int .i64 (wk (bl s) x y)) ∧ w = w' := by
  obtain ⟨m1, m2⟩ := mul_bd2 h1 h2 h3 h4
  have ht := fun b w1 => pTruth_any b w1
  have hS := str_is2 s
  obtain ⟨l, hl⟩ : ∃ l, bl s = l := ⟨_, rfl⟩
  rw [hl]
  simp only [hl] at hS
  clear hl
  have q0 : (s.toList == [43]) = (l == [43]) := hS _
  have q1 : (s.toList == [45]) = (l == [45]) := hS _
  have q2 : (s.toList == [42]) = (l == [42]) := hS _
  have q3 : (s.toList == [60]) = (l == [60]) := hS _
  have q4 : (s.toList == [60, 61]) = (l == [60, 61]) := hS _
  have q5 : (s.toList == [61, 61]) = (l == [61, 61]) := hS _
  have q6 : (s.toList == [33, 61]) = (l == [33, 61]) := hS _
  clear hS
  unfold wk
  by_cases r0 : l = [43]
  · rw [if_pos r0]
    have t0 : (l == [43]) = true := by rw [r0]; rfl
    rw [t0] at q0
    clear t0 r0 q1 q2 q3 q4 q5 q6 m1 m2 ht
    go_enter Try.func33, Try.ntmps33
    go_wp2_with (first
      | (go_at_call 28; refine (ht _ _).mono ?_; rintro e w1 ⟨rfl, rfl⟩))
    go_ret
    exact ⟨rfl, rfl⟩
  rw [if_neg r0]
  have t0 : (l == [43]) = false := beq_eq_false_iff_ne.2 r0
  rw [t0] at q0
  clear t0 r0
  by_cases r1 : l = [45]
  · rw [if_pos r1]
    have t1 : (l == [45]) = true := by rw [r1]; rfl
    rw [t1] at q1
    clear t1 r1 q2 q3 q4 q5 q6 m1 m2 ht
    go_enter Try.func33, Try.ntmps33
    go_wp2_with (first
      | (go_at_call 28; refine (ht _ _).mono ?_; rintro e w1 ⟨rfl, rfl⟩))
    go_ret
    exact ⟨rfl, rfl⟩
  rw [if_neg r1]
  have t1 : (l == [45]) = false := beq_eq_false_iff_ne.2 r1
  rw [t1] at q1
  clear t1 r1
  by_cases r2 : l = [42]
  · rw [if_pos r2]
    have t2 : (l == [42]) = true := by rw [r2]; rfl
    rw [t2] at q2
    clear t2 r2 q3 q4 q5 q6 ht
    go_enter Try.func33, Try.ntmps33
    go_wp2_with (first
      | (go_at_call 28; refine (ht _ _).mono ?_; rintro e w1 ⟨rfl, rfl⟩))
    go_ret
    exact ⟨rfl, rfl⟩
  rw [if_neg r2]
  have t2 : (l == [42]) = false := beq_eq_false_iff_ne.2 r2
  rw [t2] at q2
  clear t2 r2
  by_cases r3 : l = [60]
  · rw [if_pos r3]
    have t3 : (l == [60]) = true := by rw [r3]; rfl
    rw [t3] at q3
    clear t3 r3 q4 q5 q6 m1 m2
    go_enter Try.func33, Try.ntmps33
    go_wp2_with (first
      | (go_at_call 28; refine (ht _ _).mono ?_; rintro e w1 ⟨rfl, rfl⟩))
    go_ret
    exact ⟨rfl, rfl⟩
  rw [if_neg r3]
  have t3 : (l == [60]) = false := beq_eq_false_iff_ne.2 r3
  rw [t3] at q3
  clear t3 r3
  by_cases r4 : l = [60, 61]
  · rw [if_pos r4]
    have t4 : (l == [60, 61]) = true := by rw [r4]; rfl
    rw [t4] at q4
    clear t4 r4 q5 q6 m1 m2
    go_enter Try.func33, Try.ntmps33
    go_wp2_with (first
      | (go_at_call 28; refine (ht _ _).mono ?_; rintro e w1 ⟨rfl, rfl⟩))
    go_ret
    exact ⟨rfl, rfl⟩
  rw [if_neg r4]
  have t4 : (l == [60, 61]) = false := beq_eq_false_iff_ne.2 r4
  rw [t4] at q4
  clear t4 r4
  by_cases r5 : l = [61, 61]
  · rw [if_pos r5]
    have t5 : (l == [61, 61]) = true := by rw [r5]; rfl
    rw [t5] at q5
    clear t5 r5 q6 m1 m2
    go_enter Try.func33, Try.ntmps33
    go_wp2_with (first
      | (go_at_call 28; refine (ht _ _).mono ?_; rintro e w1 ⟨rfl, rfl⟩))
    go_ret
    exact ⟨rfl, rfl⟩
  rw [if_neg r5]
  have t5 : (l == [61, 61]) = false := beq_eq_false_iff_ne.2 r5
  rw [t5] at q5
  clear t5 r5
  by_cases r6 : l = [33, 61]
  · rw [if_pos r6]
    have t6 : (l == [33, 61]) = true := by rw [r6]; rfl
    rw [t6] at q6
    clear t6 r6  m1 m2
    go_enter Try.func33, Try.ntmps33
    go_wp2_with (first
      | (go_at_call 28; refine (ht _ _).mono ?_; rintro e w1 ⟨rfl, rfl⟩))
    go_ret
    exact ⟨rfl, rfl⟩
  rw [if_neg r6]
  have t6 : (l == [33, 61]) = false := beq_eq_false_iff_ne.2 r6
  rw [t6] at q6
  clear t6 r6
  clear m1 m2
  go_enter Try.func33, Try.ntmps33
  go_wp2_with (first
    | (go_at_call 28; refine (ht _ _).mono ?_; rintro e w1 ⟨rfl, rfl⟩))
  go_ret
  exact ⟨rfl, rfl⟩
end Go.Proofs.Ytjbfhpgiobddoaa
