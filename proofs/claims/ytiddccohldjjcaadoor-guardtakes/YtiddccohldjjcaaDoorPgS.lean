
/- What the program's levelOf and Reserved do. -/
import Derived.Test.YtiddccohldjjcaaDoorRows
import Derived.Test.YtiddccohldjjcaaDoorGdX
namespace Go.Proofs.YtiddccohldjjcaaDoor
open Go.RowKit Go.Lib
set_option linter.unusedSimpArgs false
set_option linter.unusedVariables false
attribute [local go_sem ↓] Go.wp_at_zero Go.wp_at_succ

set_option maxRecDepth 100000 in
set_option maxHeartbeats 2000000 in
theorem pLevel_any (s : ByteArray) (w : World) : Calls Tryd.prog 58 #[.string s] w fun e w' => e = .returned (.int .i64 (lv (bl s) : Int)) ∧ w = w' := by
  have hS : ∀ x, (s.toList == x) = (bl s == x) := fun x => by rw [ByteArray.toList_eq]
  obtain ⟨l, hl⟩ : ∃ l, bl s = l := ⟨_, rfl⟩
  rw [hl]
  simp only [hl] at hS
  clear hl
  have q0 : (s.toList == [124, 124]) = (l == [124, 124]) := hS _
  have q1 : (s.toList == [38, 38]) = (l == [38, 38]) := hS _
  have q2 : (s.toList == [60]) = (l == [60]) := hS _
  have q3 : (s.toList == [60, 61]) = (l == [60, 61]) := hS _
  have q4 : (s.toList == [61, 61]) = (l == [61, 61]) := hS _
  have q5 : (s.toList == [33, 61]) = (l == [33, 61]) := hS _
  have q6 : (s.toList == [43]) = (l == [43]) := hS _
  have q7 : (s.toList == [45]) = (l == [45]) := hS _
  have q8 : (s.toList == [42]) = (l == [42]) := hS _
  clear hS
  cases r0 : (l == [124, 124])
  case true => rw [r0] at q0; clear q1 q2 q3 q4 q5 q6 q7 q8; go_enter Tryd.func58, Tryd.ntmps58; go_wp2; go_ret; exact ⟨by rw [eq_of_beq r0]; rfl, rfl⟩
  rw [r0] at q0
  cases r1 : (l == [38, 38])
  case true => rw [r1] at q1; clear q2 q3 q4 q5 q6 q7 q8; go_enter Tryd.func58, Tryd.ntmps58; go_wp2; go_ret; exact ⟨by rw [eq_of_beq r1]; rfl, rfl⟩
  rw [r1] at q1
  cases r2 : (l == [60])
  case true => rw [r2] at q2; clear q3 q4 q5 q6 q7 q8; go_enter Tryd.func58, Tryd.ntmps58; go_wp2; go_ret; exact ⟨by rw [eq_of_beq r2]; rfl, rfl⟩
  rw [r2] at q2
  cases r3 : (l == [60, 61])
  case true => rw [r3] at q3; clear q4 q5 q6 q7 q8; go_enter Tryd.func58, Tryd.ntmps58; go_wp2; go_ret; exact ⟨by rw [eq_of_beq r3]; rfl, rfl⟩
  rw [r3] at q3
  cases r4 : (l == [61, 61])
  case true => rw [r4] at q4; clear q5 q6 q7 q8; go_enter Tryd.func58, Tryd.ntmps58; go_wp2; go_ret; exact ⟨by rw [eq_of_beq r4]; rfl, rfl⟩
  rw [r4] at q4
  cases r5 : (l == [33, 61])
  case true => rw [r5] at q5; clear q6 q7 q8; go_enter Tryd.func58, Tryd.ntmps58; go_wp2; go_ret; exact ⟨by rw [eq_of_beq r5]; rfl, rfl⟩
  rw [r5] at q5
  cases r6 : (l == [43])
  case true => rw [r6] at q6; clear q7 q8; go_enter Tryd.func58, Tryd.ntmps58; go_wp2; go_ret; exact ⟨by rw [eq_of_beq r6]; rfl, rfl⟩
  rw [r6] at q6
  cases r7 : (l == [45])
  case true => rw [r7] at q7; clear q8; go_enter Tryd.func58, Tryd.ntmps58; go_wp2; go_ret; exact ⟨by rw [eq_of_beq r7]; rfl, rfl⟩
  rw [r7] at q7
  cases r8 : (l == [42])
  case true => rw [r8] at q8; go_enter Tryd.func58, Tryd.ntmps58; go_wp2; go_ret; exact ⟨by rw [eq_of_beq r8]; rfl, rfl⟩
  rw [r8] at q8
  go_enter Tryd.func58, Tryd.ntmps58
  go_wp2
  go_ret
  exact ⟨by have e : lv l = 0 := by simp [lv, beq_eq_false_iff_ne.1 r0, beq_eq_false_iff_ne.1 r1, beq_eq_false_iff_ne.1 r2, beq_eq_false_iff_ne.1 r3, beq_eq_false_iff_ne.1 r4, beq_eq_false_iff_ne.1 r5, beq_eq_false_iff_ne.1 r6, beq_eq_false_iff_ne.1 r7, beq_eq_false_iff_ne.1 r8]
            rw [e]; rfl, rfl⟩
set_option maxRecDepth 100000 in
set_option maxHeartbeats 2000000 in
theorem pReserved_any (s : ByteArray) (w : World) : Calls Tryd.prog 69 #[.string s] w fun e w' => e = .returned (.bool (rsvB (bl s))) ∧ w = w' := by
  have hS : ∀ x, (s.toList == x) = (bl s == x) := fun x => by rw [ByteArray.toList_eq]
  obtain ⟨l, hl⟩ : ∃ l, bl s = l := ⟨_, rfl⟩
  rw [hl]
  simp only [hl] at hS
  clear hl
  have q0 : (s.toList == [99, 104, 97, 114, 116]) = (l == [99, 104, 97, 114, 116]) := hS _
  have q1 : (s.toList == [118, 97, 114]) = (l == [118, 97, 114]) := hS _
  have q2 : (s.toList == [115, 116, 97, 116, 101]) = (l == [115, 116, 97, 116, 101]) := hS _
  have q3 : (s.toList == [97, 108, 108]) = (l == [97, 108, 108]) := hS _
  have q4 : (s.toList == [101, 110, 100]) = (l == [101, 110, 100]) := hS _
  have q5 : (s.toList == [100, 111]) = (l == [100, 111]) := hS _
  have q6 : (s.toList == [117, 110, 100, 111]) = (l == [117, 110, 100, 111]) := hS _
  have q7 : (s.toList == [97, 116]) = (l == [97, 116]) := hS _
  have q8 : (s.toList == [114, 101, 116, 114, 105, 101, 115]) = (l == [114, 101, 116, 114, 105, 101, 115]) := hS _
  have q9 : (s.toList == [111, 110]) = (l == [111, 110]) := hS _
  have q10 : (s.toList == [105, 102]) = (l == [105, 102]) := hS _
  have q11 : (s.toList == [103, 111]) = (l == [103, 111]) := hS _
  have q12 : (s.toList == [115, 101, 116]) = (l == [115, 101, 116]) := hS _
  clear hS
  cases r0 : (l == [99, 104, 97, 114, 116])
  case true => rw [r0] at q0; clear q1 q2 q3 q4 q5 q6 q7 q8 q9 q10 q11 q12; go_enter Tryd.func69, Tryd.ntmps69; go_wp2; go_ret; exact ⟨by rw [eq_of_beq r0]; rfl, rfl⟩
  rw [r0] at q0
  cases r1 : (l == [118, 97, 114])
  case true => rw [r1] at q1; clear q2 q3 q4 q5 q6 q7 q8 q9 q10 q11 q12; go_enter Tryd.func69, Tryd.ntmps69; go_wp2; go_ret; exact ⟨by rw [eq_of_beq r1]; rfl, rfl⟩
  rw [r1] at q1
  cases r2 : (l == [115, 116, 97, 116, 101])
  case true => rw [r2] at q2; clear q3 q4 q5 q6 q7 q8 q9 q10 q11 q12; go_enter Tryd.func69, Tryd.ntmps69; go_wp2; go_ret; exact ⟨by rw [eq_of_beq r2]; rfl, rfl⟩
  rw [r2] at q2
  cases r3 : (l == [97, 108, 108])
  case true => rw [r3] at q3; clear q4 q5 q6 q7 q8 q9 q10 q11 q12; go_enter Tryd.func69, Tryd.ntmps69; go_wp2; go_ret; exact ⟨by rw [eq_of_beq r3]; rfl, rfl⟩
  rw [r3] at q3
  cases r4 : (l == [101, 110, 100])
  case true => rw [r4] at q4; clear q5 q6 q7 q8 q9 q10 q11 q12; go_enter Tryd.func69, Tryd.ntmps69; go_wp2; go_ret; exact ⟨by rw [eq_of_beq r4]; rfl, rfl⟩
  rw [r4] at q4
  cases r5 : (l == [100, 111])
  case true => rw [r5] at q5; clear q6 q7 q8 q9 q10 q11 q12; go_enter Tryd.func69, Tryd.ntmps69; go_wp2; go_ret; exact ⟨by rw [eq_of_beq r5]; rfl, rfl⟩
  rw [r5] at q5
  cases r6 : (l == [117, 110, 100, 111])
  case true => rw [r6] at q6; clear q7 q8 q9 q10 q11 q12; go_enter Tryd.func69, Tryd.ntmps69; go_wp2; go_ret; exact ⟨by rw [eq_of_beq r6]; rfl, rfl⟩
  rw [r6] at q6
  cases r7 : (l == [97, 116])
  case true => rw [r7] at q7; clear q8 q9 q10 q11 q12; go_enter Tryd.func69, Tryd.ntmps69; go_wp2; go_ret; exact ⟨by rw [eq_of_beq r7]; rfl, rfl⟩
  rw [r7] at q7
  cases r8 : (l == [114, 101, 116, 114, 105, 101, 115])
  case true => rw [r8] at q8; clear q9 q10 q11 q12; go_enter Tryd.func69, Tryd.ntmps69; go_wp2; go_ret; exact ⟨by rw [eq_of_beq r8]; rfl, rfl⟩
  rw [r8] at q8
  cases r9 : (l == [111, 110])
  case true => rw [r9] at q9; clear q10 q11 q12; go_enter Tryd.func69, Tryd.ntmps69; go_wp2; go_ret; exact ⟨by rw [eq_of_beq r9]; rfl, rfl⟩
  rw [r9] at q9
  cases r10 : (l == [105, 102])
  case true => rw [r10] at q10; clear q11 q12; go_enter Tryd.func69, Tryd.ntmps69; go_wp2; go_ret; exact ⟨by rw [eq_of_beq r10]; rfl, rfl⟩
  rw [r10] at q10
  cases r11 : (l == [103, 111])
  case true => rw [r11] at q11; clear q12; go_enter Tryd.func69, Tryd.ntmps69; go_wp2; go_ret; exact ⟨by rw [eq_of_beq r11]; rfl, rfl⟩
  rw [r11] at q11
  cases r12 : (l == [115, 101, 116])
  case true => rw [r12] at q12; go_enter Tryd.func69, Tryd.ntmps69; go_wp2; go_ret; exact ⟨by rw [eq_of_beq r12]; rfl, rfl⟩
  rw [r12] at q12
  go_enter Tryd.func69, Tryd.ntmps69
  go_wp2
  go_ret
  exact ⟨by have e : rsvB l = false := by simp [rsvB, rsv13, beq_eq_false_iff_ne.1 r0, beq_eq_false_iff_ne.1 r1, beq_eq_false_iff_ne.1 r2, beq_eq_false_iff_ne.1 r3, beq_eq_false_iff_ne.1 r4, beq_eq_false_iff_ne.1 r5, beq_eq_false_iff_ne.1 r6, beq_eq_false_iff_ne.1 r7, beq_eq_false_iff_ne.1 r8, beq_eq_false_iff_ne.1 r9, beq_eq_false_iff_ne.1 r10, beq_eq_false_iff_ne.1 r11, beq_eq_false_iff_ne.1 r12]
            rw [e]; rfl, rfl⟩
end Go.Proofs.YtiddccohldjjcaaDoor
