
/- What the document's operator, sound and Formed do. -/
import Derived.Test.YtiddccohldjjcaaDoorExE
import Derived.Test.YtiddccohldjjcaaDoorGlyX
namespace Go.Proofs.YtiddccohldjjcaaDoor
open Go.RowKit Go.Lib
set_option linter.unusedSimpArgs false
set_option linter.unusedVariables false

theorem str_is (s : ByteArray) (x : List UInt8) : (s.toList == x) = (bl s == x) := by rw [ByteArray.toList_eq]

set_option maxHeartbeats 1000000 in
theorem operator_any (s : ByteArray) (w : World) : Calls Tryd.prog 67 #[.string s] w fun e w' => e = .returned (.bool (opr s)) ∧ w = w' := by
  have hS := str_is s
  obtain ⟨l, hl⟩ : ∃ l, bl s = l := ⟨_, rfl⟩
  have ho : opr s = ops9.any (fun x => l == x) := by rw [← hl]; rfl
  rw [ho]
  simp only [hl] at hS
  clear hl ho
  obtain ⟨L, hL⟩ : ∃ L, s.toList = L := ⟨_, rfl⟩
  have q0 : (s.toList == [43]) = (l == [43]) := hS _
  have q1 : (s.toList == [45]) = (l == [45]) := hS _
  have q2 : (s.toList == [42]) = (l == [42]) := hS _
  have q3 : (s.toList == [60]) = (l == [60]) := hS _
  have q4 : (s.toList == [60, 61]) = (l == [60, 61]) := hS _
  have q5 : (s.toList == [61, 61]) = (l == [61, 61]) := hS _
  have q6 : (s.toList == [33, 61]) = (l == [33, 61]) := hS _
  have q7 : (s.toList == [38, 38]) = (l == [38, 38]) := hS _
  have q8 : (s.toList == [124, 124]) = (l == [124, 124]) := hS _
  clear hS hL
  simp only [ops9, List.any_cons, List.any_nil, Bool.or_false]
  cases r0 : (l == [43])
  case true => rw [r0] at q0; clear q1 q2 q3 q4 q5 q6 q7 q8; go_enter Tryd.func67, Tryd.ntmps67; go_wp2; go_ret; exact ⟨ret_bool (by simp), rfl⟩
  cases r1 : (l == [45])
  case true => rw [r0] at q0; rw [r1] at q1; clear q2 q3 q4 q5 q6 q7 q8; go_enter Tryd.func67, Tryd.ntmps67; go_wp2; go_ret; exact ⟨ret_bool (by simp), rfl⟩
  rw [r0] at q0; rw [r1] at q1
  cases r2 : (l == [42])
  case true => rw [r2] at q2; clear q3 q4 q5 q6 q7 q8; go_enter Tryd.func67, Tryd.ntmps67; go_wp2; go_ret; exact ⟨ret_bool (by simp), rfl⟩
  rw [r2] at q2
  cases r3 : (l == [60])
  case true => rw [r3] at q3; clear q4 q5 q6 q7 q8; go_enter Tryd.func67, Tryd.ntmps67; go_wp2; go_ret; exact ⟨ret_bool (by simp), rfl⟩
  rw [r3] at q3
  cases r4 : (l == [60, 61])
  case true => rw [r4] at q4; clear q5 q6 q7 q8; go_enter Tryd.func67, Tryd.ntmps67; go_wp2; go_ret; exact ⟨ret_bool (by simp), rfl⟩
  rw [r4] at q4
  cases r5 : (l == [61, 61])
  case true => rw [r5] at q5; clear q6 q7 q8; go_enter Tryd.func67, Tryd.ntmps67; go_wp2; go_ret; exact ⟨ret_bool (by simp), rfl⟩
  rw [r5] at q5
  cases r6 : (l == [33, 61])
  case true => rw [r6] at q6; clear q7 q8; go_enter Tryd.func67, Tryd.ntmps67; go_wp2; go_ret; exact ⟨ret_bool (by simp), rfl⟩
  rw [r6] at q6
  cases r7 : (l == [38, 38])
  case true => rw [r7] at q7; clear q8; go_enter Tryd.func67, Tryd.ntmps67; go_wp2; go_ret; exact ⟨ret_bool (by simp), rfl⟩
  rw [r7] at q7
  cases r8 : (l == [124, 124])
  case true => rw [r8] at q8; go_enter Tryd.func67, Tryd.ntmps67; go_wp2; go_ret; exact ⟨ret_bool (by simp), rfl⟩
  rw [r8] at q8
  go_enter Tryd.func67, Tryd.ntmps67
  go_wp2
  go_ret
  exact ⟨ret_bool (by simp), rfl⟩
end Go.Proofs.YtiddccohldjjcaaDoor
