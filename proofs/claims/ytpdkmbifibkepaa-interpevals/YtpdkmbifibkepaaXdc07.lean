import Derived.Test.YtpdkmbifibkepaaXdc05
import Derived.Test.YtpdkmbifibkepaaXdc06
import Derived.Test.YtpdkmbifibkepaaXdc04
import Derived.Test.YtpdkmbifibkepaaXdc01
import Derived.ProofKit
import Derived.OpenShut
import Derived.ShutString
import Derived.ChangeOld
import Derived.SizedLaws
import Derived.Below
import Derived.Test.YtpdkmbifibkepaaRows
import Derived.Deep.Slices

/- What the program's valueOf and Eval do. -/
namespace Go.Proofs.Ytpdkmbifibkepaa
open Go.RowKit Go.Lib
set_option linter.unusedSimpArgs false
set_option linter.unusedVariables false
attribute [local go_sem ↓] Go.wp_at_zero Go.wp_at_succ

theorem pTruth_any (b : Bool) (w : World) : Calls Try.prog 28 #[.bool b] w fun e w' => e = .returned (.int .i64 (tru b)) ∧ w = w' := by
  cases b
  · go_enter Try.func28, Try.ntmps28
    go_wp2
    go_ret
    exact ⟨rfl, rfl⟩
  · go_enter Try.func28, Try.ntmps28
    go_wp2
    go_ret
    exact ⟨rfl, rfl⟩
theorem pRange_any (n : Int) (w : World) : Calls Try.prog 40 #[.int .i64 n] w fun e w' => e = .returned (.tuple #[.int .i64 (wth n).1, .int .i64 (wth n).2]) ∧ w = w' := by
  unfold wth
  by_cases h1 : n < -1000000000
  · rw [if_pos (.inl h1)]
    go_enter Try.func40, Try.ntmps40
    go_wp2
    go_ret2
    exact ⟨rfl, rfl⟩
  by_cases h2 : 1000000000 < n
  · rw [if_pos (.inr h2)]
    have h3 : n > 1000000000 := h2
    go_enter Try.func40, Try.ntmps40
    go_wp2
    go_ret2
    exact ⟨rfl, rfl⟩
  rw [if_neg (by omega)]
  have h3 : ¬ n > 1000000000 := h2
  go_enter Try.func40, Try.ntmps40
  go_wp2
  go_ret2
  exact ⟨rfl, rfl⟩

/-- What an operator makes of two values. -/
def wk (s : List UInt8) (x y : Int) : Int :=
  if s = [43] then x + y else if s = [45] then x - y else if s = [42] then x * y else if s = [60] then tru (decide (x < y)) else if s = [60, 61] then tru (decide (x ≤ y))
  else if s = [61, 61] then tru (x == y) else if s = [33, 61] then tru (x != y) else tru (y != 0)
theorem wth_tru (b : Bool) : wth (tru b) = (tru b, 0) := by cases b <;> rfl
theorem wth_wk (s : List UInt8) (x y : Int) : wth (wk s x y) = bin s x y := by
  unfold wk bin
  repeat' split
  all_goals first | rfl | exact wth_tru _
theorem mul_bd2 {x y : Int} (h1 : -1000000000 ≤ x) (h2 : x ≤ 1000000000) (h3 : -1000000000 ≤ y) (h4 : y ≤ 1000000000) : -1000000000000000000 ≤ x * y ∧ x * y ≤ 1000000000000000000 := by
  have a1 : (x * y).natAbs = x.natAbs * y.natAbs := Int.natAbs_mul x y
  have a2 : x.natAbs * y.natAbs ≤ 1000000000 * 1000000000 := Nat.mul_le_mul (by omega) (by omega)
  omega
set_option maxHeartbeats 4000000 in
theorem pWorked_any (s : ByteArray) (x y : Int) (h1 : -1000000000 ≤ x) (h2 : x ≤ 1000000000) (h3 : -1000000000 ≤ y) (h4 : y ≤ 1000000000) (w : World) :
    Calls Try.prog 41 #[.string s, .int .i64 x, .int .i64 y] w fun e w' => e = .returned (.int .i64 (wk (bl s) x y)) ∧ w = w' := by
  obtain ⟨m1, m2⟩ := mul_bd2 h1 h2 h3 h4
  have ht := fun b w1 => pTruth_any b w1
  have hS := str_is2 s
  obtain ⟨l, hl⟩ : ∃ l, bl s = l := ⟨_, rfl⟩
  rw [hl]
  simp only [hl] at hS
  clear hl
  have q0 : (s.toList == [43]) = (l == [43]) := hS _
  have q1 : (s.toList == [45]) = (l == [45]) := hS _
  have q2 : (s.toList == [42]) = (l == [42]) := hS _
  have q3 : (s.toList == [60]) = (l == [60]) := hS _
  have q4 : (s.toList == [60, 61]) = (l == [60, 61]) := hS _
  have q5 : (s.toList == [61, 61]) = (l == [61, 61]) := hS _
  have q6 : (s.toList == [33, 61]) = (l == [33, 61]) := hS _
  clear hS
  unfold wk
  by_cases r0 : l = [43]
  · rw [if_pos r0]
    have t0 : (l == [43]) = true := by rw [r0]; rfl
    rw [t0] at q0
    clear t0 r0 q1 q2 q3 q4 q5 q6 m1 m2 ht
    go_enter Try.func41, Try.ntmps41
    go_wp2_with (first
      | (go_at_call 28; refine (ht _ _).mono ?_; rintro e w1 ⟨rfl, rfl⟩))
    go_ret
    exact ⟨rfl, rfl⟩
  rw [if_neg r0]
  have t0 : (l == [43]) = false := beq_eq_false_iff_ne.2 r0
  rw [t0] at q0
  clear t0 r0
  by_cases r1 : l = [45]
  · rw [if_pos r1]
    have t1 : (l == [45]) = true := by rw [r1]; rfl
    rw [t1] at q1
    clear t1 r1 q2 q3 q4 q5 q6 m1 m2 ht
    go_enter Try.func41, Try.ntmps41
    go_wp2_with (first
      | (go_at_call 28; refine (ht _ _).mono ?_; rintro e w1 ⟨rfl, rfl⟩))
    go_ret
    exact ⟨rfl, rfl⟩
  rw [if_neg r1]
  have t1 : (l == [45]) = false := beq_eq_false_iff_ne.2 r1
  rw [t1] at q1
  clear t1 r1
  by_cases r2 : l = [42]
  · rw [if_pos r2]
    have t2 : (l == [42]) = true := by rw [r2]; rfl
    rw [t2] at q2
    clear t2 r2 q3 q4 q5 q6 ht
    go_enter Try.func41, Try.ntmps41
    go_wp2_with (first
      | (go_at_call 28; refine (ht _ _).mono ?_; rintro e w1 ⟨rfl, rfl⟩))
    go_ret
    exact ⟨rfl, rfl⟩
  rw [if_neg r2]
  have t2 : (l == [42]) = false := beq_eq_false_iff_ne.2 r2
  rw [t2] at q2
  clear t2 r2
  by_cases r3 : l = [60]
  · rw [if_pos r3]
    have t3 : (l == [60]) = true := by rw [r3]; rfl
    rw [t3] at q3
    clear t3 r3 q4 q5 q6 m1 m2
    go_enter Try.func41, Try.ntmps41
    go_wp2_with (first
      | (go_at_call 28; refine (ht _ _).mono ?_; rintro e w1 ⟨rfl, rfl⟩))
    go_ret
    exact ⟨rfl, rfl⟩
  rw [if_neg r3]
  have t3 : (l == [60]) = false := beq_eq_false_iff_ne.2 r3
  rw [t3] at q3
  clear t3 r3
  by_cases r4 : l = [60, 61]
  · rw [if_pos r4]
    have t4 : (l == [60, 61]) = true := by rw [r4]; rfl
    rw [t4] at q4
    clear t4 r4 q5 q6 m1 m2
    go_enter Try.func41, Try.ntmps41
    go_wp2_with (first
      | (go_at_call 28; refine (ht _ _).mono ?_; rintro e w1 ⟨rfl, rfl⟩))
    go_ret
    exact ⟨rfl, rfl⟩
  rw [if_neg r4]
  have t4 : (l == [60, 61]) = false := beq_eq_false_iff_ne.2 r4
  rw [t4] at q4
  clear t4 r4
  by_cases r5 : l = [61, 61]
  · rw [if_pos r5]
    have t5 : (l == [61, 61]) = true := by rw [r5]; rfl
    rw [t5] at q5
    clear t5 r5 q6 m1 m2
    go_enter Try.func41, Try.ntmps41
    go_wp2_with (first
      | (go_at_call 28; refine (ht _ _).mono ?_; rintro e w1 ⟨rfl, rfl⟩))
    go_ret
    exact ⟨rfl, rfl⟩
  rw [if_neg r5]
  have t5 : (l == [61, 61]) = false := beq_eq_false_iff_ne.2 r5
  rw [t5] at q5
  clear t5 r5
  by_cases r6 : l = [33, 61]
  · rw [if_pos r6]
    have t6 : (l == [33, 61]) = true := by rw [r6]; rfl
    rw [t6] at q6
    clear t6 r6  m1 m2
    go_enter Try.func41, Try.ntmps41
    go_wp2_with (first
      | (go_at_call 28; refine (ht _ _).mono ?_; rintro e w1 ⟨rfl, rfl⟩))
    go_ret
    exact ⟨rfl, rfl⟩
  rw [if_neg r6]
  have t6 : (l == [33, 61]) = false := beq_eq_false_iff_ne.2 r6
  rw [t6] at q6
  clear t6 r6
  clear m1 m2
  go_enter Try.func41, Try.ntmps41
  go_wp2_with (first
    | (go_at_call 28; refine (ht _ _).mono ?_; rintro e w1 ⟨rfl, rfl⟩))
  go_ret
  exact ⟨rfl, rfl⟩

set_option maxRecDepth 100000 in
set_option maxHeartbeats 4000000 in
theorem pVariable_any (vs : List Vr) (s : ByteArray) (vv : Value) (w : World) (hv : RdV w vv vs) (hl : vs.length ≤ 10000) :
    Calls Try.prog 27 #[.string s, vv] w fun e w' => e = .returned (pr2 (look vs s)) ∧ Below w.heap.size w w' := by
  obtain ⟨a, cap, rfl, hlc, hcm, hcell⟩ := hv.form
  obtain ⟨V, hV⟩ : ∃ V, look vs s = V := ⟨_, rfl⟩
  rw [hV]
  have HV : Hid (look (vs.drop 0) s = V) := hV
  have HC : Hid (∀ (i : Nat) (hi : i < vs.length), ∃ b off, a = some ⟨b, off, none⟩ ∧ b < w.heap.size ∧ w.cell? ⟨b, off + i * 2, none⟩ = some (.string (vs[i]).1) ∧ w.cell? ⟨b, off + i * 2 + 1, none⟩ = some (.int .i64 (vs[i]).2)) := hcell
  have hWi := fun n w1 => pRange_any n w1
  clear hcell hv hV
  go_enter Try.func27, Try.ntmps27
  go_wp2
  go_loopw [10] (fun i wr => ∃ (j : Nat), j ≤ vs.length ∧ i = .int .i64 (j : Int) ∧ Hid (look (vs.drop j) s = V) ∧ Below w.heap.size w wr) (fun i _ => vs.length - (RowKit.intOf i).toNat)
  case atStart => exact ⟨0, Nat.zero_le _, rfl, HV, Below.refl _ _⟩
  case round =>
    obtain ⟨j, hj, rfl, hlk, hb⟩ := hrel
    by_cases hlt : j < vs.length
    · obtain ⟨b, off, rfl, hbl, k0, k1⟩ := HC.out j hlt
      have C0 := (hb.cell (p := ⟨b, off + j * 2, none⟩) hbl).trans k0
      have C1 := (hb.cell (p := ⟨b, off + j * 2 + 1, none⟩) hbl).trans k1
      have hll := hlk.out
      rw [List.drop_eq_getElem_cons hlt] at hll
      have i1 : (j : Int) < (vs.length : Int) := by omega
      have i2 : (0 : Int) ≤ (j : Int) := by omega
      obtain ⟨xs, hxs⟩ : ∃ x, (vs[j]).1 = x := ⟨_, rfl⟩
      obtain ⟨xn, hxn⟩ : ∃ x, (vs[j]).2 = x := ⟨_, rfl⟩
      unfold look at hll
      rw [hxs, hxn] at hll
      rw [hxs] at C0
      rw [hxn] at C1
      have b2 := hb.alloc hb.size (.cells #[.string xs, .int .i64 xn] 30)
      clear k0 k1 hxs hxn
      by_cases he : xs = s
      · subst he
        rw [if_pos rfl] at hll
        subst hll
        go_wp2_with (first
          | (go_at_call 40; refine (hWi _ _).mono ?_; rintro e w' ⟨rfl, rfl⟩))
        go_ret2
        exact ⟨rfl, b2⟩
      · rw [if_neg he] at hll
        have hN : Hid (look (vs.drop (j + 1)) s = V) := hll
        have hs : (xs.toList == s.toList) = false := by
          rw [ByteArray.toList_eq, ByteArray.toList_eq]
          exact beq_eq_false_iff_ne.2 (fun e => he (ByteArray.ext (Array.toList_inj.1 e)))
        clear he hll
        go_wp2
        go_roundw
        case rel => exact ⟨j + 1, hlt, by go_num, hN, b2⟩
        case measure => simp [RowKit.intOf]; omega
    · have i1 : ¬ (j : Int) < (vs.length : Int) := by omega
      have hll := hlk.out
      rw [List.drop_eq_nil_of_le (by omega)] at hll
      subst hll
      go_wp2
      go_ret2
      exact ⟨rfl, hb⟩

def ValC (d : Nat) : Prop := ∀ (vs : List Vr) (t : T d) (vv : Value) (w : World), Cl d t → sdC d t = true → RdV w vv vs → vs.length ≤ 10000 →
  Calls Try.prog 16 #[exV d t, vv] w fun e w' => e = .returned (pr2 (evC vs d t)) ∧ Below w.heap.size w w'
/-- What is made of two sides. -/
def bnC (s : ByteArray) (x : Int) (q : Int × Int) : Int × Int := if bl s = [38, 38] ∧ x = 0 then (0, 0) else if bl s = [124, 124] ∧ x ≠ 0 then (1, 0) else if q.2 ≠ 0 then (0, q.2) else bin (bl s) x q.1
set_option maxRecDepth 100000 in
set_option maxHeartbeats 4000000 in
theorem bin_any {d : Nat} (IH : ValC d) (vs : List Vr) (s : ByteArray) (x : Int) (q : T d) (vv : Value) (w : World) (hq : Cl d q) (hsq : sdC d q = true) (h1 : -1000000000 ≤ x) (h2 : x ≤ 1000000000) (hv : RdV w vv vs) (hl : vs.length ≤ 10000) :
    Calls Try.prog 29 #[.string s, .int .i64 x, exV d q, vv] w fun e w' => e = .returned (pr2 (bnC s x (evC vs d q))) ∧ Below w.heap.size w w' := by
  have hc := fun w1 (b : Below w.heap.size w w1) => IH vs q vv w1 hq hsq (hv.below b (Nat.le_refl _)) hl
  have hc := hc w (Below.refl _ _)
  have hbd := evC_bd vs d q hq hsq
  have ht := fun b w1 => pTruth_any b w1
  have hR := fun n w1 => pRange_any n w1
  have q7 : (s.toList == [38, 38]) = (bl s == [38, 38]) := str_is2 s _
  have q8 : (s.toList == [124, 124]) = (bl s == [124, 124]) := str_is2 s _
  obtain ⟨⟨y, ye⟩, hy⟩ : ∃ y, evC vs d q = y := ⟨_, rfl⟩
  rw [hy] at hc hbd ⊢
  have hW := fun w1 => pWorked_any s x y h1 h2 hbd.1 hbd.2 w1
  have hwk := wth_wk (bl s) x y
  unfold bnC
  simp only
  unfold pr2 at hc
  simp only at hc
  obtain ⟨z, hz⟩ : ∃ z, exV d q = z := ⟨_, rfl⟩
  rw [hz] at hc ⊢
  clear hy hz hq hsq IH hv
  by_cases a1 : bl s = [38, 38]
  · have a2 : (bl s == [38, 38]) = true := by rw [a1]; rfl
    have a3 : (bl s == [124, 124]) = false := by rw [a1]; rfl
    rw [a2] at q7
    rw [a3] at q8
    clear a2 a3
    by_cases a4 : x = 0
    · subst a4
      rw [if_pos ⟨a1, rfl⟩]
      clear a1 hc hW hwk hR
      go_enter Try.func29, Try.ntmps29
      go_wp2_with (first
        | (go_at_call 28; refine (ht _ _).mono ?_; rintro e w1 ⟨rfl, rfl⟩))
      go_ret2
      exact ⟨rfl, Below.refl _ _⟩
    · have a5 : (x == 0) = false := beq_eq_false_iff_ne.2 a4
      rw [if_neg (fun h => a4 h.2), if_neg (by rw [a1]; simp)]
      clear a1
      obtain ⟨W, hWW⟩ : ∃ W, wk (bl s) x y = W := ⟨_, rfl⟩
      rw [hWW] at hwk
      simp only [hWW] at hW
      clear hWW
      rw [← hwk]
      clear hwk
      by_cases ye0 : ye = 0
      · subst ye0
        rw [if_neg (by simp)]
        go_enter Try.func29, Try.ntmps29
        go_wp2_with (first
          | (go_at_call 16; refine hc.mono ?_; rintro e w1 ⟨rfl, b1⟩)
          | (go_at_call 41; refine (hW _).mono ?_; rintro e w2 ⟨rfl, rfl⟩)
          | (go_at_call 40; refine (hR _ _).mono ?_; rintro e w2 ⟨rfl, rfl⟩))
        go_ret2
        exact ⟨rfl, b1⟩
      · have y0 : (ye == 0) = false := beq_eq_false_iff_ne.2 ye0
        have y1 : (ye != 0) = true := by simp [ye0]
        rw [if_pos ye0]
        clear ye0
        go_enter Try.func29, Try.ntmps29
        go_wp2_with (first
          | (go_at_call 16; refine hc.mono ?_; rintro e w1 ⟨rfl, b1⟩))
        go_ret2
        exact ⟨rfl, b1⟩
  · have a2 : (bl s == [38, 38]) = false := beq_eq_false_iff_ne.2 a1
    rw [a2] at q7
    rw [if_neg (fun h => a1 h.1)]
    clear a2 a1
    by_cases a1 : bl s = [124, 124]
    · have a3 : (bl s == [124, 124]) = true := by rw [a1]; rfl
      rw [a3] at q8
      clear a3
      by_cases a4 : x = 0
      · subst a4
        have a5 : ((0 : Int) != 0) = false := rfl
        rw [if_neg (by simp)]
        clear a1
        obtain ⟨W, hWW⟩ : ∃ W, wk (bl s) 0 y = W := ⟨_, rfl⟩
        rw [hWW] at hwk
        simp only [hWW] at hW
        clear hWW
        rw [← hwk]
        clear hwk
        by_cases ye0 : ye = 0
        · subst ye0
          rw [if_neg (by simp)]
          go_enter Try.func29, Try.ntmps29
          go_wp2_with (first
            | (go_at_call 16; refine hc.mono ?_; rintro e w1 ⟨rfl, b1⟩)
            | (go_at_call 41; refine (hW _).mono ?_; rintro e w2 ⟨rfl, rfl⟩)
            | (go_at_call 40; refine (hR _ _).mono ?_; rintro e w2 ⟨rfl, rfl⟩))
          go_ret2
          exact ⟨rfl, b1⟩
        · have y0 : (ye == 0) = false := beq_eq_false_iff_ne.2 ye0
          have y1 : (ye != 0) = true := by simp [ye0]
          rw [if_pos ye0]
          clear ye0
          go_enter Try.func29, Try.ntmps29
          go_wp2_with (first
            | (go_at_call 16; refine hc.mono ?_; rintro e w1 ⟨rfl, b1⟩))
          go_ret2
          exact ⟨rfl, b1⟩
      · have a5 : (x != 0) = true := by simp [a4]
        rw [if_pos ⟨a1, a4⟩]
        clear a4
        clear a1 hc hW hwk hR
        go_enter Try.func29, Try.ntmps29
        go_wp2_with (first
          | (go_at_call 28; refine (ht _ _).mono ?_; rintro e w1 ⟨rfl, rfl⟩))
        go_ret2
        exact ⟨rfl, Below.refl _ _⟩
    · have a3 : (bl s == [124, 124]) = false := beq_eq_false_iff_ne.2 a1
      rw [a3] at q8
      rw [if_neg (fun h => a1 h.1)]
      clear a1 a3
      obtain ⟨W, hWW⟩ : ∃ W, wk (bl s) x y = W := ⟨_, rfl⟩
      rw [hWW] at hwk
      simp only [hWW] at hW
      clear hWW
      rw [← hwk]
      clear hwk
      by_cases ye0 : ye = 0
      · subst ye0
        rw [if_neg (by simp)]
        go_enter Try.func29, Try.ntmps29
        go_wp2_with (first
          | (go_at_call 16; refine hc.mono ?_; rintro e w1 ⟨rfl, b1⟩)
          | (go_at_call 41; refine (hW _).mono ?_; rintro e w2 ⟨rfl, rfl⟩)
          | (go_at_call 40; refine (hR _ _).mono ?_; rintro e w2 ⟨rfl, rfl⟩))
        go_ret2
        exact ⟨rfl, b1⟩
      · have y0 : (ye == 0) = false := beq_eq_false_iff_ne.2 ye0
        have y1 : (ye != 0) = true := by simp [ye0]
        rw [if_pos ye0]
        clear ye0
        go_enter Try.func29, Try.ntmps29
        go_wp2_with (first
          | (go_at_call 16; refine hc.mono ?_; rintro e w1 ⟨rfl, b1⟩))
        go_ret2
        exact ⟨rfl, b1⟩

theorem evC_bn (vs : List Vr) {d : Nat} (n : Int) (s : ByteArray) (p q : T d) : evC vs (d + 1) (mkT 5 n s [p, q]) = if (evC vs d p).2 ≠ 0 then (0, (evC vs d p).2) else bnC s (evC vs d p).1 (evC vs d q) := rfl
set_option maxRecDepth 100000 in
set_option maxHeartbeats 4000000 in
theorem val_step (d : Nat) (IH : ValC d) : ValC (d + 1) := by
  intro vs t vv w hc hs hv hl
  rcases hc.cases with ⟨n, rfl⟩ | ⟨s, rfl⟩ | ⟨k, p, hk, rfl, hp⟩ | ⟨s, p, q, rfl, hp, hq⟩ | rfl
  · have htop := top_lit n w
    rw [evC_1]
    unfold topV at htop
    obtain ⟨x, hx⟩ : ∃ x, exV (d + 1) (mkT 1 n ⟨#[]⟩ []) = x := ⟨_, rfl⟩
    have htop' : Calls Try.prog 26 #[x] w fun e w' => ∃ sl, e = .returned (.agg #[.int .i64 1, .int .i64 n, .string ⟨#[]⟩, sl]) ∧ Kids w' sl [] ∧ Below w.heap.size w w' := by rw [← hx]; exact htop
    rw [hx]
    clear htop hx hs hc hv IH
    go_enter Try.func16, Try.ntmps16
    go_wp2_with (first
      | (go_at_call 26; refine htop'.mono ?_; rintro e w1 ⟨sl, rfl, hk1, b1⟩; obtain ⟨a1, rfl⟩ := hk1.form))
    go_ret2
    exact ⟨rfl, b1.alloc b1.size _⟩
  · have htop := top_ref s w
    rw [evC_2]
    obtain ⟨x, hx⟩ : ∃ x, exV (d + 1) (mkT 2 0 s []) = x := ⟨_, rfl⟩
    have htop' : Calls Try.prog 26 #[x] w fun e w' => ∃ sl, e = .returned (.agg #[.int .i64 2, .int .i64 0, .string s, sl]) ∧ Kids w' sl [] ∧ Below w.heap.size w w' := by rw [← hx]; exact htop
    rw [hx]
    have hV := fun w1 (b : Below w.heap.size w w1) => pVariable_any vs s vv w1 (hv.below b (Nat.le_refl _)) hl
    obtain ⟨⟨y, ye⟩, hy⟩ : ∃ y, look vs s = y := ⟨_, rfl⟩
    rw [hy]
    simp only [hy] at hV
    clear htop hx hs hc hv IH hy
    go_enter Try.func16, Try.ntmps16
    go_wp2_with (first
      | (go_at_call 26; refine htop'.mono ?_; rintro e w1 ⟨sl, rfl, hk1, b1⟩; obtain ⟨a1, rfl⟩ := hk1.form; have b2 := b1.alloc b1.size (.cells #[.int .i64 2, .int .i64 0, .string s, .slice a1 ([] : List Value).length ([] : List Value).length] 74); have hV' := hV _ b2)
      | (go_at_call 27; refine hV'.mono ?_; rintro e w2 ⟨rfl, b3⟩))
    go_ret2
    exact ⟨rfl, b2.trans (b3.mono b2.size)⟩
  · have hsp : sdC d p = true := by
      rw [sdC_mk, if_neg (by omega), if_neg (by omega), if_pos hk] at hs
      simpa using hs
    have hI := fun w1 (b : Below w.heap.size w w1) => IH vs p vv w1 hp hsp (hv.below b (Nat.le_refl _)) hl
    have hbd := evC_bd vs d p hp hsp
    have ht := fun b w1 => pTruth_any b w1
    obtain ⟨⟨y, ye⟩, hy⟩ : ∃ y, evC vs d p = y := ⟨_, rfl⟩
    obtain ⟨z, hz⟩ : ∃ z, exV d p = z := ⟨_, rfl⟩
    rcases hk with rfl | rfl
    · have htop := top_not (exV d p) (ifc_ex p) w
      obtain ⟨x, hx⟩ : ∃ x, exV (d + 1) (mkT 3 0 ⟨#[]⟩ [p]) = x := ⟨_, rfl⟩
      have htop' : Calls Try.prog 26 #[x] w fun e w' => ∃ sl, e = .returned (.agg #[.int .i64 3, .int .i64 0, .string ⟨#[]⟩, sl]) ∧ Kids w' sl [exV d p] ∧ Below w.heap.size w w' := by rw [← hx]; exact htop
      rw [hx]
      rw [evC_3]
      rw [hy] at hbd ⊢
      simp only [hy, hz] at hI
      rw [hz] at htop'
      clear htop hx hs hc hv IH hy hz hp hsp
      unfold pr2 at hI
      simp only at hI hbd ⊢
      by_cases ye0 : ye = 0
      · subst ye0
        rw [if_neg (by simp)]
        go_enter Try.func16, Try.ntmps16
        go_wp2_with (first
          | (go_at_call 26; refine htop'.mono ?_; rintro e w1 ⟨sl, rfl, hk1, b1⟩; obtain ⟨a1, rfl⟩ := hk1.form; obtain ⟨g, rfl, hcell⟩ := hk1.at (j := 0) (by simp); have b2 := b1.alloc b1.size (.cells #[.int .i64 3, .int .i64 0, .string ⟨#[]⟩, .slice (some ⟨g, 0, none⟩) 1 1] 74); have c0 := (((Below.refl w1.heap.size w1).alloc (Nat.le_refl _) (.cells #[.int .i64 3, .int .i64 0, .string ⟨#[]⟩, .slice (some ⟨g, 0, none⟩) 1 1] 74)).cell (p := ⟨g, 0, none⟩) (World.block_lt_of_cell? w1 _ hcell)).trans hcell; simp only [List.getElem_cons_zero] at c0; have hA := At4.new w1 (.int .i64 3) (.int .i64 0) (.string ⟨#[]⟩) (.slice (some ⟨g, 0, none⟩) 1 1) 74; have hI' := hI _ b2; clear hcell hk1 htop')
          | (go_at_call 16; refine hI'.mono ?_; rintro e w2 ⟨rfl, b3⟩; have hA2 := hA.keepB b3 (by simp); obtain ⟨y0, y1, y2, y3⟩ := id hA2; have b4 := b2.trans (b3.mono b2.size); clear hI' hI c0)
          | (go_at_call 28; refine (ht _ _).mono ?_; rintro e w3 ⟨rfl, rfl⟩))
        go_ret2
        exact ⟨rfl, b4⟩
      · have z0 : (ye == 0) = false := beq_eq_false_iff_ne.2 ye0
        have z1 : (ye != 0) = true := by simp [ye0]
        rw [if_pos ye0]
        clear ye0
        go_enter Try.func16, Try.ntmps16
        go_wp2_with (first
          | (go_at_call 26; refine htop'.mono ?_; rintro e w1 ⟨sl, rfl, hk1, b1⟩; obtain ⟨a1, rfl⟩ := hk1.form; obtain ⟨g, rfl, hcell⟩ := hk1.at (j := 0) (by simp); have b2 := b1.alloc b1.size (.cells #[.int .i64 3, .int .i64 0, .string ⟨#[]⟩, .slice (some ⟨g, 0, none⟩) 1 1] 74); have c0 := (((Below.refl w1.heap.size w1).alloc (Nat.le_refl _) (.cells #[.int .i64 3, .int .i64 0, .string ⟨#[]⟩, .slice (some ⟨g, 0, none⟩) 1 1] 74)).cell (p := ⟨g, 0, none⟩) (World.block_lt_of_cell? w1 _ hcell)).trans hcell; simp only [List.getElem_cons_zero] at c0; have hA := At4.new w1 (.int .i64 3) (.int .i64 0) (.string ⟨#[]⟩) (.slice (some ⟨g, 0, none⟩) 1 1) 74; have hI' := hI _ b2; clear hcell hk1 htop')
          | (go_at_call 16; refine hI'.mono ?_; rintro e w2 ⟨rfl, b3⟩; have hA2 := hA.keepB b3 (by simp); obtain ⟨y0, y1, y2, y3⟩ := id hA2; have b4 := b2.trans (b3.mono b2.size); clear hI' hI c0))
        go_ret2
        exact ⟨rfl, b4⟩
    · have htop := top_neg (exV d p) (ifc_ex p) w
      obtain ⟨x, hx⟩ : ∃ x, exV (d + 1) (mkT 4 0 ⟨#[]⟩ [p]) = x := ⟨_, rfl⟩
      have htop' : Calls Try.prog 26 #[x] w fun e w' => ∃ sl, e = .returned (.agg #[.int .i64 4, .int .i64 0, .string ⟨#[]⟩, sl]) ∧ Kids w' sl [exV d p] ∧ Below w.heap.size w w' := by rw [← hx]; exact htop
      rw [hx]
      rw [evC_4]
      rw [hy] at hbd ⊢
      simp only [hy, hz] at hI
      rw [hz] at htop'
      clear htop hx hs hc hv IH hy hz hp hsp
      unfold pr2 at hI
      simp only at hI hbd ⊢
      by_cases ye0 : ye = 0
      · subst ye0
        rw [if_neg (by simp)]
        go_enter Try.func16, Try.ntmps16
        go_wp2_with (first
          | (go_at_call 26; refine htop'.mono ?_; rintro e w1 ⟨sl, rfl, hk1, b1⟩; obtain ⟨a1, rfl⟩ := hk1.form; obtain ⟨g, rfl, hcell⟩ := hk1.at (j := 0) (by simp); have b2 := b1.alloc b1.size (.cells #[.int .i64 4, .int .i64 0, .string ⟨#[]⟩, .slice (some ⟨g, 0, none⟩) 1 1] 74); have c0 := (((Below.refl w1.heap.size w1).alloc (Nat.le_refl _) (.cells #[.int .i64 4, .int .i64 0, .string ⟨#[]⟩, .slice (some ⟨g, 0, none⟩) 1 1] 74)).cell (p := ⟨g, 0, none⟩) (World.block_lt_of_cell? w1 _ hcell)).trans hcell; simp only [List.getElem_cons_zero] at c0; have hA := At4.new w1 (.int .i64 4) (.int .i64 0) (.string ⟨#[]⟩) (.slice (some ⟨g, 0, none⟩) 1 1) 74; have hI' := hI _ b2; clear hcell hk1 htop')
          | (go_at_call 16; refine hI'.mono ?_; rintro e w2 ⟨rfl, b3⟩; have hA2 := hA.keepB b3 (by simp); obtain ⟨y0, y1, y2, y3⟩ := id hA2; have b4 := b2.trans (b3.mono b2.size); clear hI' hI c0))
        go_ret2
        exact ⟨rfl, b4⟩
      · have z0 : (ye == 0) = false := beq_eq_false_iff_ne.2 ye0
        have z1 : (ye != 0) = true := by simp [ye0]
        rw [if_pos ye0]
        clear ye0
        go_enter Try.func16, Try.ntmps16
        go_wp2_with (first
          | (go_at_call 26; refine htop'.mono ?_; rintro e w1 ⟨sl, rfl, hk1, b1⟩; obtain ⟨a1, rfl⟩ := hk1.form; obtain ⟨g, rfl, hcell⟩ := hk1.at (j := 0) (by simp); have b2 := b1.alloc b1.size (.cells #[.int .i64 4, .int .i64 0, .string ⟨#[]⟩, .slice (some ⟨g, 0, none⟩) 1 1] 74); have c0 := (((Below.refl w1.heap.size w1).alloc (Nat.le_refl _) (.cells #[.int .i64 4, .int .i64 0, .string ⟨#[]⟩, .slice (some ⟨g, 0, none⟩) 1 1] 74)).cell (p := ⟨g, 0, none⟩) (World.block_lt_of_cell? w1 _ hcell)).trans hcell; simp only [List.getElem_cons_zero] at c0; have hA := At4.new w1 (.int .i64 4) (.int .i64 0) (.string ⟨#[]⟩) (.slice (some ⟨g, 0, none⟩) 1 1) 74; have hI' := hI _ b2; clear hcell hk1 htop')
          | (go_at_call 16; refine hI'.mono ?_; rintro e w2 ⟨rfl, b3⟩; have hA2 := hA.keepB b3 (by simp); obtain ⟨y0, y1, y2, y3⟩ := id hA2; have b4 := b2.trans (b3.mono b2.size); clear hI' hI c0))
        go_ret2
        exact ⟨rfl, b4⟩
  · have hs2 : opr s = true ∧ sdC d p = true ∧ sdC d q = true := by
      rw [sdC_mk, if_neg (by omega), if_neg (by omega), if_neg (by omega), if_pos rfl] at hs
      simpa using hs
    obtain ⟨_, hsp, hsq⟩ := hs2
    have hI := fun w1 (b : Below w.heap.size w w1) => IH vs p vv w1 hp hsp (hv.below b (Nat.le_refl _)) hl
    have hbd := evC_bd vs d p hp hsp
    have hB := fun w1 (b : Below w.heap.size w w1) => bin_any IH vs s (evC vs d p).1 q vv w1 hq hsq hbd.1 hbd.2 (hv.below b (Nat.le_refl _)) hl
    have htop := top_bin s (exV d p) (exV d q) (ifc_ex p) (ifc_ex q) w
    obtain ⟨x, hx⟩ : ∃ x, exV (d + 1) (mkT 5 0 s [p, q]) = x := ⟨_, rfl⟩
    have htop' : Calls Try.prog 26 #[x] w fun e w' => ∃ sl, e = .returned (.agg #[.int .i64 5, .int .i64 0, .string s, sl]) ∧ Kids w' sl [exV d p, exV d q] ∧ Below w.heap.size w w' := by rw [← hx]; exact htop
    rw [hx]
    rw [evC_bn]
    obtain ⟨⟨y, ye⟩, hy⟩ : ∃ y, evC vs d p = y := ⟨_, rfl⟩
    obtain ⟨z, hz⟩ : ∃ z, exV d p = z := ⟨_, rfl⟩
    obtain ⟨z2, hz2⟩ : ∃ z, exV d q = z := ⟨_, rfl⟩
    rw [hy] at hbd ⊢
    simp only [hy, hz] at hI
    simp only [hy, hz2] at hB
    rw [hz, hz2] at htop'
    clear htop hx hs hc hv IH hy hz hz2 hp hsp hq hsq
    unfold pr2 at hI
    simp only at hI hbd ⊢
    obtain ⟨⟨r, re⟩, hr⟩ : ∃ r, bnC s y (evC vs d q) = r := ⟨_, rfl⟩
    simp only [hr] at hB
    rw [hr]
    clear hr
    unfold pr2 at hB
    simp only at hB
    by_cases ye0 : ye = 0
    · subst ye0
      rw [if_neg (by simp)]
      go_enter Try.func16, Try.ntmps16
      go_wp2_with (first
        | (go_at_call 26; refine htop'.mono ?_; rintro e w1 ⟨sl, rfl, hk1, b1⟩; obtain ⟨a1, rfl⟩ := hk1.form; obtain ⟨g, rfl, hcell⟩ := hk1.at (j := 0) (by simp); have hcell1 := hk1.cell1; have b2 := b1.alloc b1.size (.cells #[.int .i64 5, .int .i64 0, .string s, .slice (some ⟨g, 0, none⟩) 2 2] 74); have c0 := (((Below.refl w1.heap.size w1).alloc (Nat.le_refl _) (.cells #[.int .i64 5, .int .i64 0, .string s, .slice (some ⟨g, 0, none⟩) 2 2] 74)).cell (p := ⟨g, 0, none⟩) (World.block_lt_of_cell? w1 _ hcell)).trans hcell; simp only [List.getElem_cons_zero] at c0; have hA := At4.new w1 (.int .i64 5) (.int .i64 0) (.string s) (.slice (some ⟨g, 0, none⟩) 2 2) 74; have hI' := hI _ b2; clear hcell hk1 htop'; have c1 := (((Below.refl w1.heap.size w1).alloc (Nat.le_refl _) (.cells #[.int .i64 5, .int .i64 0, .string s, .slice (some ⟨g, 0, none⟩) 2 2] 74)).cell (p := ⟨g, 1, none⟩) (World.block_lt_of_cell? w1 _ hcell1)).trans hcell1; clear hcell1)
        | (go_at_call 16; refine hI'.mono ?_; rintro e w2 ⟨rfl, b3⟩; have hA2 := hA.keepB b3 (by simp); obtain ⟨y0, y1, y2, y3⟩ := id hA2; have b4 := b2.trans (b3.mono b2.size); have c2 := (b3.cell (p := ⟨g, 1, none⟩) (World.block_lt_of_cell? _ _ c1)).trans c1; clear hI' hI)
        | fail)
      have hB' := hB _ b4.drew
      go_region_held (fun w' => w'.cell? ⟨w1.heap.size, 2, none⟩ = some (.string s) ∧ w'.cell? ⟨w1.heap.size, 3, none⟩ = some (.slice (some ⟨g, 0, none⟩) 2 2) ∧ w'.cell? ⟨g, 1, none⟩ = some z2) (first | exact ⟨y2, y3, c2⟩ | exact ⟨d2, d3, d1⟩ | go_keep)
        (first
          | (go_at_call 29; refine hB'.mono ?_; rintro e w3 ⟨rfl, b5⟩; have b5' : Below w2.heap.size w2 w3 := ((Below.refl _ w2).drew).trans b5; have d2 := (b5'.cell (p := ⟨w1.heap.size, 2, none⟩) (World.block_lt_of_cell? _ _ y2)).trans y2; have d3 := (b5'.cell (p := ⟨w1.heap.size, 3, none⟩) (World.block_lt_of_cell? _ _ y3)).trans y3; have d1 := (b5'.cell (p := ⟨g, 1, none⟩) (World.block_lt_of_cell? _ _ c2)).trans c2))
      go_wp2
      go_ret2
      exact ⟨rfl, b4.trans (b5'.mono b4.size)⟩
    · have z0 : (ye == 0) = false := beq_eq_false_iff_ne.2 ye0
      have z1 : (ye != 0) = true := by simp [ye0]
      rw [if_pos ye0]
      clear ye0 hB
      go_enter Try.func16, Try.ntmps16
      go_wp2_with (first
        | (go_at_call 26; refine htop'.mono ?_; rintro e w1 ⟨sl, rfl, hk1, b1⟩; obtain ⟨a1, rfl⟩ := hk1.form; obtain ⟨g, rfl, hcell⟩ := hk1.at (j := 0) (by simp); have hcell1 := hk1.cell1; have b2 := b1.alloc b1.size (.cells #[.int .i64 5, .int .i64 0, .string s, .slice (some ⟨g, 0, none⟩) 2 2] 74); have c0 := (((Below.refl w1.heap.size w1).alloc (Nat.le_refl _) (.cells #[.int .i64 5, .int .i64 0, .string s, .slice (some ⟨g, 0, none⟩) 2 2] 74)).cell (p := ⟨g, 0, none⟩) (World.block_lt_of_cell? w1 _ hcell)).trans hcell; simp only [List.getElem_cons_zero] at c0; have hA := At4.new w1 (.int .i64 5) (.int .i64 0) (.string s) (.slice (some ⟨g, 0, none⟩) 2 2) 74; have hI' := hI _ b2; clear hcell hk1 htop'; have c1 := (((Below.refl w1.heap.size w1).alloc (Nat.le_refl _) (.cells #[.int .i64 5, .int .i64 0, .string s, .slice (some ⟨g, 0, none⟩) 2 2] 74)).cell (p := ⟨g, 1, none⟩) (World.block_lt_of_cell? w1 _ hcell1)).trans hcell1; clear hcell1)
        | (go_at_call 16; refine hI'.mono ?_; rintro e w2 ⟨rfl, b3⟩; have hA2 := hA.keepB b3 (by simp); obtain ⟨y0, y1, y2, y3⟩ := id hA2; have b4 := b2.trans (b3.mono b2.size); clear hI' hI))
      go_ret2
      exact ⟨rfl, b4⟩
  · unfold none0 at hs
    rw [sdC_mk] at hs
    simp at hs
theorem val_any : ∀ (d : Nat), ValC d
  | 0 => fun _ t => Empty.elim t
  | d + 1 => val_step d (val_any d)

theorem evalP : EvalP := by
  intro d t vs vv w hc hn hs hv hl
  have h1 := formedP d t w hc (by omega) hs
  unfold evX
  obtain ⟨x, hx⟩ : ∃ x, exV d t = x := ⟨_, rfl⟩
  by_cases hf : fmC d t = true
  · have hsd : sdC d t = true := by unfold fmC at hf; simp only [Bool.and_eq_true] at hf; exact hf.2
    have h2 := fun w1 (b : Below w.heap.size w w1) => val_any d vs t vv w1 hc hsd (hv.below b (Nat.le_refl _)) hl
    rw [if_pos hf]
    obtain ⟨⟨y, ye⟩, hy⟩ : ∃ y, evC vs d t = y := ⟨_, rfl⟩
    simp only [hy, hx] at h2
    rw [hf, hx] at h1
    rw [hy, hx]
    unfold pr2 at h2
    simp only at h2
    clear hc hn hs hv hf hsd hy hx
    go_enter Try.func8, Try.ntmps8
    go_wp2_with (first
      | (go_at_call 11; refine h1.mono ?_; rintro e w1 ⟨rfl, b1⟩; have h2' := h2 _ b1)
      | (go_at_call 16; refine h2'.mono ?_; rintro e w2 ⟨rfl, b2⟩))
    go_ret2
    exact ⟨rfl, bthen b1 b2⟩
  · have hf' : fmC d t = false := by simpa using hf
    rw [if_neg hf]
    rw [hf', hx] at h1
    rw [hx]
    clear hc hn hs hv hf hx hf'
    go_enter Try.func8, Try.ntmps8
    go_wp2_with (first
      | (go_at_call 11; refine h1.mono ?_; rintro e w1 ⟨rfl, b1⟩))
    go_ret2
    exact ⟨rfl, b1⟩

theorem look_err : ∀ (vs : List Vr) (s : ByteArray), (look vs s).2 ≠ 0 → (look vs s).1 = 0
  | [], s, _ => rfl
  | x :: r, s, h => by
    unfold look at h ⊢
    by_cases he : x.1 = s
    · rw [if_pos he] at h ⊢
      unfold wth at h ⊢
      split
      · rfl
      · rename_i hc
        rw [if_neg hc] at h
        exact absurd rfl h
    · rw [if_neg he] at h ⊢
      exact look_err r s h
theorem wth_err {n : Int} (h : (wth n).2 ≠ 0) : (wth n).1 = 0 := by
  unfold wth at h ⊢
  split
  · rfl
  · rename_i hc
    rw [if_neg hc] at h
    exact absurd rfl h
theorem bin_err {s : List UInt8} {x y : Int} (h : (bin s x y).2 ≠ 0) : (bin s x y).1 = 0 := by
  unfold bin at h ⊢
  split at h
  · rename_i h1; rw [if_pos h1]; exact wth_err h
  rename_i h1; rw [if_neg h1]
  split at h
  · rename_i h1; rw [if_pos h1]; exact wth_err h
  rename_i h1; rw [if_neg h1]
  split at h
  · rename_i h1; rw [if_pos h1]; exact wth_err h
  rename_i h1; rw [if_neg h1]
  split at h
  · exact absurd rfl h
  rename_i h1; rw [if_neg h1]
  split at h
  · exact absurd rfl h
  rename_i h1; rw [if_neg h1]
  split at h
  · exact absurd rfl h
  rename_i h1; rw [if_neg h1]
  split at h
  · exact absurd rfl h
  · exact absurd rfl h
theorem ev_err (vs : List Vr) : ∀ (d : Nat) (t : T d), Cl d t → sdC d t = true → (evC vs d t).2 ≠ 0 → (evC vs d t).1 = 0
  | 0, t, _, _, _ => Empty.elim t
  | d + 1, t, hc, hs, h => by
    rcases hc.cases with ⟨n, rfl⟩ | ⟨s, rfl⟩ | ⟨k, p, hk, rfl, hp⟩ | ⟨s, p, q, rfl, hp, hq⟩ | rfl
    · exact absurd rfl h
    · exact look_err vs s h
    · rcases hk with rfl | rfl
      · rw [evC_3] at h ⊢
        split at h
        · rename_i h1; rw [if_pos h1]
        · exact absurd rfl h
      · rw [evC_4] at h ⊢
        split at h
        · rename_i h1; rw [if_pos h1]
        · exact absurd rfl h
    · rw [evC_5] at h ⊢
      split at h
      · rename_i h1; rw [if_pos h1]
      rename_i h1; rw [if_neg h1]
      split at h
      · exact absurd rfl h
      rename_i h1; rw [if_neg h1]
      split at h
      · exact absurd rfl h
      rename_i h1; rw [if_neg h1]
      split at h
      · rename_i h1; rw [if_pos h1]
      · rename_i h1; rw [if_neg h1]; exact bin_err h
    · rw [show (none0 : T (d + 1)) = mkT 0 0 ⟨#[]⟩ [] from rfl, sdC_mk] at hs
      simp at hs
/-- Where there is code, it has the value. -/
theorem code_run (vs : List Vr) {d : Nat} {t : T d} (hc : Cl d t) (he : (cdE vs d t).2 = 0) : runI (vs.map (·.2)) (cdE vs d t).1 = evX vs d t ∧ (cdE vs d t).1.length ≤ 80 := by
  unfold cdE at he ⊢
  unfold evX
  by_cases hf : fmC d t = true
  · rw [if_pos hf] at he ⊢
    rw [if_pos hf]
    by_cases ha : (rfT d t).all (fun s => decide (0 ≤ vix s vs 0)) = true
    · rw [if_pos ha]
      have hsd : sdC d t = true := by unfold fmC at hf; simp only [Bool.and_eq_true] at hf; exact hf.2
      have hcn : cnt d t ≤ 40 := by
        have h2 : ndC d t ≤ 40 := by
          unfold fmC at hf
          simp only [Bool.and_eq_true, decide_eq_true_eq] at hf
          exact hf.1.1
        have e := ndC_cnt d t
        omega
      have hlen := cdC_len vs d t hc
      have hn : ∀ s ∈ nmC d t, 0 ≤ vix s vs 0 := fun s hs => by
        have h1 := nm_rf hs
        unfold rfT at ha
        rw [if_pos hf] at ha
        exact of_decide_eq_true (List.all_eq_true.1 ha s h1)
      exact ⟨run_code vs hc hsd hn (by omega) (ev_err vs d t hc hsd), by show (cdC vs d t).length ≤ 80; omega⟩
    · rw [if_neg ha] at he
      simp at he
  · rw [if_neg hf] at he
    simp at he
theorem code_none (vs : List Vr) {d : Nat} {t : T d} (he : (cdE vs d t).2 ≠ 0) : (cdE vs d t).1 = [] := by
  unfold cdE at he ⊢
  split
  · rename_i hf
    rw [if_pos hf] at he
    split
    · rename_i ha
      rw [if_pos ha] at he
      exact absurd rfl he
    · rfl
  · rfl
theorem ownI_rd {w : World} {base : Nat} {e : TypeId} {v : Value} {l : List Ins} (h : OwnI w base e v l) : RdK (fun _ => True) w 2 rIns l v := by
  obtain ⟨a, c, rfl, h1, h2⟩ := h.form
  refine ⟨a, c, rfl, h1, h2, fun i hi => ?_⟩
  obtain ⟨g, rfl, hg, k0, k1⟩ := h.at i hi
  refine ⟨g, 0, [.string (l[i]).1, .int .i64 (l[i]).2], rfl, trivial, hg, rfl, rfl, fun j u hj => ?_⟩
  rw [Nat.zero_add]
  match j, hj with
  | 0, hj => obtain rfl := Option.some.inj hj; exact k0
  | 1, hj => obtain rfl := Option.some.inj hj; exact k1
theorem own64_rd {w : World} {base n : Nat} {v : Value} {l : List Int} (h : w.ownsRow base 2 1 v n (l.map (Value.int .i64))) : RdK (fun _ => True) w 1 rI64 l v := by
  have hl : l.length = n := by simpa using h.1
  subst hl
  have hc := fun g => World.ownsRow.cells h (g := g)
  rcases h.2 with ⟨rfl, h2⟩ | ⟨g, cap, cur, rfl, hb, hg, hnc, hcm, hcs, htake⟩
  · have : l = [] := List.eq_nil_of_length_eq_zero h2
    subst this
    exact rdK_none _ _ _ _
  · refine ⟨_, _, rfl, hnc, hcm, fun i hi => ?_⟩
    refine ⟨g, 0, [.int .i64 l[i]], rfl, trivial, (Array.getElem?_eq_some_iff.1 hg).1, rfl, rfl, fun j u hj => ?_⟩
    have hj0 : j = 0 := by
      have := (List.getElem?_eq_some_iff.1 hj).1
      simpa using this
    subst hj0
    obtain rfl := Option.some.inj hj
    have := hc g rfl i (.int .i64 l[i]) (by simp [hi])
    rw [add_plain] at this
    simpa using this
set_option maxRecDepth 100000 in
set_option maxHeartbeats 8000000 in
theorem interpEvals_walk {w : World} {d : Nat} {t : T d} {v vv : Value} {vs : List Vr} (h : RdT (fun _ => True) w d t v) (hv : RdV w vv vs) :
    Calls Try.prog 3 #[v, vv] w fun e w' => e = .returned (.bool true) ∧ Below w.heap.size w w' := by
  match d, t, h with
  | 0, t, _ => exact Empty.elim t
  | d + 1, t, h =>
  obtain ⟨k, n, s, ps, rfl⟩ := T.open t
  have h0 := h
  obtain ⟨sl, rfl, hp⟩ := rdT_mk.1 h
  obtain ⟨sa, scap, rfl, _⟩ := hp
  clear h
  obtain ⟨sn, hsn⟩ : ∃ sn, ps.length = sn := ⟨_, rfl⟩
  rw [hsn] at h0 ⊢
  have hal : Below w.heap.size w (w.alloc (.cells #[.int .i64 k, .int .i64 n, .string s, .slice sa sn scap] 24)) := (Below.refl w.heap.size w).alloc (Nat.le_refl _) _
  have hX : Bn (w.alloc (.cells #[.int .i64 k, .int .i64 n, .string s, .slice sa sn scap] 24)) w.heap.size [.int .i64 k, .int .i64 n, .string s, .slice sa sn scap] := Bn.new w [.int .i64 k, .int .i64 n, .string s, .slice sa sn scap] 24 _ rfl
  have h1 := fun w1 => awake13_any w1
  have h2 := fun w1 (b : Below w.heap.size w w1) => refSmallTop_any (RdT.below b (Nat.le_refl _) h0)
  obtain ⟨va, vcap, rfl, hvc, hvm, hvcell⟩ := hv.form
  obtain ⟨vn, hvn⟩ : ∃ vn, vs.length = vn := ⟨_, rfl⟩
  have HV := hideI hv
  have HC := hideI hvcell
  have HN := hideI hvn
  rw [hvn] at hvc HV ⊢
  clear hvcell hvn hsn hv
  by_cases hsm : 0 ≤ sml (d + 1) (mkT k n s ps) 0 200
  case neg =>
    simp only [decide_eq_false hsm] at h2
    clear hsm
    go_enter Try.func3, Try.ntmps3
    go_upto_region 1 with fail
    generalize (w.alloc (.cells #[.int .i64 k, .int .i64 n, .string s, .slice sa sn scap] 24)) = wx at *
    go_wp2_with (first
      | (go_at_call 5; refine h2'.mono ?_; rintro e w2 ⟨rfl, b2⟩; have hb2 := hb1.trans (b2.mono hb1.size))
      | (go_at_call 4; refine (h1 w2).mono ?_; rintro e w3 ⟨rfl, b3⟩)
      | (go_at_call 4; refine (h1 wx).mono ?_; rintro e w1 ⟨rfl, b1⟩; have hb1 := hal.trans (b1.mono hal.size); have h2' := h2 w1 hb1; have hX1 := hX.on b1; obtain ⟨z0, _⟩ := hX1 0 _ rfl; obtain ⟨z1, _⟩ := hX1 1 _ rfl; obtain ⟨z2, _⟩ := hX1 2 _ rfl; obtain ⟨z3, _⟩ := hX1 3 _ rfl)
      | fail)
    go_ret
    exact ⟨rfl, hb2.trans (b3.mono hb2.size)⟩
  simp only [decide_eq_true hsm] at h2
  obtain ⟨hc1, hc2⟩ := small_cln hsm
  have hcl := cl_cln (d + 1) (mkT k n s ps)
  by_cases hv100 : vn ≤ 100
  case neg =>
    have i0 : (vn : Int) > 100 := by omega
    clear hsm hc1 hc2 hcl
    go_enter Try.func3, Try.ntmps3
    go_upto_region 1 with fail
    generalize (w.alloc (.cells #[.int .i64 k, .int .i64 n, .string s, .slice sa sn scap] 24)) = wx at *
    go_wp2_with (first
      | (go_at_call 5; refine h2'.mono ?_; rintro e w2 ⟨rfl, b2⟩; have hb2 := hb1.trans (b2.mono hb1.size))
      | (go_at_call 4; refine (h1 w2).mono ?_; rintro e w3 ⟨rfl, b3⟩)
      | (go_at_call 4; refine (h1 wx).mono ?_; rintro e w1 ⟨rfl, b1⟩; have hb1 := hal.trans (b1.mono hal.size); have h2' := h2 w1 hb1; have hX1 := hX.on b1; obtain ⟨z0, _⟩ := hX1 0 _ rfl; obtain ⟨z1, _⟩ := hX1 1 _ rfl; obtain ⟨z2, _⟩ := hX1 2 _ rfl; obtain ⟨z3, _⟩ := hX1 3 _ rfl)
      | fail)
    go_ret
    exact ⟨rfl, hb2.trans (b3.mono hb2.size)⟩
  have i0 : ¬ (vn : Int) > 100 := by omega
  have hvl : vs.length ≤ 10000 := by rw [HN.out]; omega
  have h5 := fun w1 (b : Below w.heap.size w w1) => theirs_any (d + 1) _ _ _ w1 (RdT.below b (Nat.le_refl _) h0)
  have h6 := fun w1 (b : Below w.heap.size w w1) => codeP_any (w := w1) (d := d + 2) (t := cln (d + 1) (mkT k n s ps)) (vs := vs) hcl (Nat.le_trans hc1 (by omega)) hc2 (HV.out.below b (Nat.le_refl _)) hvl
  have h7 := fun w1 (b : Below w.heap.size w w1) => evalP (d + 2) (cln (d + 1) (mkT k n s ps)) vs _ w1 hcl (Nat.le_trans hc1 (by omega)) hc2 (HV.out.below b (Nat.le_refl _)) hvl
  have hrun := code_run vs hcl
  have hnon := code_none vs (t := cln (d + 1) (mkT k n s ps))
  rw [exV_cln] at h6 h7
  obtain ⟨ex, hex⟩ : ∃ ex, exV (d + 1) (mkT k n s ps) = ex := ⟨_, rfl⟩
  simp only [hex] at h5 h6 h7
  obtain ⟨E, hE⟩ : ∃ E, cdE vs (d + 2) (cln (d + 1) (mkT k n s ps)) = E := ⟨_, rfl⟩
  obtain ⟨V, hV⟩ : ∃ V, evX vs (d + 2) (cln (d + 1) (mkT k n s ps)) = V := ⟨_, rfl⟩
  simp only [hE] at h6 hrun hnon
  simp only [hV] at h7 hrun
  obtain ⟨E1, E2⟩ := E
  obtain ⟨V1, V2⟩ := V
  simp only [] at h6 h7 hrun hnon
  have HR := hideI hrun
  have HO := hideI hnon
  clear hE hV hex hsm hrun hnon hc1 hc2 hcl
  obtain ⟨i64i, hi, hz0, hz1, hz2⟩ := i64_inf
  go_enter Try.func3, Try.ntmps3
  go_upto_region 1 with fail
  generalize (w.alloc (.cells #[.int .i64 k, .int .i64 n, .string s, .slice sa sn scap] 24)) = wx at *
  go_upto_region 4 with (first
    | (go_at_call 5; refine h2'.mono ?_; rintro e w2 ⟨rfl, b2⟩; have hb2 := hb1.trans (b2.mono hb1.size); have hX2 := hX1.on b2)
    | (go_at_call 4; refine (h1 wx).mono ?_; rintro e w1 ⟨rfl, b1⟩; have hb1 := hal.trans (b1.mono hal.size); have h2' := h2 w1 hb1; have hX1 := hX.on b1; obtain ⟨z0, _⟩ := hX1 0 _ rfl; obtain ⟨z1, _⟩ := hX1 1 _ rfl; obtain ⟨z2, _⟩ := hX1 2 _ rfl; obtain ⟨z3, _⟩ := hX1 3 _ rfl)
    | fail)
  clear z0 z1 z2 z3 hX1 b1 b2 hb1 hX hal h2' h1 h2
  go_wp2
  go_loopw [5, 28] (fun t ix wr => ∃ (j : Nat), j ≤ vn ∧ ix = .int .i64 (j : Int) ∧ Hid (wr.ownsRow w2.heap.size 2 1 t j (((vs.take j).map (·.2)).map (Value.int .i64))) ∧ Below w2.heap.size w2 wr) (fun _ ix _ => vn - (RowKit.intOf ix).toNat)
  case atStart => exact ⟨0, Nat.zero_le _, rfl, World.ownsRow_nil _ _ _ _, Below.refl _ _⟩
  case round =>
    obtain ⟨j, hj, rfl, hO, hb⟩ := hrel
    have hbw := hb2.trans (hb.mono hb2.size)
    by_cases hlt : j < vn
    · have hjl : j < vs.length := by rw [HN.out]; exact hlt
      obtain ⟨b, off, rfl, hbl, k0, kk1⟩ := HC.out j hjl
      have C0 := (hbw.cell (p := ⟨b, off + j * 2, none⟩) hbl).trans k0
      have C1 := (hbw.cell (p := ⟨b, off + j * 2 + 1, none⟩) hbl).trans kk1
      obtain ⟨x, hx⟩ : ∃ x, (vs[j]).1 = x := ⟨_, rfl⟩
      obtain ⟨y, hy⟩ : ∃ x, (vs[j]).2 = x := ⟨_, rfl⟩
      rw [hx] at C0
      rw [hy] at C1
      have i1 : (j : Int) < (vn : Int) := by omega
      have i2 : (0 : Int) ≤ (j : Int) := by omega
      have HT : Hid (((vs.take (j + 1)).map (·.2)).map (Value.int .i64) = ((vs.take j).map (·.2)).map (Value.int .i64) ++ [Value.int .i64 y]) := by
        show _ = _
        rw [List.take_succ_eq_append_getElem hjl, List.map_append, List.map_append, List.map_singleton, List.map_singleton, hy]
      clear k0 kk1 hx hy
      by_cases hbig : (x.size : Int) > 1000
      · go_wp2
        go_ret
        exact ⟨rfl, hbw⟩
      · have ho2 := World.ownsRow.alloc hO.out (.cells #[.int .i64 y] 2)
        have hsrc := src_int wr y _ rfl
        obtain ⟨ta, tc, rfl, _, _⟩ := orow_form hO.out
        have hs1 := hb.size
        go_wp2_with (first
          | (at_builtin; refine wpList_append_at _ rfl _ _ 28 28 rfl w2.heap.size 2 i64i (.int .i64 0) 1 8 Try.underlying28 hi hz0 hz1 hz2 rfl (.slice ta j tc) j _ rfl ho2 _ _ _ rfl hsrc 1 (.inr (by omega)) (Nat.le_refl _) (by unfold maxLen; omega) (by simp; omega) ?_; intro vb wb hOb hgb hat; clear ho2 hsrc)
          | fail)
        have hbb : Below w2.heap.size w2 wb := (hb.alloc hs1 (.cells #[.int .i64 y] 2)).grown hgb (by simp; omega) (fun k hk => (World.ownsRow.lt hO.out k hk).1)
        go_roundw
        case rel =>
          refine ⟨j + 1, hlt, by go_num, ?_, hbb⟩
          show World.ownsRow _ _ _ _ _ _ _
          rw [HT.out]
          exact hOb
        case measure => simp [RowKit.intOf]; omega
    · have i1 : ¬ (j : Int) < (vn : Int) := by omega
      have hjn : j = vn := by omega
      subst hjn
      have hT := hO.out
      rw [List.take_of_length_le (by rw [HN.out]; exact Nat.le_refl _)] at hT
      obtain ⟨ta, tc, rfl, _, _⟩ := orow_form hT
      have hX3 := hX2.on hb
      obtain ⟨z0, _⟩ := hX3 0 _ rfl
      obtain ⟨z1, _⟩ := hX3 1 _ rfl
      obtain ⟨z2, _⟩ := hX3 2 _ rfl
      obtain ⟨z3, _⟩ := hX3 3 _ rfl
      have s5 := h5 _ hbw
      have HRD := hideI (own64_rd hT)
      clear HC hO hT
      go_upto_region 12 with (first
        | (go_at_call 7; refine s5.mono ?_; rintro e w3 ⟨rfl, b3⟩; have hb3 := hbw.trans (b3.mono hbw.size); have s6 := h6 _ hb3)
        | (go_at_call 6; refine s6.mono ?_; rintro e w4 ⟨ca, cn, cc, rfl, hoC, b4⟩)
        | fail)
      have hb4 := hb3.trans (b4.mono hb3.size)
      have hX5 := (hX3.on b3).on b4
      have hRD4 : RdK (fun _ => True) w4 1 rI64 (vs.map (·.2)) (.slice ta j tc) := (HRD.out.keep (ok' := fun _ => True) (fun _ _ _ h => h) (fun b _ hl => ⟨trivial, b3.block b hl⟩)).keep (fun _ _ _ h => h) (fun b _ hl => ⟨trivial, b4.block b hl⟩)
      clear z0 z1 z2 z3 s5 s6 h6 b3 hb3 hX3 HRD
      obtain ⟨_, _, he, hcl1, hcl2⟩ := hoC.form
      simp only [Value.slice.injEq] at he
      obtain ⟨rfl, hcn, rfl⟩ := he
      obtain ⟨z0, _⟩ := hX5 0 _ rfl
      obtain ⟨z1, _⟩ := hX5 1 _ rfl
      obtain ⟨z2, _⟩ := hX5 2 _ rfl
      obtain ⟨z3, _⟩ := hX5 3 _ rfl
      have hcn2 := hideI hcn
      by_cases he : E2 = 0
      · subst he
        obtain ⟨r1, r2⟩ := HR.out rfl
        have s5 := h5 _ hb4
        have hcode := ownI_rd hoC
        clear hcn hcl1 hcl2
        have HCO := hideI hcode
        have HRD := hideI hRD4
        clear hoC hcode hRD4
        go_upto_region 15 with (first
          | (go_at_call 7; refine s5.mono ?_; rintro e w5 ⟨rfl, b5⟩; have hb5 := hb4.trans (b5.mono hb4.size); have s7 := h7 _ hb5)
          | (go_at_call 8; refine s7.mono ?_; rintro e w6 ⟨rfl, b6⟩; have hb6 := hb5.trans (b6.mono hb5.size))
          | fail)
        have b56 := b5.trans (b6.mono b5.size)
        have k1 : RdK (fun _ => True) w6 2 rIns E1 (.slice ca cn cc) := HCO.out.keep (fun _ _ _ h => h) (fun b _ hl => ⟨trivial, b56.block b hl⟩)
        have k2 : RdK (fun _ => True) w6 1 rI64 (vs.map (·.2)) (.slice ta j tc) := HRD.out.keep (fun _ _ _ h => h) (fun b _ hl => ⟨trivial, b56.block b hl⟩)
        have s8 := irun_any k1 k2 (by omega)
        rw [r1] at s8
        simp only at s8
        clear HCO HRD k1 k2 s5 s7 h7 h5 z0 z1 z2 z3 r1 hcn2
        go_wp2_with (first
          | (go_at_call 9; refine s8.mono ?_; rintro e w7 ⟨rfl, b7⟩)
          | fail)
        go_ret
        exact ⟨rfl, hb6.trans (b7.mono hb6.size)⟩
      · have hnil := HO.out he
        rw [hnil] at hcn
        simp only [List.length_nil] at hcn
        subst hcn
        clear hcn2 hoC h5 h7
        go_wp2
        go_ret
        exact ⟨rfl, hb4⟩
end Go.Proofs.Ytpdkmbifibkepaa

/- An argument that is a slice of bytes, opened: the bytes that it reads as, each from 0 to 255, and their number within the form's reach. -/
namespace Go.Proofs.Ytpdkmbifibkepaa
open Go.ChangeShapes Go.WideShapes Go.ChangeAt Go.RowKit

end Go.Proofs.Ytpdkmbifibkepaa

/- Arguments that are trees of nodes, or lists of variables, opened. -/
namespace Go.Proofs.Ytpdkmbifibkepaa
open Go.ChangeShapes Go.WideShapes Go.ChangeAt Go.RowKit
set_option linter.unusedSimpArgs false
set_option linter.unusedVariables false

theorem half2 (g : Nat) : (g + 2) / 2 = g / 2 + 1 := by omega
theorem pick {α : Type} {p : Nat → α → Prop} : ∀ (n : Nat), (∀ i, i < n → ∃ a, p i a) → ∃ l : List α, l.length = n ∧ ∀ (i : Nat) (h : i < l.length), p i l[i]
  | 0, _ => ⟨[], rfl, fun i h => absurd h (by simp)⟩
  | n + 1, H => by
    obtain ⟨l, hl, hp⟩ := pick n (fun i hi => H i (by omega))
    obtain ⟨a, ha⟩ := H n (by omega)
    refine ⟨l ++ [a], by simp [hl], fun i h => ?_⟩
    rcases Nat.lt_or_ge i l.length with hi | hi
    · rw [List.getElem_append_left hi]; exact hp i hi
    · have : i = n := by simp at h; omega
      subst this
      have e : (l ++ [a])[i]'h = a := by simp [← hl]
      rw [e]; exact ha
set_option maxRecDepth 100000 in
theorem open_node {H : Type} {enc : TypeId × Value → H} {W : World} : ∀ (m fuel : Nat), fuel ≤ m → ∀ {cs : List Value} {x : DataW H × List MemPlace}, DataW.trod enc Try.prog W 0 (fun _ => true) true fuel 24 cs = some x →
    ∃ (d : Nat) (t : T d) (c0 c1 c2 c3 : Value), d = fuel / 2 ∧ cs = [c0, c1, c2, c3] ∧ RdT (fun _ => True) W d t (.agg #[c0, c1, c2, c3])
  | 0, fuel, hf, cs, x, h => by
    obtain rfl : fuel = 0 := by omega
    simp [DataW.trod] at h
  | m + 1, fuel, hf, cs, x, h => by
    obtain ⟨xs, n, rfl, rfl, hl, hlen, hfd⟩ := DataW.trod_struct Try.underlying24 h
    have hc : Try.prog.cellsOf 24 = 4 := by kernel_rfl
    have cI : Try.prog.cellsOf 3 = 1 := by kernel_rfl
    have cL : Try.prog.cellsOf 2 = 1 := by kernel_rfl
    have c9 : Try.prog.cellsOf 9 = 1 := by kernel_rfl
    have cP : Try.prog.cellsOf 22 = 1 := by kernel_rfl
    rw [hc] at hl
    have f0 : DataW.trod enc Try.prog W 0 (fun _ => true) true n 3 ((cs.drop 0).take (Try.prog.cellsOf 3)) = xs[0]? := hfd 0 _ rfl
    have f1 : DataW.trod enc Try.prog W 0 (fun _ => true) true n 2 ((cs.drop 1).take (Try.prog.cellsOf 2)) = xs[1]? := hfd 1 _ rfl
    have f2 : DataW.trod enc Try.prog W 0 (fun _ => true) true n 9 ((cs.drop 2).take (Try.prog.cellsOf 9)) = xs[2]? := hfd 2 _ rfl
    have f3 : DataW.trod enc Try.prog W 0 (fun _ => true) true n 22 ((cs.drop 3).take (Try.prog.cellsOf 22)) = xs[3]? := hfd 3 _ rfl
    rw [cI] at f0
    rw [cL] at f1
    rw [c9] at f2
    rw [cP] at f3
    match cs, hl, xs, hlen with
    | [a, b, c, e], _, [y0, y1, y2, y3], _ =>
      simp only [List.drop_zero, List.take_succ_cons, List.take_zero, List.drop_succ_cons, List.getElem?_cons_zero, List.getElem?_cons_succ] at f0 f1 f2 f3
      obtain ⟨k, e0, rfl, _⟩ := DataW.trod_int Try.underlying3 f0
      obtain ⟨nn, e1, rfl, _⟩ := DataW.trod_int Try.underlying2 f1
      obtain ⟨s, e2, rfl, _⟩ := DataW.trod_string Try.underlying9 f2
      simp only [List.cons.injEq, and_true] at e0 e1 e2
      subst e0 e1 e2
      obtain ⟨g, rfl⟩ : ∃ g, n = g + 1 := by
        cases n with
        | zero => simp [DataW.trod] at f3
        | succ g => exact ⟨g, rfl⟩
      rcases DataW.trod_slice Try.underlying22 f3 with ⟨hcs, _⟩ | ⟨ad, len, cap, elems, rest, n', hn', hcs, _, _, hlc, hcm, hel, helt, _, _⟩
      · simp only [List.cons.injEq, and_true] at hcs
        subst hcs
        refine ⟨g / 2 + 1, mkT k nn s [], _, _, _, _, (half2 g).symm, rfl, rdT_mk.2 ⟨_, rfl, none, 0, rfl, by simp, by simp [maxLen], fun _ => rfl, fun x hx => by cases hx⟩⟩
      · obtain rfl : n' = g := by omega
        simp only [List.cons.injEq, and_true] at hcs
        subst hcs
        rw [hc] at helt
        have hall : ∀ i, i < len → ∃ q : T (n' / 2) × Value × Value × Value × Value, W.cells? 0 (ad.add (i * 4)) 4 = some [q.2.1, q.2.2.1, q.2.2.2.1, q.2.2.2.2] ∧ RdT (fun _ => True) W (n' / 2) q.1 (.agg #[q.2.1, q.2.2.1, q.2.2.2.1, q.2.2.2.2]) := by
          intro i hi
          have h1 := helt i hi
          rw [List.getElem?_eq_getElem (by omega)] at h1
          obtain ⟨cs', h2, h3⟩ := Option.bind_eq_some_iff.1 h1
          obtain ⟨d, t, c0, c1, c2, c3, rfl, rfl, hr⟩ := open_node m n' (by omega) h3
          exact ⟨(t, c0, c1, c2, c3), h2, hr⟩
        obtain ⟨l, hll, hfy⟩ := pick len hall
        refine ⟨n' / 2 + 1, mkT k nn s (l.map (fun q => q.1)), _, _, _, _, (half2 n').symm, rfl, rdT_mk.2 ⟨_, rfl, some ad, cap, by simp [hll], by simpa [hll] using hlc, hcm, by simp, ?_⟩⟩
        intro z hz i hi
        obtain rfl := Option.some.inj hz
        have hi' : i < l.length := by simpa using hi
        obtain ⟨g1, g2⟩ := hfy i hi'
        obtain ⟨_, _, hcell⟩ := World.cells?_some g1
        have k0 := hcell 0 (by omega)
        have k1 := hcell 1 (by omega)
        have k2 := hcell 2 (by omega)
        have k3 := hcell 3 (by omega)
        rw [Go.Deep.add_add] at k0 k1 k2 k3
        simp only [Nat.add_zero] at k0
        refine ⟨trivial, (l[i]).2.1, (l[i]).2.2.1, (l[i]).2.2.2.1, (l[i]).2.2.2.2, ?_, by simpa using k0, by simpa using k1, by simpa using k2, by simpa using k3⟩
        simp only [List.getElem_map]
        exact g2

/-- A tree that came in. -/
theorem open_tree {H : Type} {enc : TypeId × Value → H} {W : World} {v : Value} {x : DataW H} {p : List MemPlace} (hv : ∃ cs, v = .agg cs)
    (h : DataW.Trod enc Try.prog W 0 (fun _ => true) true 24 v x p) : ∃ (d : Nat) (t : T d), RdT (fun _ => True) W d t v := by
  obtain ⟨cs, rfl⟩ := hv
  obtain ⟨fuel, hf⟩ := h
  obtain ⟨d, t, c0, c1, c2, c3, _, hcs, hr⟩ := open_node fuel fuel (Nat.le_refl _) hf
  refine ⟨d, t, ?_⟩
  have e : cs = #[c0, c1, c2, c3] := by
    have : cs.toList = [c0, c1, c2, c3] := hcs
    exact Array.toList_inj.1 (by rw [this])
  rw [e]
  exact hr
set_option maxRecDepth 100000 in
theorem open_var {H : Type} {enc : TypeId × Value → H} {W : World} {fuel : Nat} {cs : List Value} {x : DataW H × List MemPlace}
    (h : DataW.trod enc Try.prog W 0 (fun _ => true) true fuel 30 cs = some x) : ∃ y : Vr, cs = [.string y.1, .int .i64 y.2] := by
  obtain ⟨xs, n, _, rfl, hl, hlen, hf⟩ := DataW.trod_struct Try.underlying30 h
  have hc : Try.prog.cellsOf 30 = 2 := by kernel_rfl
  have cL : Try.prog.cellsOf 2 = 1 := by kernel_rfl
  have c9 : Try.prog.cellsOf 9 = 1 := by kernel_rfl
  rw [hc] at hl
  have f0 : DataW.trod enc Try.prog W 0 (fun _ => true) true n 9 ((cs.drop 0).take (Try.prog.cellsOf 9)) = xs[0]? := hf 0 _ rfl
  have f1 : DataW.trod enc Try.prog W 0 (fun _ => true) true n 2 ((cs.drop 1).take (Try.prog.cellsOf 2)) = xs[1]? := hf 1 _ rfl
  rw [c9] at f0
  rw [cL] at f1
  match cs, hl, xs, hlen with
  | [a, b], _, [y0, y1], _ =>
    simp only [List.drop_zero, List.take_succ_cons, List.take_zero, List.drop_succ_cons, List.getElem?_cons_zero, List.getElem?_cons_succ] at f0 f1
    obtain ⟨s, e0, rfl, _⟩ := DataW.trod_string Try.underlying9 f0
    obtain ⟨n, e1, rfl, _⟩ := DataW.trod_int Try.underlying2 f1
    simp only [List.cons.injEq, and_true] at e0 e1
    subst e0 e1
    exact ⟨(s, n), rfl⟩
theorem open_vars {H : Type} {enc : TypeId × Value → H} {W : World} {a : Option Addr} {len cap : Nat} {d : DataW H} {p : List MemPlace}
    (h : DataW.Trod enc Try.prog W 0 (fun _ => true) true 25 (.slice a len cap) d p) : ∃ vs, RdV W (.slice a len cap) vs := by
  obtain ⟨fuel, hf⟩ := h
  have hc : Try.prog.cellsOf 30 = 2 := by kernel_rfl
  rcases Go.Deep.open_slice Try.underlying25 hf with ⟨hcs, hx⟩ | ⟨x, l, c, m, n, D, Pl, hcs, _, hl, hm, hmc, hx, hel⟩
  · simp [Value.cells] at hcs
    obtain ⟨rfl, rfl, rfl⟩ := hcs
    exact ⟨[], none, 0, rfl, by simp, by simp [maxLen], fun _ => rfl, fun x hx => by cases hx⟩
  · simp [Value.cells] at hcs
    obtain ⟨rfl, rfl, rfl⟩ := hcs
    have hmc' : m = cap := by simpa using hmc
    rw [hc] at hel
    have hall : ∀ i, i < len → ∃ y : Vr, W.cells? 0 (x.add (i * 2)) 2 = some [.string y.1, .int .i64 y.2] := by
      intro i hi
      obtain ⟨cs', h1, h2⟩ := hel i (by omega)
      obtain ⟨y, rfl⟩ := open_var h2
      exact ⟨y, h1⟩
    obtain ⟨f, hfy⟩ := Go.Deep.choose_lt (α := Vr) hall
    refine ⟨(List.range len).map f, some x, cap, by simp, by simp; omega, hm, by simp, ?_⟩
    intro z hz i hi
    obtain rfl := Option.some.inj hz
    have hi' : i < len := by simpa using hi
    obtain ⟨_, _, hcell⟩ := World.cells?_some (hfy i hi')
    have k0 := hcell 0 (by omega)
    have k1 := hcell 1 (by omega)
    rw [Go.Deep.add_add] at k0 k1
    simp only [List.getElem_map, List.getElem_range]
    simp only [Nat.add_zero] at k0
    exact ⟨by simpa using k0, by simpa using k1⟩
end Go.Proofs.Ytpdkmbifibkepaa
