import Derived.Test.YtpdkmbifibkepaaXdc02
import Derived.WalkSmall
import Derived.BigQuiet
import Derived.Deep.QuietTactic
import Derived.Deep.Cut
import Derived.Deep.DeepCutAuto
import Derived.Deep.RegionHeldLaw
import Derived.WalkKit

/- The program's machine: worked, one, two, jump. -/
namespace Go.Proofs.Ytpdkmbifibkepaa
open Go.RowKit Go.Lib
set_option linter.unusedSimpArgs false
set_option linter.unusedVariables false
attribute [local go_sem ↓] Go.wp_at_zero Go.wp_at_succ

set_option maxHeartbeats 4000000 in
theorem iworked_any (s : ByteArray) (x y : Int) (hx : -1000000000 ≤ x ∧ x ≤ 1000000000) (hy : -1000000000 ≤ y ∧ y ≤ 1000000000) (w : World) :
    Calls Try.prog 45 #[.string s, .int .i64 x, .int .i64 y] w fun e w' => e = .returned (.int .i64 (wkI s.data.toList x y)) ∧ w = w' := by
  obtain ⟨m1, m2⟩ := imul_bd hx hy
  obtain ⟨x1, x2⟩ := hx
  obtain ⟨y1, y2⟩ := hy
  have ht := fun b w1 => itruth_any b w1
  have hS := istr s
  obtain ⟨l, hl⟩ : ∃ l, s.data.toList = l := ⟨_, rfl⟩
  simp only [hl] at hS ⊢
  clear hl
  have q0 := hS [43]
  have q1 := hS [45]
  have q2 := hS [42]
  have q3 := hS [60]
  have q4 := hS [60, 61]
  have q5 := hS [61, 61]
  clear hS
  unfold wkI
  by_cases r0 : l = [43]
  · rw [if_pos r0]; rw [r0] at q0; clear q1 q2 q3 q4 q5 ht r0; replace q0 : (s.toList == [43]) = true := q0.trans (by decide); go_enter Try.func45, Try.ntmps45; go_wp2; go_ret; exact ⟨by go_num, rfl⟩
  rw [if_neg r0]; replace q0 : (s.toList == [43]) = false := q0.trans (beq_eq_false_iff_ne.2 r0); clear r0
  by_cases r0 : l = [45]
  · rw [if_pos r0]; rw [r0] at q1; clear q2 q3 q4 q5 ht r0; replace q1 : (s.toList == [45]) = true := q1.trans (by decide); go_enter Try.func45, Try.ntmps45; go_wp2; go_ret; exact ⟨by go_num, rfl⟩
  rw [if_neg r0]; replace q1 : (s.toList == [45]) = false := q1.trans (beq_eq_false_iff_ne.2 r0); clear r0
  by_cases r0 : l = [42]
  · rw [if_pos r0]; rw [r0] at q2; clear q3 q4 q5 ht r0; replace q2 : (s.toList == [42]) = true := q2.trans (by decide); go_enter Try.func45, Try.ntmps45; go_wp2; go_ret; exact ⟨by go_num, rfl⟩
  rw [if_neg r0]; replace q2 : (s.toList == [42]) = false := q2.trans (beq_eq_false_iff_ne.2 r0); clear r0 m1 m2
  by_cases r0 : l = [60]
  · rw [if_pos r0]; rw [r0] at q3; clear q4 q5 r0; replace q3 : (s.toList == [60]) = true := q3.trans (by decide)
    have ht := ht (decide (x < y))
    go_enter Try.func45, Try.ntmps45
    go_wp2_with (first | (go_at_call 44; refine (ht _).mono ?_; rintro e w1 ⟨rfl, rfl⟩) | fail)
    go_ret; exact ⟨rfl, rfl⟩
  rw [if_neg r0]; replace q3 : (s.toList == [60]) = false := q3.trans (beq_eq_false_iff_ne.2 r0); clear r0
  by_cases r0 : l = [60, 61]
  · rw [if_pos r0]; rw [r0] at q4; clear q5 r0; replace q4 : (s.toList == [60, 61]) = true := q4.trans (by decide)
    have ht := ht (decide (x ≤ y))
    go_enter Try.func45, Try.ntmps45
    go_wp2_with (first | (go_at_call 44; refine (ht _).mono ?_; rintro e w1 ⟨rfl, rfl⟩) | fail)
    go_ret; exact ⟨rfl, rfl⟩
  rw [if_neg r0]; replace q4 : (s.toList == [60, 61]) = false := q4.trans (beq_eq_false_iff_ne.2 r0); clear r0
  by_cases r0 : l = [61, 61]
  · rw [if_pos r0]; rw [r0] at q5; clear r0; replace q5 : (s.toList == [61, 61]) = true := q5.trans (by decide)
    have ht := ht (x == y)
    go_enter Try.func45, Try.ntmps45
    go_wp2_with (first | (go_at_call 44; refine (ht _).mono ?_; rintro e w1 ⟨rfl, rfl⟩) | fail)
    go_ret; exact ⟨rfl, rfl⟩
  rw [if_neg r0]; replace q5 : (s.toList == [61, 61]) = false := q5.trans (beq_eq_false_iff_ne.2 r0); clear r0
  have ht := ht (x != y)
  go_enter Try.func45, Try.ntmps45
  go_wp2_with (first | (go_at_call 44; refine (ht _).mono ?_; rintro e w1 ⟨rfl, rfl⟩) | fail)
  go_ret; exact ⟨rfl, rfl⟩
theorem on1_cons (s : List UInt8) (x : Int) (r : List Int) : on1 s (x :: r) = psh (oneI s x) r := rfl
set_option maxHeartbeats 4000000 in
theorem ione_any {w : World} {X : Nat} {vv sv : Value} {st : List Int} (h : Mc w X vv sv st) (s : ByteArray) (hl : st.length ≤ 4000) (hr : InR st) :
    Calls Try.prog 32 #[.pointer (some ⟨X, 0, none⟩), .string s] w fun e w' => e = .returned (.int .i64 (on1 s.data.toList st).1) ∧ (∃ sv', Mc w' X vv sv' (on1 s.data.toList st).2) ∧ Below X w w' := by
  have ht := fun b w1 => itruth_any b w1
  cases st with
  | nil =>
    have hp := ipop_nil h
    go_enter Try.func32, Try.ntmps32
    go_wp2_with (first | (go_at_call 43; refine hp.mono ?_; rintro e w1 ⟨rfl, rfl⟩) | fail)
    go_ret
    exact ⟨rfl, ⟨_, h⟩, Below.refl _ _⟩
  | cons x r =>
    have hlr : r.length ≤ 4000 := by simp at hl; omega
    obtain ⟨x1, x2⟩ := hr x List.mem_cons_self
    have hp := ipop_cons h hlr
    have hS := istr s
    obtain ⟨l, hll⟩ : ∃ l, s.data.toList = l := ⟨_, rfl⟩
    simp only [hll] at hS ⊢
    have q0 := hS [110, 101, 103]
    have q1 := hS [110, 111, 116]
    rw [on1_cons]
    unfold oneI
    clear hll hS hl hr
    by_cases r0 : l = [110, 101, 103]
    · rw [if_pos r0]; rw [r0] at q0; clear q1 r0 ht; replace q0 : (s.toList == [110, 101, 103]) = true := q0.trans (by decide)
      go_enter Try.func32, Try.ntmps32
      go_wp2_with (first
        | (go_at_call 43; refine hp.mono ?_; rintro e w1 ⟨rfl, ⟨sv1, hm1⟩, b1⟩; have hu := ipush_any hm1 (-x) hlr; clear hp)
        | (go_at_call 42; refine hu.mono ?_; rintro e w2 ⟨rfl, hm2, b2⟩)
        | fail)
      go_ret
      exact ⟨rfl, hm2, b1.trans b2⟩
    rw [if_neg r0]; replace q0 : (s.toList == [110, 101, 103]) = false := q0.trans (beq_eq_false_iff_ne.2 r0); clear r0
    by_cases r0 : l = [110, 111, 116]
    · rw [if_pos r0]; rw [r0] at q1; clear r0; replace q1 : (s.toList == [110, 111, 116]) = true := q1.trans (by decide)
      have ht := ht (x == 0)
      go_enter Try.func32, Try.ntmps32
      go_wp2_with (first
        | (go_at_call 43; refine hp.mono ?_; rintro e w1 ⟨rfl, ⟨sv1, hm1⟩, b1⟩; have hu := ipush_any hm1 (trI (x == 0)) hlr; clear hp)
        | (go_at_call 44; refine (ht _).mono ?_; rintro e w3 ⟨rfl, rfl⟩)
        | (go_at_call 42; refine hu.mono ?_; rintro e w2 ⟨rfl, hm2, b2⟩)
        | fail)
      go_ret
      exact ⟨rfl, hm2, b1.trans b2⟩
    rw [if_neg r0]; replace q1 : (s.toList == [110, 111, 116]) = false := q1.trans (beq_eq_false_iff_ne.2 r0); clear r0
    have ht := ht (x != 0)
    go_enter Try.func32, Try.ntmps32
    go_wp2_with (first
      | (go_at_call 43; refine hp.mono ?_; rintro e w1 ⟨rfl, ⟨sv1, hm1⟩, b1⟩; have hu := ipush_any hm1 (trI (x != 0)) hlr; clear hp)
      | (go_at_call 44; refine (ht _).mono ?_; rintro e w3 ⟨rfl, rfl⟩)
      | (go_at_call 42; refine hu.mono ?_; rintro e w2 ⟨rfl, hm2, b2⟩)
      | fail)
    go_ret
    exact ⟨rfl, hm2, b1.trans b2⟩
set_option maxHeartbeats 4000000 in
theorem itwo_any {w : World} {X : Nat} {vv sv : Value} {st : List Int} (h : Mc w X vv sv st) (s : ByteArray) (hl : st.length ≤ 4000) (hr : InR st) :
    Calls Try.prog 33 #[.pointer (some ⟨X, 0, none⟩), .string s] w fun e w' => e = .returned (.int .i64 (on2 s.data.toList st).1) ∧ (∃ sv', Mc w' X vv sv' (on2 s.data.toList st).2) ∧ Below X w w' := by
  rcases st with _ | ⟨y, _ | ⟨x, r⟩⟩
  · have hp := ipop_nil h
    go_enter Try.func33, Try.ntmps33
    go_wp2_with (first | (go_at_call 43; refine hp.mono ?_; rintro e w1 ⟨rfl, rfl⟩) | fail)
    go_ret
    exact ⟨rfl, ⟨_, h⟩, Below.refl _ _⟩
  · have hp := ipop_cons h (by simp)
    go_enter Try.func33, Try.ntmps33
    go_wp2_with (first
      | (go_at_call 43; refine hp.mono ?_; rintro e w1 ⟨rfl, ⟨sv1, hm1⟩, b1⟩; have hu := ipop_nil hm1; clear hp)
      | (go_at_call 43; refine hu.mono ?_; rintro e w2 ⟨rfl, rfl⟩)
      | fail)
    go_ret
    exact ⟨rfl, ⟨_, hm1⟩, b1⟩
  · have hlr : r.length ≤ 4000 := by simp at hl; omega
    have hlr1 : (x :: r).length ≤ 4000 := by simp at hl ⊢; omega
    have hp := ipop_cons h hlr1
    have hw := fun w1 => iworked_any s x y (hr x (by simp)) (hr y (by simp)) w1
    unfold on2
    clear hl hr
    go_enter Try.func33, Try.ntmps33
    go_wp2_with (first
      | (go_at_call 43; refine hp.mono ?_; rintro e w1 ⟨rfl, ⟨sv1, hm1⟩, b1⟩; have hu := ipop_cons hm1 hlr; clear hp)
      | (go_at_call 43; refine hu.mono ?_; rintro e w2 ⟨rfl, ⟨sv2, hm2⟩, b2⟩; have hv := ipush_any hm2 (wkI s.data.toList x y) hlr; clear hu)
      | (go_at_call 45; refine (hw _).mono ?_; rintro e w3 ⟨rfl, rfl⟩)
      | (go_at_call 42; refine hv.mono ?_; rintro e w4 ⟨rfl, hm4, b4⟩)
      | fail)
    go_ret
    exact ⟨rfl, hm4, (b1.trans b2).trans b4⟩

theorem psh_tr (b : Bool) (r : List Int) : psh (trI b) r = (0, trI b :: r) := by cases b <;> rfl
theorem jmp_cons (o : Bool) (n : Int) (beh : Nat) (x : Int) (r : List Int) (h : ¬ (n < 0 ∨ n > (beh : Int))) : jmpS o n beh (x :: r) = if (x != 0) = o then (n.toNat, 0, trI o :: r) else (0, 0, r) := by
  unfold jmpS
  rw [if_neg h]
theorem jmp_nil (o : Bool) (n : Int) (beh : Nat) (h : ¬ (n < 0 ∨ n > (beh : Int))) : jmpS o n beh [] = (0, 2, []) := by
  unfold jmpS
  rw [if_neg h]
theorem jmp_bad (o : Bool) (n : Int) (beh : Nat) (st : List Int) (h : n < 0 ∨ n > (beh : Int)) : jmpS o n beh st = (0, 2, st) := by
  unfold jmpS
  rw [if_pos h]
set_option maxHeartbeats 4000000 in
theorem ijump_any {w : World} {X : Nat} {vv sv : Value} {st : List Int} (h : Mc w X vv sv st) (o : Bool) (n : Int) (beh : Nat) (hb : beh ≤ 4000) (hl : st.length ≤ 4000) :
    Calls Try.prog 34 #[.pointer (some ⟨X, 0, none⟩), .bool o, .int .i64 n, .int .i64 (beh : Int)] w fun e w' => e = .returned (.tuple #[.int .i64 ((jmpS o n beh st).1 : Int), .int .i64 (jmpS o n beh st).2.1]) ∧ (∃ sv', Mc w' X vv sv' (jmpS o n beh st).2.2) ∧ Below X w w' := by
  by_cases h1 : n < 0
  · rw [jmp_bad o n beh st (.inl h1)]
    go_enter Try.func34, Try.ntmps34
    go_wp2
    go_ret2
    exact ⟨rfl, ⟨_, h⟩, Below.refl _ _⟩
  by_cases h2 : n > (beh : Int)
  · rw [jmp_bad o n beh st (.inr h2)]
    go_enter Try.func34, Try.ntmps34
    go_wp2
    go_ret2
    exact ⟨rfl, ⟨_, h⟩, Below.refl _ _⟩
  have hb2 : ¬ (n < 0 ∨ n > (beh : Int)) := by omega
  cases st with
  | nil =>
    rw [jmp_nil o n beh hb2]
    have hp := ipop_nil h
    go_enter Try.func34, Try.ntmps34
    go_wp2_with (first | (go_at_call 43; refine hp.mono ?_; rintro e w1 ⟨rfl, rfl⟩) | fail)
    go_ret2
    exact ⟨rfl, ⟨_, h⟩, Below.refl _ _⟩
  | cons x r =>
    rw [jmp_cons o n beh x r hb2]
    have hlr : r.length ≤ 4000 := by simp at hl; omega
    have hp := ipop_cons h hlr
    have ht := fun w1 => itruth_any o w1
    obtain ⟨k, rfl⟩ : ∃ k : Nat, n = (k : Int) := ⟨n.toNat, by omega⟩
    clear hb2 hl
    by_cases hq : (x != 0) = o
    · rw [if_pos hq]
      have q1 : ((x != 0) != o) = false := by rw [hq]; cases o <;> rfl
      have q2 : ((k : Int)).toNat = k := by simp
      rw [q2]
      cases hx : (x != 0) with
      | false =>
        rw [hx] at hq
        subst hq
        go_enter Try.func34, Try.ntmps34
        go_wp2_with (first
          | (go_at_call 43; refine hp.mono ?_; rintro e w1 ⟨rfl, ⟨sv1, hm1⟩, b1⟩; have hu := ipush_any hm1 (trI false) hlr; rw [psh_tr] at hu; clear hp)
          | (go_at_call 44; refine (ht _).mono ?_; rintro e w3 ⟨rfl, rfl⟩)
          | (go_at_call 42; refine hu.mono ?_; rintro e w2 ⟨rfl, hm2, b2⟩)
          | fail)
        go_ret2
        exact ⟨rfl, hm2, b1.trans b2⟩
      | true =>
        rw [hx] at hq
        subst hq
        go_enter Try.func34, Try.ntmps34
        go_wp2_with (first
          | (go_at_call 43; refine hp.mono ?_; rintro e w1 ⟨rfl, ⟨sv1, hm1⟩, b1⟩; have hu := ipush_any hm1 (trI true) hlr; rw [psh_tr] at hu; clear hp)
          | (go_at_call 44; refine (ht _).mono ?_; rintro e w3 ⟨rfl, rfl⟩)
          | (go_at_call 42; refine hu.mono ?_; rintro e w2 ⟨rfl, hm2, b2⟩)
          | fail)
        go_ret2
        exact ⟨rfl, hm2, b1.trans b2⟩
    · rw [if_neg hq]
      cases hx : (x != 0) with
      | false =>
        cases o with
        | false => exact absurd hx hq
        | true =>
          go_enter Try.func34, Try.ntmps34
          go_wp2_with (first
            | (go_at_call 43; refine hp.mono ?_; rintro e w1 ⟨rfl, hm1, b1⟩)
            | fail)
          go_ret2
          exact ⟨rfl, hm1, b1⟩
      | true =>
        cases o with
        | true => exact absurd hx hq
        | false =>
          go_enter Try.func34, Try.ntmps34
          go_wp2_with (first
            | (go_at_call 43; refine hp.mono ?_; rintro e w1 ⟨rfl, hm1, b1⟩)
            | fail)
          go_ret2
          exact ⟨rfl, hm1, b1⟩
theorem Mc.on {w w' : World} {X : Nat} {vv sv : Value} {st : List Int} (h : Mc w X vv sv st) (hb : Below w.heap.size w w') : Mc w' X vv sv st :=
  ⟨h.b.on hb, ownsRow_keep h.s (fun g hg => hb.block g (World.ownsRow.lt h.s g hg).2)⟩
set_option maxRecDepth 100000 in
set_option maxHeartbeats 4000000 in
theorem iobey_w0 {w : World} {X : Nat} {sv : Value} {st vs : List Int} {va : Option Addr} {vn vc : Nat} {ok : Nat → Prop} (h : Mc w X (.slice va vn vc) sv st) (hv : RdK ok w 1 (fun x cs => cs = [Value.int .i64 x]) vs (.slice va vn vc)) (s : ByteArray) (n : Int) (beh : Nat) (hb : beh ≤ 4000) (hl : st.length ≤ 4000) (hr : InR st) (hw : s.data.toList = [112, 117, 115, 104]) :
    Calls Try.prog 17 #[.pointer (some ⟨X, 0, none⟩), .agg #[.string s, .int .i64 n], .int .i64 (beh : Int)] w fun e w' => e = .returned (.tuple #[.int .i64 ((stpI vs [112, 117, 115, 104] n beh st).1 : Int), .int .i64 (stpI vs [112, 117, 115, 104] n beh st).2.1]) ∧ (∃ sv', Mc w' X (.slice va vn vc) sv' (stpI vs [112, 117, 115, 104] n beh st).2.2) ∧ Below X w w' := by
  have hal : Below w.heap.size w (w.alloc (.cells #[.string s, .int .i64 n] 43)) := (Below.refl _ _).alloc (Nat.le_refl _) _
  have hXl := h.b.lt
  have hB := Bn.new w [.string s, .int .i64 n] 43 _ rfl
  obtain ⟨p0, _⟩ := hB 0 _ rfl
  obtain ⟨p1, _⟩ := hB 1 _ rfl
  replace h := h.on hal
  replace hv : RdK (fun _ => True) _ 1 (fun x cs => cs = [Value.int .i64 x]) vs (.slice va vn vc) := hv.keep (fun x _ u hu => hu) (fun b _ hlt => ⟨trivial, hal.block b hlt⟩)
  have hal0 : Below X w (w.alloc (.cells #[.string s, .int .i64 n] 43)) := hal.mono (Nat.le_of_lt hXl)
  clear hal hB
  have hS := istr s
  have hC := iliteral_any h n hl
  rw [hw] at hS
  have q0 : (s.toList == [112, 117, 115, 104]) = true := (hS _).trans (by decide)
  have e9 : stpI vs [112, 117, 115, 104] n beh st = (0, litI n st) := rfl
  rw [e9]
  clear e9 hS hw hv hr hl h
  go_enter Try.func17, Try.ntmps17
  go_wp2_with (first
    | (go_at_call 30; refine hC.mono ?_; rintro e w1 ⟨rfl, hm, b1⟩)
    | fail)
  go_ret2
  exact ⟨rfl, hm, hal0.trans b1⟩
set_option maxRecDepth 100000 in
set_option maxHeartbeats 4000000 in
theorem iobey_w1 {w : World} {X : Nat} {sv : Value} {st vs : List Int} {va : Option Addr} {vn vc : Nat} {ok : Nat → Prop} (h : Mc w X (.slice va vn vc) sv st) (hv : RdK ok w 1 (fun x cs => cs = [Value.int .i64 x]) vs (.slice va vn vc)) (s : ByteArray) (n : Int) (beh : Nat) (hb : beh ≤ 4000) (hl : st.length ≤ 4000) (hr : InR st) (hw : s.data.toList = [108, 111, 97, 100]) :
    Calls Try.prog 17 #[.pointer (some ⟨X, 0, none⟩), .agg #[.string s, .int .i64 n], .int .i64 (beh : Int)] w fun e w' => e = .returned (.tuple #[.int .i64 ((stpI vs [108, 111, 97, 100] n beh st).1 : Int), .int .i64 (stpI vs [108, 111, 97, 100] n beh st).2.1]) ∧ (∃ sv', Mc w' X (.slice va vn vc) sv' (stpI vs [108, 111, 97, 100] n beh st).2.2) ∧ Below X w w' := by
  have hal : Below w.heap.size w (w.alloc (.cells #[.string s, .int .i64 n] 43)) := (Below.refl _ _).alloc (Nat.le_refl _) _
  have hXl := h.b.lt
  have hB := Bn.new w [.string s, .int .i64 n] 43 _ rfl
  obtain ⟨p0, _⟩ := hB 0 _ rfl
  obtain ⟨p1, _⟩ := hB 1 _ rfl
  replace h := h.on hal
  replace hv : RdK (fun _ => True) _ 1 (fun x cs => cs = [Value.int .i64 x]) vs (.slice va vn vc) := hv.keep (fun x _ u hu => hu) (fun b _ hlt => ⟨trivial, hal.block b hlt⟩)
  have hal0 : Below X w (w.alloc (.cells #[.string s, .int .i64 n] 43)) := hal.mono (Nat.le_of_lt hXl)
  clear hal hB
  have hS := istr s
  have hC := iload_any h hv n hl
  rw [hw] at hS
  have q0 : (s.toList == [112, 117, 115, 104]) = false := (hS _).trans (by decide)
  have q1 : (s.toList == [108, 111, 97, 100]) = true := (hS _).trans (by decide)
  have e9 : stpI vs [108, 111, 97, 100] n beh st = (0, lodI vs n st) := rfl
  rw [e9]
  clear e9 hS hw hv hr hl h
  go_enter Try.func17, Try.ntmps17
  go_wp2_with (first
    | (go_at_call 31; refine hC.mono ?_; rintro e w1 ⟨rfl, hm, b1⟩)
    | fail)
  go_ret2
  exact ⟨rfl, hm, hal0.trans b1⟩
set_option maxRecDepth 100000 in
set_option maxHeartbeats 4000000 in
theorem iobey_w2 {w : World} {X : Nat} {sv : Value} {st vs : List Int} {va : Option Addr} {vn vc : Nat} {ok : Nat → Prop} (h : Mc w X (.slice va vn vc) sv st) (hv : RdK ok w 1 (fun x cs => cs = [Value.int .i64 x]) vs (.slice va vn vc)) (s : ByteArray) (n : Int) (beh : Nat) (hb : beh ≤ 4000) (hl : st.length ≤ 4000) (hr : InR st) (hw : s.data.toList = [110, 111, 116]) :
    Calls Try.prog 17 #[.pointer (some ⟨X, 0, none⟩), .agg #[.string s, .int .i64 n], .int .i64 (beh : Int)] w fun e w' => e = .returned (.tuple #[.int .i64 ((stpI vs [110, 111, 116] n beh st).1 : Int), .int .i64 (stpI vs [110, 111, 116] n beh st).2.1]) ∧ (∃ sv', Mc w' X (.slice va vn vc) sv' (stpI vs [110, 111, 116] n beh st).2.2) ∧ Below X w w' := by
  have hal : Below w.heap.size w (w.alloc (.cells #[.string s, .int .i64 n] 43)) := (Below.refl _ _).alloc (Nat.le_refl _) _
  have hXl := h.b.lt
  have hB := Bn.new w [.string s, .int .i64 n] 43 _ rfl
  obtain ⟨p0, _⟩ := hB 0 _ rfl
  obtain ⟨p1, _⟩ := hB 1 _ rfl
  replace h := h.on hal
  replace hv : RdK (fun _ => True) _ 1 (fun x cs => cs = [Value.int .i64 x]) vs (.slice va vn vc) := hv.keep (fun x _ u hu => hu) (fun b _ hlt => ⟨trivial, hal.block b hlt⟩)
  have hal0 : Below X w (w.alloc (.cells #[.string s, .int .i64 n] 43)) := hal.mono (Nat.le_of_lt hXl)
  clear hal hB
  have hS := istr s
  have hC := ione_any h s hl hr
  rw [hw] at hS
  rw [hw] at hC
  have q0 : (s.toList == [112, 117, 115, 104]) = false := (hS _).trans (by decide)
  have q1 : (s.toList == [108, 111, 97, 100]) = false := (hS _).trans (by decide)
  have q2 : (s.toList == [110, 111, 116]) = true := (hS _).trans (by decide)
  have e9 : stpI vs [110, 111, 116] n beh st = (0, on1 [110, 111, 116] st) := rfl
  rw [e9]
  clear e9 hS hw hv hr hl h
  go_enter Try.func17, Try.ntmps17
  go_wp2_with (first
    | (go_at_call 32; refine hC.mono ?_; rintro e w1 ⟨rfl, hm, b1⟩)
    | fail)
  go_ret2
  exact ⟨rfl, hm, hal0.trans b1⟩
set_option maxRecDepth 100000 in
set_option maxHeartbeats 4000000 in
theorem iobey_w3 {w : World} {X : Nat} {sv : Value} {st vs : List Int} {va : Option Addr} {vn vc : Nat} {ok : Nat → Prop} (h : Mc w X (.slice va vn vc) sv st) (hv : RdK ok w 1 (fun x cs => cs = [Value.int .i64 x]) vs (.slice va vn vc)) (s : ByteArray) (n : Int) (beh : Nat) (hb : beh ≤ 4000) (hl : st.length ≤ 4000) (hr : InR st) (hw : s.data.toList = [110, 101, 103]) :
    Calls Try.prog 17 #[.pointer (some ⟨X, 0, none⟩), .agg #[.string s, .int .i64 n], .int .i64 (beh : Int)] w fun e w' => e = .returned (.tuple #[.int .i64 ((stpI vs [110, 101, 103] n beh st).1 : Int), .int .i64 (stpI vs [110, 101, 103] n beh st).2.1]) ∧ (∃ sv', Mc w' X (.slice va vn vc) sv' (stpI vs [110, 101, 103] n beh st).2.2) ∧ Below X w w' := by
  have hal : Below w.heap.size w (w.alloc (.cells #[.string s, .int .i64 n] 43)) := (Below.refl _ _).alloc (Nat.le_refl _) _
  have hXl := h.b.lt
  have hB := Bn.new w [.string s, .int .i64 n] 43 _ rfl
  obtain ⟨p0, _⟩ := hB 0 _ rfl
  obtain ⟨p1, _⟩ := hB 1 _ rfl
  replace h := h.on hal
  replace hv : RdK (fun _ => True) _ 1 (fun x cs => cs = [Value.int .i64 x]) vs (.slice va vn vc) := hv.keep (fun x _ u hu => hu) (fun b _ hlt => ⟨trivial, hal.block b hlt⟩)
  have hal0 : Below X w (w.alloc (.cells #[.string s, .int .i64 n] 43)) := hal.mono (Nat.le_of_lt hXl)
  clear hal hB
  have hS := istr s
  have hC := ione_any h s hl hr
  rw [hw] at hS
  rw [hw] at hC
  have q0 : (s.toList == [112, 117, 115, 104]) = false := (hS _).trans (by decide)
  have q1 : (s.toList == [108, 111, 97, 100]) = false := (hS _).trans (by decide)
  have q2 : (s.toList == [110, 111, 116]) = false := (hS _).trans (by decide)
  have q3 : (s.toList == [110, 101, 103]) = true := (hS _).trans (by decide)
  have e9 : stpI vs [110, 101, 103] n beh st = (0, on1 [110, 101, 103] st) := rfl
  rw [e9]
  clear e9 hS hw hv hr hl h
  go_enter Try.func17, Try.ntmps17
  go_wp2_with (first
    | (go_at_call 32; refine hC.mono ?_; rintro e w1 ⟨rfl, hm, b1⟩)
    | fail)
  go_ret2
  exact ⟨rfl, hm, hal0.trans b1⟩
set_option maxRecDepth 100000 in
set_option maxHeartbeats 4000000 in
theorem iobey_w4 {w : World} {X : Nat} {sv : Value} {st vs : List Int} {va : Option Addr} {vn vc : Nat} {ok : Nat → Prop} (h : Mc w X (.slice va vn vc) sv st) (hv : RdK ok w 1 (fun x cs => cs = [Value.int .i64 x]) vs (.slice va vn vc)) (s : ByteArray) (n : Int) (beh : Nat) (hb : beh ≤ 4000) (hl : st.length ≤ 4000) (hr : InR st) (hw : s.data.toList = [98, 111, 111, 108]) :
    Calls Try.prog 17 #[.pointer (some ⟨X, 0, none⟩), .agg #[.string s, .int .i64 n], .int .i64 (beh : Int)] w fun e w' => e = .returned (.tuple #[.int .i64 ((stpI vs [98, 111, 111, 108] n beh st).1 : Int), .int .i64 (stpI vs [98, 111, 111, 108] n beh st).2.1]) ∧ (∃ sv', Mc w' X (.slice va vn vc) sv' (stpI vs [98, 111, 111, 108] n beh st).2.2) ∧ Below X w w' := by
  have hal : Below w.heap.size w (w.alloc (.cells #[.string s, .int .i64 n] 43)) := (Below.refl _ _).alloc (Nat.le_refl _) _
  have hXl := h.b.lt
  have hB := Bn.new w [.string s, .int .i64 n] 43 _ rfl
  obtain ⟨p0, _⟩ := hB 0 _ rfl
  obtain ⟨p1, _⟩ := hB 1 _ rfl
  replace h := h.on hal
  replace hv : RdK (fun _ => True) _ 1 (fun x cs => cs = [Value.int .i64 x]) vs (.slice va vn vc) := hv.keep (fun x _ u hu => hu) (fun b _ hlt => ⟨trivial, hal.block b hlt⟩)
  have hal0 : Below X w (w.alloc (.cells #[.string s, .int .i64 n] 43)) := hal.mono (Nat.le_of_lt hXl)
  clear hal hB
  have hS := istr s
  have hC := ione_any h s hl hr
  rw [hw] at hS
  rw [hw] at hC
  have q0 : (s.toList == [112, 117, 115, 104]) = false := (hS _).trans (by decide)
  have q1 : (s.toList == [108, 111, 97, 100]) = false := (hS _).trans (by decide)
  have q2 : (s.toList == [110, 111, 116]) = false := (hS _).trans (by decide)
  have q3 : (s.toList == [110, 101, 103]) = false := (hS _).trans (by decide)
  have q4 : (s.toList == [98, 111, 111, 108]) = true := (hS _).trans (by decide)
  have e9 : stpI vs [98, 111, 111, 108] n beh st = (0, on1 [98, 111, 111, 108] st) := rfl
  rw [e9]
  clear e9 hS hw hv hr hl h
  go_enter Try.func17, Try.ntmps17
  go_wp2_with (first
    | (go_at_call 32; refine hC.mono ?_; rintro e w1 ⟨rfl, hm, b1⟩)
    | fail)
  go_ret2
  exact ⟨rfl, hm, hal0.trans b1⟩
set_option maxRecDepth 100000 in
set_option maxHeartbeats 4000000 in
theorem iobey_w5 {w : World} {X : Nat} {sv : Value} {st vs : List Int} {va : Option Addr} {vn vc : Nat} {ok : Nat → Prop} (h : Mc w X (.slice va vn vc) sv st) (hv : RdK ok w 1 (fun x cs => cs = [Value.int .i64 x]) vs (.slice va vn vc)) (s : ByteArray) (n : Int) (beh : Nat) (hb : beh ≤ 4000) (hl : st.length ≤ 4000) (hr : InR st) (hw : s.data.toList = [43]) :
    Calls Try.prog 17 #[.pointer (some ⟨X, 0, none⟩), .agg #[.string s, .int .i64 n], .int .i64 (beh : Int)] w fun e w' => e = .returned (.tuple #[.int .i64 ((stpI vs [43] n beh st).1 : Int), .int .i64 (stpI vs [43] n beh st).2.1]) ∧ (∃ sv', Mc w' X (.slice va vn vc) sv' (stpI vs [43] n beh st).2.2) ∧ Below X w w' := by
  have hal : Below w.heap.size w (w.alloc (.cells #[.string s, .int .i64 n] 43)) := (Below.refl _ _).alloc (Nat.le_refl _) _
  have hXl := h.b.lt
  have hB := Bn.new w [.string s, .int .i64 n] 43 _ rfl
  obtain ⟨p0, _⟩ := hB 0 _ rfl
  obtain ⟨p1, _⟩ := hB 1 _ rfl
  replace h := h.on hal
  replace hv : RdK (fun _ => True) _ 1 (fun x cs => cs = [Value.int .i64 x]) vs (.slice va vn vc) := hv.keep (fun x _ u hu => hu) (fun b _ hlt => ⟨trivial, hal.block b hlt⟩)
  have hal0 : Below X w (w.alloc (.cells #[.string s, .int .i64 n] 43)) := hal.mono (Nat.le_of_lt hXl)
  clear hal hB
  have hS := istr s
  have hC := itwo_any h s hl hr
  rw [hw] at hS
  rw [hw] at hC
  have q0 : (s.toList == [112, 117, 115, 104]) = false := (hS _).trans (by decide)
  have q1 : (s.toList == [108, 111, 97, 100]) = false := (hS _).trans (by decide)
  have q2 : (s.toList == [110, 111, 116]) = false := (hS _).trans (by decide)
  have q3 : (s.toList == [110, 101, 103]) = false := (hS _).trans (by decide)
  have q4 : (s.toList == [98, 111, 111, 108]) = false := (hS _).trans (by decide)
  have q5 : (s.toList == [43]) = true := (hS _).trans (by decide)
  have e9 : stpI vs [43] n beh st = (0, on2 [43] st) := rfl
  rw [e9]
  clear e9 hS hw hv hr hl h
  go_enter Try.func17, Try.ntmps17
  go_wp2_with (first
    | (go_at_call 33; refine hC.mono ?_; rintro e w1 ⟨rfl, hm, b1⟩)
    | fail)
  go_ret2
  exact ⟨rfl, hm, hal0.trans b1⟩
set_option maxRecDepth 100000 in
set_option maxHeartbeats 4000000 in
theorem iobey_w6 {w : World} {X : Nat} {sv : Value} {st vs : List Int} {va : Option Addr} {vn vc : Nat} {ok : Nat → Prop} (h : Mc w X (.slice va vn vc) sv st) (hv : RdK ok w 1 (fun x cs => cs = [Value.int .i64 x]) vs (.slice va vn vc)) (s : ByteArray) (n : Int) (beh : Nat) (hb : beh ≤ 4000) (hl : st.length ≤ 4000) (hr : InR st) (hw : s.data.toList = [45]) :
    Calls Try.prog 17 #[.pointer (some ⟨X, 0, none⟩), .agg #[.string s, .int .i64 n], .int .i64 (beh : Int)] w fun e w' => e = .returned (.tuple #[.int .i64 ((stpI vs [45] n beh st).1 : Int), .int .i64 (stpI vs [45] n beh st).2.1]) ∧ (∃ sv', Mc w' X (.slice va vn vc) sv' (stpI vs [45] n beh st).2.2) ∧ Below X w w' := by
  have hal : Below w.heap.size w (w.alloc (.cells #[.string s, .int .i64 n] 43)) := (Below.refl _ _).alloc (Nat.le_refl _) _
  have hXl := h.b.lt
  have hB := Bn.new w [.string s, .int .i64 n] 43 _ rfl
  obtain ⟨p0, _⟩ := hB 0 _ rfl
  obtain ⟨p1, _⟩ := hB 1 _ rfl
  replace h := h.on hal
  replace hv : RdK (fun _ => True) _ 1 (fun x cs => cs = [Value.int .i64 x]) vs (.slice va vn vc) := hv.keep (fun x _ u hu => hu) (fun b _ hlt => ⟨trivial, hal.block b hlt⟩)
  have hal0 : Below X w (w.alloc (.cells #[.string s, .int .i64 n] 43)) := hal.mono (Nat.le_of_lt hXl)
  clear hal hB
  have hS := istr s
  have hC := itwo_any h s hl hr
  rw [hw] at hS
  rw [hw] at hC
  have q0 : (s.toList == [112, 117, 115, 104]) = false := (hS _).trans (by decide)
  have q1 : (s.toList == [108, 111, 97, 100]) = false := (hS _).trans (by decide)
  have q2 : (s.toList == [110, 111, 116]) = false := (hS _).trans (by decide)
  have q3 : (s.toList == [110, 101, 103]) = false := (hS _).trans (by decide)
  have q4 : (s.toList == [98, 111, 111, 108]) = false := (hS _).trans (by decide)
  have q5 : (s.toList == [43]) = false := (hS _).trans (by decide)
  have q6 : (s.toList == [45]) = true := (hS _).trans (by decide)
  have e9 : stpI vs [45] n beh st = (0, on2 [45] st) := rfl
  rw [e9]
  clear e9 hS hw hv hr hl h
  go_enter Try.func17, Try.ntmps17
  go_wp2_with (first
    | (go_at_call 33; refine hC.mono ?_; rintro e w1 ⟨rfl, hm, b1⟩)
    | fail)
  go_ret2
  exact ⟨rfl, hm, hal0.trans b1⟩
set_option maxRecDepth 100000 in
set_option maxHeartbeats 4000000 in
theorem iobey_w7 {w : World} {X : Nat} {sv : Value} {st vs : List Int} {va : Option Addr} {vn vc : Nat} {ok : Nat → Prop} (h : Mc w X (.slice va vn vc) sv st) (hv : RdK ok w 1 (fun x cs => cs = [Value.int .i64 x]) vs (.slice va vn vc)) (s : ByteArray) (n : Int) (beh : Nat) (hb : beh ≤ 4000) (hl : st.length ≤ 4000) (hr : InR st) (hw : s.data.toList = [42]) :
    Calls Try.prog 17 #[.pointer (some ⟨X, 0, none⟩), .agg #[.string s, .int .i64 n], .int .i64 (beh : Int)] w fun e w' => e = .returned (.tuple #[.int .i64 ((stpI vs [42] n beh st).1 : Int), .int .i64 (stpI vs [42] n beh st).2.1]) ∧ (∃ sv', Mc w' X (.slice va vn vc) sv' (stpI vs [42] n beh st).2.2) ∧ Below X w w' := by
  have hal : Below w.heap.size w (w.alloc (.cells #[.string s, .int .i64 n] 43)) := (Below.refl _ _).alloc (Nat.le_refl _) _
  have hXl := h.b.lt
  have hB := Bn.new w [.string s, .int .i64 n] 43 _ rfl
  obtain ⟨p0, _⟩ := hB 0 _ rfl
  obtain ⟨p1, _⟩ := hB 1 _ rfl
  replace h := h.on hal
  replace hv : RdK (fun _ => True) _ 1 (fun x cs => cs = [Value.int .i64 x]) vs (.slice va vn vc) := hv.keep (fun x _ u hu => hu) (fun b _ hlt => ⟨trivial, hal.block b hlt⟩)
  have hal0 : Below X w (w.alloc (.cells #[.string s, .int .i64 n] 43)) := hal.mono (Nat.le_of_lt hXl)
  clear hal hB
  have hS := istr s
  have hC := itwo_any h s hl hr
  rw [hw] at hS
  rw [hw] at hC
  have q0 : (s.toList == [112, 117, 115, 104]) = false := (hS _).trans (by decide)
  have q1 : (s.toList == [108, 111, 97, 100]) = false := (hS _).trans (by decide)
  have q2 : (s.toList == [110, 111, 116]) = false := (hS _).trans (by decide)
  have q3 : (s.toList == [110, 101, 103]) = false := (hS _).trans (by decide)
  have q4 : (s.toList == [98, 111, 111, 108]) = false := (hS _).trans (by decide)
  have q5 : (s.toList == [43]) = false := (hS _).trans (by decide)
  have q6 : (s.toList == [45]) = false := (hS _).trans (by decide)
  have q7 : (s.toList == [42]) = true := (hS _).trans (by decide)
  have e9 : stpI vs [42] n beh st = (0, on2 [42] st) := rfl
  rw [e9]
  clear e9 hS hw hv hr hl h
  go_enter Try.func17, Try.ntmps17
  go_wp2_with (first
    | (go_at_call 33; refine hC.mono ?_; rintro e w1 ⟨rfl, hm, b1⟩)
    | fail)
  go_ret2
  exact ⟨rfl, hm, hal0.trans b1⟩
set_option maxRecDepth 100000 in
set_option maxHeartbeats 4000000 in
theorem iobey_w8 {w : World} {X : Nat} {sv : Value} {st vs : List Int} {va : Option Addr} {vn vc : Nat} {ok : Nat → Prop} (h : Mc w X (.slice va vn vc) sv st) (hv : RdK ok w 1 (fun x cs => cs = [Value.int .i64 x]) vs (.slice va vn vc)) (s : ByteArray) (n : Int) (beh : Nat) (hb : beh ≤ 4000) (hl : st.length ≤ 4000) (hr : InR st) (hw : s.data.toList = [60]) :
    Calls Try.prog 17 #[.pointer (some ⟨X, 0, none⟩), .agg #[.string s, .int .i64 n], .int .i64 (beh : Int)] w fun e w' => e = .returned (.tuple #[.int .i64 ((stpI vs [60] n beh st).1 : Int), .int .i64 (stpI vs [60] n beh st).2.1]) ∧ (∃ sv', Mc w' X (.slice va vn vc) sv' (stpI vs [60] n beh st).2.2) ∧ Below X w w' := by
  have hal : Below w.heap.size w (w.alloc (.cells #[.string s, .int .i64 n] 43)) := (Below.refl _ _).alloc (Nat.le_refl _) _
  have hXl := h.b.lt
  have hB := Bn.new w [.string s, .int .i64 n] 43 _ rfl
  obtain ⟨p0, _⟩ := hB 0 _ rfl
  obtain ⟨p1, _⟩ := hB 1 _ rfl
  replace h := h.on hal
  replace hv : RdK (fun _ => True) _ 1 (fun x cs => cs = [Value.int .i64 x]) vs (.slice va vn vc) := hv.keep (fun x _ u hu => hu) (fun b _ hlt => ⟨trivial, hal.block b hlt⟩)
  have hal0 : Below X w (w.alloc (.cells #[.string s, .int .i64 n] 43)) := hal.mono (Nat.le_of_lt hXl)
  clear hal hB
  have hS := istr s
  have hC := itwo_any h s hl hr
  rw [hw] at hS
  rw [hw] at hC
  have q0 : (s.toList == [112, 117, 115, 104]) = false := (hS _).trans (by decide)
  have q1 : (s.toList == [108, 111, 97, 100]) = false := (hS _).trans (by decide)
  have q2 : (s.toList == [110, 111, 116]) = false := (hS _).trans (by decide)
  have q3 : (s.toList == [110, 101, 103]) = false := (hS _).trans (by decide)
  have q4 : (s.toList == [98, 111, 111, 108]) = false := (hS _).trans (by decide)
  have q5 : (s.toList == [43]) = false := (hS _).trans (by decide)
  have q6 : (s.toList == [45]) = false := (hS _).trans (by decide)
  have q7 : (s.toList == [42]) = false := (hS _).trans (by decide)
  have q8 : (s.toList == [60]) = true := (hS _).trans (by decide)
  have e9 : stpI vs [60] n beh st = (0, on2 [60] st) := rfl
  rw [e9]
  clear e9 hS hw hv hr hl h
  go_enter Try.func17, Try.ntmps17
  go_wp2_with (first
    | (go_at_call 33; refine hC.mono ?_; rintro e w1 ⟨rfl, hm, b1⟩)
    | fail)
  go_ret2
  exact ⟨rfl, hm, hal0.trans b1⟩
set_option maxRecDepth 100000 in
set_option maxHeartbeats 4000000 in
theorem iobey_w9 {w : World} {X : Nat} {sv : Value} {st vs : List Int} {va : Option Addr} {vn vc : Nat} {ok : Nat → Prop} (h : Mc w X (.slice va vn vc) sv st) (hv : RdK ok w 1 (fun x cs => cs = [Value.int .i64 x]) vs (.slice va vn vc)) (s : ByteArray) (n : Int) (beh : Nat) (hb : beh ≤ 4000) (hl : st.length ≤ 4000) (hr : InR st) (hw : s.data.toList = [60, 61]) :
    Calls Try.prog 17 #[.pointer (some ⟨X, 0, none⟩), .agg #[.string s, .int .i64 n], .int .i64 (beh : Int)] w fun e w' => e = .returned (.tuple #[.int .i64 ((stpI vs [60, 61] n beh st).1 : Int), .int .i64 (stpI vs [60, 61] n beh st).2.1]) ∧ (∃ sv', Mc w' X (.slice va vn vc) sv' (stpI vs [60, 61] n beh st).2.2) ∧ Below X w w' := by
  have hal : Below w.heap.size w (w.alloc (.cells #[.string s, .int .i64 n] 43)) := (Below.refl _ _).alloc (Nat.le_refl _) _
  have hXl := h.b.lt
  have hB := Bn.new w [.string s, .int .i64 n] 43 _ rfl
  obtain ⟨p0, _⟩ := hB 0 _ rfl
  obtain ⟨p1, _⟩ := hB 1 _ rfl
  replace h := h.on hal
  replace hv : RdK (fun _ => True) _ 1 (fun x cs => cs = [Value.int .i64 x]) vs (.slice va vn vc) := hv.keep (fun x _ u hu => hu) (fun b _ hlt => ⟨trivial, hal.block b hlt⟩)
  have hal0 : Below X w (w.alloc (.cells #[.string s, .int .i64 n] 43)) := hal.mono (Nat.le_of_lt hXl)
  clear hal hB
  have hS := istr s
  have hC := itwo_any h s hl hr
  rw [hw] at hS
  rw [hw] at hC
  have q0 : (s.toList == [112, 117, 115, 104]) = false := (hS _).trans (by decide)
  have q1 : (s.toList == [108, 111, 97, 100]) = false := (hS _).trans (by decide)
  have q2 : (s.toList == [110, 111, 116]) = false := (hS _).trans (by decide)
  have q3 : (s.toList == [110, 101, 103]) = false := (hS _).trans (by decide)
  have q4 : (s.toList == [98, 111, 111, 108]) = false := (hS _).trans (by decide)
  have q5 : (s.toList == [43]) = false := (hS _).trans (by decide)
  have q6 : (s.toList == [45]) = false := (hS _).trans (by decide)
  have q7 : (s.toList == [42]) = false := (hS _).trans (by decide)
  have q8 : (s.toList == [60]) = false := (hS _).trans (by decide)
  have q9 : (s.toList == [60, 61]) = true := (hS _).trans (by decide)
  have e9 : stpI vs [60, 61] n beh st = (0, on2 [60, 61] st) := rfl
  rw [e9]
  clear e9 hS hw hv hr hl h
  go_enter Try.func17, Try.ntmps17
  go_wp2_with (first
    | (go_at_call 33; refine hC.mono ?_; rintro e w1 ⟨rfl, hm, b1⟩)
    | fail)
  go_ret2
  exact ⟨rfl, hm, hal0.trans b1⟩
set_option maxRecDepth 100000 in
set_option maxHeartbeats 4000000 in
theorem iobey_w10 {w : World} {X : Nat} {sv : Value} {st vs : List Int} {va : Option Addr} {vn vc : Nat} {ok : Nat → Prop} (h : Mc w X (.slice va vn vc) sv st) (hv : RdK ok w 1 (fun x cs => cs = [Value.int .i64 x]) vs (.slice va vn vc)) (s : ByteArray) (n : Int) (beh : Nat) (hb : beh ≤ 4000) (hl : st.length ≤ 4000) (hr : InR st) (hw : s.data.toList = [61, 61]) :
    Calls Try.prog 17 #[.pointer (some ⟨X, 0, none⟩), .agg #[.string s, .int .i64 n], .int .i64 (beh : Int)] w fun e w' => e = .returned (.tuple #[.int .i64 ((stpI vs [61, 61] n beh st).1 : Int), .int .i64 (stpI vs [61, 61] n beh st).2.1]) ∧ (∃ sv', Mc w' X (.slice va vn vc) sv' (stpI vs [61, 61] n beh st).2.2) ∧ Below X w w' := by
  have hal : Below w.heap.size w (w.alloc (.cells #[.string s, .int .i64 n] 43)) := (Below.refl _ _).alloc (Nat.le_refl _) _
  have hXl := h.b.lt
  have hB := Bn.new w [.string s, .int .i64 n] 43 _ rfl
  obtain ⟨p0, _⟩ := hB 0 _ rfl
  obtain ⟨p1, _⟩ := hB 1 _ rfl
  replace h := h.on hal
  replace hv : RdK (fun _ => True) _ 1 (fun x cs => cs = [Value.int .i64 x]) vs (.slice va vn vc) := hv.keep (fun x _ u hu => hu) (fun b _ hlt => ⟨trivial, hal.block b hlt⟩)
  have hal0 : Below X w (w.alloc (.cells #[.string s, .int .i64 n] 43)) := hal.mono (Nat.le_of_lt hXl)
  clear hal hB
  have hS := istr s
  have hC := itwo_any h s hl hr
  rw [hw] at hS
  rw [hw] at hC
  have q0 : (s.toList == [112, 117, 115, 104]) = false := (hS _).trans (by decide)
  have q1 : (s.toList == [108, 111, 97, 100]) = false := (hS _).trans (by decide)
  have q2 : (s.toList == [110, 111, 116]) = false := (hS _).trans (by decide)
  have q3 : (s.toList == [110, 101, 103]) = false := (hS _).trans (by decide)
  have q4 : (s.toList == [98, 111, 111, 108]) = false := (hS _).trans (by decide)
  have q5 : (s.toList == [43]) = false := (hS _).trans (by decide)
  have q6 : (s.toList == [45]) = false := (hS _).trans (by decide)
  have q7 : (s.toList == [42]) = false := (hS _).trans (by decide)
  have q8 : (s.toList == [60]) = false := (hS _).trans (by decide)
  have q9 : (s.toList == [60, 61]) = false := (hS _).trans (by decide)
  have q10 : (s.toList == [61, 61]) = true := (hS _).trans (by decide)
  have e9 : stpI vs [61, 61] n beh st = (0, on2 [61, 61] st) := rfl
  rw [e9]
  clear e9 hS hw hv hr hl h
  go_enter Try.func17, Try.ntmps17
  go_wp2_with (first
    | (go_at_call 33; refine hC.mono ?_; rintro e w1 ⟨rfl, hm, b1⟩)
    | fail)
  go_ret2
  exact ⟨rfl, hm, hal0.trans b1⟩
set_option maxRecDepth 100000 in
set_option maxHeartbeats 4000000 in
theorem iobey_w11 {w : World} {X : Nat} {sv : Value} {st vs : List Int} {va : Option Addr} {vn vc : Nat} {ok : Nat → Prop} (h : Mc w X (.slice va vn vc) sv st) (hv : RdK ok w 1 (fun x cs => cs = [Value.int .i64 x]) vs (.slice va vn vc)) (s : ByteArray) (n : Int) (beh : Nat) (hb : beh ≤ 4000) (hl : st.length ≤ 4000) (hr : InR st) (hw : s.data.toList = [33, 61]) :
    Calls Try.prog 17 #[.pointer (some ⟨X, 0, none⟩), .agg #[.string s, .int .i64 n], .int .i64 (beh : Int)] w fun e w' => e = .returned (.tuple #[.int .i64 ((stpI vs [33, 61] n beh st).1 : Int), .int .i64 (stpI vs [33, 61] n beh st).2.1]) ∧ (∃ sv', Mc w' X (.slice va vn vc) sv' (stpI vs [33, 61] n beh st).2.2) ∧ Below X w w' := by
  have hal : Below w.heap.size w (w.alloc (.cells #[.string s, .int .i64 n] 43)) := (Below.refl _ _).alloc (Nat.le_refl _) _
  have hXl := h.b.lt
  have hB := Bn.new w [.string s, .int .i64 n] 43 _ rfl
  obtain ⟨p0, _⟩ := hB 0 _ rfl
  obtain ⟨p1, _⟩ := hB 1 _ rfl
  replace h := h.on hal
  replace hv : RdK (fun _ => True) _ 1 (fun x cs => cs = [Value.int .i64 x]) vs (.slice va vn vc) := hv.keep (fun x _ u hu => hu) (fun b _ hlt => ⟨trivial, hal.block b hlt⟩)
  have hal0 : Below X w (w.alloc (.cells #[.string s, .int .i64 n] 43)) := hal.mono (Nat.le_of_lt hXl)
  clear hal hB
  have hS := istr s
  have hC := itwo_any h s hl hr
  rw [hw] at hS
  rw [hw] at hC
  have q0 : (s.toList == [112, 117, 115, 104]) = false := (hS _).trans (by decide)
  have q1 : (s.toList == [108, 111, 97, 100]) = false := (hS _).trans (by decide)
  have q2 : (s.toList == [110, 111, 116]) = false := (hS _).trans (by decide)
  have q3 : (s.toList == [110, 101, 103]) = false := (hS _).trans (by decide)
  have q4 : (s.toList == [98, 111, 111, 108]) = false := (hS _).trans (by decide)
  have q5 : (s.toList == [43]) = false := (hS _).trans (by decide)
  have q6 : (s.toList == [45]) = false := (hS _).trans (by decide)
  have q7 : (s.toList == [42]) = false := (hS _).trans (by decide)
  have q8 : (s.toList == [60]) = false := (hS _).trans (by decide)
  have q9 : (s.toList == [60, 61]) = false := (hS _).trans (by decide)
  have q10 : (s.toList == [61, 61]) = false := (hS _).trans (by decide)
  have q11 : (s.toList == [33, 61]) = true := (hS _).trans (by decide)
  have e9 : stpI vs [33, 61] n beh st = (0, on2 [33, 61] st) := rfl
  rw [e9]
  clear e9 hS hw hv hr hl h
  go_enter Try.func17, Try.ntmps17
  go_wp2_with (first
    | (go_at_call 33; refine hC.mono ?_; rintro e w1 ⟨rfl, hm, b1⟩)
    | fail)
  go_ret2
  exact ⟨rfl, hm, hal0.trans b1⟩
set_option maxRecDepth 100000 in
set_option maxHeartbeats 4000000 in
theorem iobey_w12 {w : World} {X : Nat} {sv : Value} {st vs : List Int} {va : Option Addr} {vn vc : Nat} {ok : Nat → Prop} (h : Mc w X (.slice va vn vc) sv st) (hv : RdK ok w 1 (fun x cs => cs = [Value.int .i64 x]) vs (.slice va vn vc)) (s : ByteArray) (n : Int) (beh : Nat) (hb : beh ≤ 4000) (hl : st.length ≤ 4000) (hr : InR st) (hw : s.data.toList = [97, 110, 100]) :
    Calls Try.prog 17 #[.pointer (some ⟨X, 0, none⟩), .agg #[.string s, .int .i64 n], .int .i64 (beh : Int)] w fun e w' => e = .returned (.tuple #[.int .i64 ((stpI vs [97, 110, 100] n beh st).1 : Int), .int .i64 (stpI vs [97, 110, 100] n beh st).2.1]) ∧ (∃ sv', Mc w' X (.slice va vn vc) sv' (stpI vs [97, 110, 100] n beh st).2.2) ∧ Below X w w' := by
  have hal : Below w.heap.size w (w.alloc (.cells #[.string s, .int .i64 n] 43)) := (Below.refl _ _).alloc (Nat.le_refl _) _
  have hXl := h.b.lt
  have hB := Bn.new w [.string s, .int .i64 n] 43 _ rfl
  obtain ⟨p0, _⟩ := hB 0 _ rfl
  obtain ⟨p1, _⟩ := hB 1 _ rfl
  replace h := h.on hal
  replace hv : RdK (fun _ => True) _ 1 (fun x cs => cs = [Value.int .i64 x]) vs (.slice va vn vc) := hv.keep (fun x _ u hu => hu) (fun b _ hlt => ⟨trivial, hal.block b hlt⟩)
  have hal0 : Below X w (w.alloc (.cells #[.string s, .int .i64 n] 43)) := hal.mono (Nat.le_of_lt hXl)
  clear hal hB
  have hS := istr s
  have hC := ijump_any h false n beh hb hl
  rw [hw] at hS
  have q0 : (s.toList == [112, 117, 115, 104]) = false := (hS _).trans (by decide)
  have q1 : (s.toList == [108, 111, 97, 100]) = false := (hS _).trans (by decide)
  have q2 : (s.toList == [110, 111, 116]) = false := (hS _).trans (by decide)
  have q3 : (s.toList == [110, 101, 103]) = false := (hS _).trans (by decide)
  have q4 : (s.toList == [98, 111, 111, 108]) = false := (hS _).trans (by decide)
  have q5 : (s.toList == [43]) = false := (hS _).trans (by decide)
  have q6 : (s.toList == [45]) = false := (hS _).trans (by decide)
  have q7 : (s.toList == [42]) = false := (hS _).trans (by decide)
  have q8 : (s.toList == [60]) = false := (hS _).trans (by decide)
  have q9 : (s.toList == [60, 61]) = false := (hS _).trans (by decide)
  have q10 : (s.toList == [61, 61]) = false := (hS _).trans (by decide)
  have q11 : (s.toList == [33, 61]) = false := (hS _).trans (by decide)
  have q99 : (s.toList == [111, 114]) = false := (hS _).trans (by decide)
  have q12 : (s.toList == [97, 110, 100]) = true := (hS _).trans (by decide)
  have e9 : stpI vs [97, 110, 100] n beh st = jmpS false n beh st := rfl
  rw [e9]
  clear e9 hS hw hv hr hl h
  go_enter Try.func17, Try.ntmps17
  go_wp2_with (first
    | (go_at_call 34; refine hC.mono ?_; rintro e w1 ⟨rfl, hm, b1⟩)
    | fail)
  go_ret2
  exact ⟨rfl, hm, hal0.trans b1⟩
set_option maxRecDepth 100000 in
set_option maxHeartbeats 4000000 in
theorem iobey_w13 {w : World} {X : Nat} {sv : Value} {st vs : List Int} {va : Option Addr} {vn vc : Nat} {ok : Nat → Prop} (h : Mc w X (.slice va vn vc) sv st) (hv : RdK ok w 1 (fun x cs => cs = [Value.int .i64 x]) vs (.slice va vn vc)) (s : ByteArray) (n : Int) (beh : Nat) (hb : beh ≤ 4000) (hl : st.length ≤ 4000) (hr : InR st) (hw : s.data.toList = [111, 114]) :
    Calls Try.prog 17 #[.pointer (some ⟨X, 0, none⟩), .agg #[.string s, .int .i64 n], .int .i64 (beh : Int)] w fun e w' => e = .returned (.tuple #[.int .i64 ((stpI vs [111, 114] n beh st).1 : Int), .int .i64 (stpI vs [111, 114] n beh st).2.1]) ∧ (∃ sv', Mc w' X (.slice va vn vc) sv' (stpI vs [111, 114] n beh st).2.2) ∧ Below X w w' := by
  have hal : Below w.heap.size w (w.alloc (.cells #[.string s, .int .i64 n] 43)) := (Below.refl _ _).alloc (Nat.le_refl _) _
  have hXl := h.b.lt
  have hB := Bn.new w [.string s, .int .i64 n] 43 _ rfl
  obtain ⟨p0, _⟩ := hB 0 _ rfl
  obtain ⟨p1, _⟩ := hB 1 _ rfl
  replace h := h.on hal
  replace hv : RdK (fun _ => True) _ 1 (fun x cs => cs = [Value.int .i64 x]) vs (.slice va vn vc) := hv.keep (fun x _ u hu => hu) (fun b _ hlt => ⟨trivial, hal.block b hlt⟩)
  have hal0 : Below X w (w.alloc (.cells #[.string s, .int .i64 n] 43)) := hal.mono (Nat.le_of_lt hXl)
  clear hal hB
  have hS := istr s
  have hC := ijump_any h true n beh hb hl
  rw [hw] at hS
  have q0 : (s.toList == [112, 117, 115, 104]) = false := (hS _).trans (by decide)
  have q1 : (s.toList == [108, 111, 97, 100]) = false := (hS _).trans (by decide)
  have q2 : (s.toList == [110, 111, 116]) = false := (hS _).trans (by decide)
  have q3 : (s.toList == [110, 101, 103]) = false := (hS _).trans (by decide)
  have q4 : (s.toList == [98, 111, 111, 108]) = false := (hS _).trans (by decide)
  have q5 : (s.toList == [43]) = false := (hS _).trans (by decide)
  have q6 : (s.toList == [45]) = false := (hS _).trans (by decide)
  have q7 : (s.toList == [42]) = false := (hS _).trans (by decide)
  have q8 : (s.toList == [60]) = false := (hS _).trans (by decide)
  have q9 : (s.toList == [60, 61]) = false := (hS _).trans (by decide)
  have q10 : (s.toList == [61, 61]) = false := (hS _).trans (by decide)
  have q11 : (s.toList == [33, 61]) = false := (hS _).trans (by decide)
  have q12 : (s.toList == [97, 110, 100]) = false := (hS _).trans (by decide)
  have q13 : (s.toList == [111, 114]) = true := (hS _).trans (by decide)
  have e9 : stpI vs [111, 114] n beh st = jmpS true n beh st := rfl
  rw [e9]
  clear e9 hS hw hv hr hl h
  go_enter Try.func17, Try.ntmps17
  go_wp2_with (first
    | (go_at_call 34; refine hC.mono ?_; rintro e w1 ⟨rfl, hm, b1⟩)
    | fail)
  go_ret2
  exact ⟨rfl, hm, hal0.trans b1⟩
set_option maxRecDepth 100000 in
set_option maxHeartbeats 4000000 in
theorem iobey_no {w : World} {X : Nat} {sv : Value} {st vs : List Int} {va : Option Addr} {vn vc : Nat} {ok : Nat → Prop} (h : Mc w X (.slice va vn vc) sv st) (hv : RdK ok w 1 (fun x cs => cs = [Value.int .i64 x]) vs (.slice va vn vc)) (s : ByteArray) (n : Int) (beh : Nat) (hb : beh ≤ 4000) (hl : st.length ≤ 4000) (hr : InR st) (r0 : s.data.toList ≠ [112, 117, 115, 104]) (r1 : s.data.toList ≠ [108, 111, 97, 100]) (r2 : s.data.toList ≠ [110, 111, 116]) (r3 : s.data.toList ≠ [110, 101, 103]) (r4 : s.data.toList ≠ [98, 111, 111, 108]) (r5 : s.data.toList ≠ [43]) (r6 : s.data.toList ≠ [45]) (r7 : s.data.toList ≠ [42]) (r8 : s.data.toList ≠ [60]) (r9 : s.data.toList ≠ [60, 61]) (r10 : s.data.toList ≠ [61, 61]) (r11 : s.data.toList ≠ [33, 61]) (r12 : s.data.toList ≠ [97, 110, 100]) (r13 : s.data.toList ≠ [111, 114]) :
    Calls Try.prog 17 #[.pointer (some ⟨X, 0, none⟩), .agg #[.string s, .int .i64 n], .int .i64 (beh : Int)] w fun e w' => e = .returned (.tuple #[.int .i64 ((stpI vs s.data.toList n beh st).1 : Int), .int .i64 (stpI vs s.data.toList n beh st).2.1]) ∧ (∃ sv', Mc w' X (.slice va vn vc) sv' (stpI vs s.data.toList n beh st).2.2) ∧ Below X w w' := by
  have hal : Below w.heap.size w (w.alloc (.cells #[.string s, .int .i64 n] 43)) := (Below.refl _ _).alloc (Nat.le_refl _) _
  have hXl := h.b.lt
  have hB := Bn.new w [.string s, .int .i64 n] 43 _ rfl
  obtain ⟨p0, _⟩ := hB 0 _ rfl
  obtain ⟨p1, _⟩ := hB 1 _ rfl
  replace h := h.on hal
  replace hv : RdK (fun _ => True) _ 1 (fun x cs => cs = [Value.int .i64 x]) vs (.slice va vn vc) := hv.keep (fun x _ u hu => hu) (fun b _ hlt => ⟨trivial, hal.block b hlt⟩)
  have hal0 : Below X w (w.alloc (.cells #[.string s, .int .i64 n] 43)) := hal.mono (Nat.le_of_lt hXl)
  clear hal hB
  have hS := istr s
  have q0 : (s.toList == [112, 117, 115, 104]) = false := (hS _).trans (beq_eq_false_iff_ne.2 r0)
  have q1 : (s.toList == [108, 111, 97, 100]) = false := (hS _).trans (beq_eq_false_iff_ne.2 r1)
  have q2 : (s.toList == [110, 111, 116]) = false := (hS _).trans (beq_eq_false_iff_ne.2 r2)
  have q3 : (s.toList == [110, 101, 103]) = false := (hS _).trans (beq_eq_false_iff_ne.2 r3)
  have q4 : (s.toList == [98, 111, 111, 108]) = false := (hS _).trans (beq_eq_false_iff_ne.2 r4)
  have q5 : (s.toList == [43]) = false := (hS _).trans (beq_eq_false_iff_ne.2 r5)
  have q6 : (s.toList == [45]) = false := (hS _).trans (beq_eq_false_iff_ne.2 r6)
  have q7 : (s.toList == [42]) = false := (hS _).trans (beq_eq_false_iff_ne.2 r7)
  have q8 : (s.toList == [60]) = false := (hS _).trans (beq_eq_false_iff_ne.2 r8)
  have q9 : (s.toList == [60, 61]) = false := (hS _).trans (beq_eq_false_iff_ne.2 r9)
  have q10 : (s.toList == [61, 61]) = false := (hS _).trans (beq_eq_false_iff_ne.2 r10)
  have q11 : (s.toList == [33, 61]) = false := (hS _).trans (beq_eq_false_iff_ne.2 r11)
  have q12 : (s.toList == [97, 110, 100]) = false := (hS _).trans (beq_eq_false_iff_ne.2 r12)
  have q13 : (s.toList == [111, 114]) = false := (hS _).trans (beq_eq_false_iff_ne.2 r13)
  have e9 : stpI vs s.data.toList n beh st = (0, 2, st) := by
    unfold stpI isOne isTwo
    simp [r0, r1, r2, r3, r4, r5, r6, r7, r8, r9, r10, r11, r12, r13]
  rw [e9]
  clear e9 hS r0 r1 r2 r3 r4 r5 r6 r7 r8 r9 r10 r11 r12 r13
  go_enter Try.func17, Try.ntmps17
  go_wp2
  go_ret2
  exact ⟨rfl, ⟨_, h⟩, hal0⟩
theorem iobey_any {w : World} {X : Nat} {sv : Value} {st vs : List Int} {va : Option Addr} {vn vc : Nat} {ok : Nat → Prop} (h : Mc w X (.slice va vn vc) sv st) (hv : RdK ok w 1 (fun x cs => cs = [Value.int .i64 x]) vs (.slice va vn vc)) (s : ByteArray) (n : Int) (beh : Nat) (hb : beh ≤ 4000) (hl : st.length ≤ 4000) (hr : InR st) :
    Calls Try.prog 17 #[.pointer (some ⟨X, 0, none⟩), .agg #[.string s, .int .i64 n], .int .i64 (beh : Int)] w fun e w' => e = .returned (.tuple #[.int .i64 ((stpI vs s.data.toList n beh st).1 : Int), .int .i64 (stpI vs s.data.toList n beh st).2.1]) ∧ (∃ sv', Mc w' X (.slice va vn vc) sv' (stpI vs s.data.toList n beh st).2.2) ∧ Below X w w' := by
  by_cases r0 : s.data.toList = [112, 117, 115, 104]
  · have hx := iobey_w0 h hv s n beh hb hl hr r0
    rw [r0]
    exact hx
  by_cases r1 : s.data.toList = [108, 111, 97, 100]
  · have hx := iobey_w1 h hv s n beh hb hl hr r1
    rw [r1]
    exact hx
  by_cases r2 : s.data.toList = [110, 111, 116]
  · have hx := iobey_w2 h hv s n beh hb hl hr r2
    rw [r2]
    exact hx
  by_cases r3 : s.data.toList = [110, 101, 103]
  · have hx := iobey_w3 h hv s n beh hb hl hr r3
    rw [r3]
    exact hx
  by_cases r4 : s.data.toList = [98, 111, 111, 108]
  · have hx := iobey_w4 h hv s n beh hb hl hr r4
    rw [r4]
    exact hx
  by_cases r5 : s.data.toList = [43]
  · have hx := iobey_w5 h hv s n beh hb hl hr r5
    rw [r5]
    exact hx
  by_cases r6 : s.data.toList = [45]
  · have hx := iobey_w6 h hv s n beh hb hl hr r6
    rw [r6]
    exact hx
  by_cases r7 : s.data.toList = [42]
  · have hx := iobey_w7 h hv s n beh hb hl hr r7
    rw [r7]
    exact hx
  by_cases r8 : s.data.toList = [60]
  · have hx := iobey_w8 h hv s n beh hb hl hr r8
    rw [r8]
    exact hx
  by_cases r9 : s.data.toList = [60, 61]
  · have hx := iobey_w9 h hv s n beh hb hl hr r9
    rw [r9]
    exact hx
  by_cases r10 : s.data.toList = [61, 61]
  · have hx := iobey_w10 h hv s n beh hb hl hr r10
    rw [r10]
    exact hx
  by_cases r11 : s.data.toList = [33, 61]
  · have hx := iobey_w11 h hv s n beh hb hl hr r11
    rw [r11]
    exact hx
  by_cases r12 : s.data.toList = [97, 110, 100]
  · have hx := iobey_w12 h hv s n beh hb hl hr r12
    rw [r12]
    exact hx
  by_cases r13 : s.data.toList = [111, 114]
  · have hx := iobey_w13 h hv s n beh hb hl hr r13
    rw [r13]
    exact hx
  exact iobey_no h hv s n beh hb hl hr r0 r1 r2 r3 r4 r5 r6 r7 r8 r9 r10 r11 r12 r13
end Go.Proofs.Ytpdkmbifibkepaa

/- Code as it is run, whole: math. -/
namespace Go.Proofs.Ytpdkmbifibkepaa
open Go.RowKit Go.Lib
set_option linter.unusedSimpArgs false
set_option linter.unusedVariables false

theorem hideI {p : Prop} (h : p) : Hid p := h
def rIns : In2 → List Value → Prop := fun x cs => cs = [.string x.1, .int .i64 x.2]
def rI64 : Int → List Value → Prop := fun x cs => cs = [Value.int .i64 x]
/-- What is left at the end. -/
def endI : List Int → Int × Int
  | [x] => (x, 0)
  | _ => (0, 2)
/-- What the code answers from its instruction i on: the value, the error. -/
def rnI (vs : List Int) (c : List In2) (i : Nat) (st : List Int) : Int × Int :=
  if h : i < c.length then
    if (stpI vs (c[i]).1.data.toList (c[i]).2 (c.length - i - 1) st).2.1 = 0 then rnI vs c (i + (stpI vs (c[i]).1.data.toList (c[i]).2 (c.length - i - 1) st).1 + 1) (stpI vs (c[i]).1.data.toList (c[i]).2 (c.length - i - 1) st).2.2
    else (0, (stpI vs (c[i]).1.data.toList (c[i]).2 (c.length - i - 1) st).2.1)
  else endI st
termination_by c.length - i
decreasing_by omega
def runI (vs : List Int) (c : List In2) : Int × Int := if c.length > 1000 then (0, 4) else rnI vs c 0 []
theorem rnI_end {vs : List Int} {c : List In2} {i : Nat} {st : List Int} (h : ¬ i < c.length) : rnI vs c i st = endI st := by
  rw [rnI, dif_neg h]
theorem rnI_bad {vs : List Int} {c : List In2} {i : Nat} {st : List Int} {p : Nat} {e : Int} {st' : List Int} (h : i < c.length) (hs : stpI vs (c[i]).1.data.toList (c[i]).2 (c.length - i - 1) st = (p, e, st')) (he : ¬ e = 0) : rnI vs c i st = (0, e) := by
  rw [rnI, dif_pos h, hs, if_neg he]
theorem rnI_ok {vs : List Int} {c : List In2} {i : Nat} {st : List Int} {p : Nat} {st' : List Int} (h : i < c.length) (hs : stpI vs (c[i]).1.data.toList (c[i]).2 (c.length - i - 1) st = (p, 0, st')) : rnI vs c i st = rnI vs c (i + p + 1) st' := by
  rw [rnI, dif_pos h, hs, if_pos rfl]
theorem litI_len (n : Int) (st : List Int) : (litI n st).2.length ≤ st.length + 1 := by
  unfold litI; split
  · simp
  · exact psh_len _ _
theorem lodI_len (vs : List Int) (n : Int) (st : List Int) : (lodI vs n st).2.length ≤ st.length + 1 := by
  unfold lodI; split
  · simp
  · exact psh_len _ _
theorem on1_len (s : List UInt8) (st : List Int) : (on1 s st).2.length ≤ st.length + 1 := by
  cases st with
  | nil => simp [on1]
  | cons x r => have := psh_len (oneI s x) r; simp only [on1, List.length_cons]; omega
theorem on2_len (s : List UInt8) (st : List Int) : (on2 s st).2.length ≤ st.length + 1 := by
  match st with
  | [] => simp [on2]
  | [x] => simp [on2]
  | y :: x :: r => have := psh_len (wkI s x y) r; simp only [on2, List.length_cons]; omega
theorem jmpS_len (o : Bool) (n : Int) (beh : Nat) (st : List Int) : (jmpS o n beh st).2.2.length ≤ st.length + 1 := by
  unfold jmpS
  split
  · simp
  · cases st with
    | nil => simp
    | cons x r => simp only; split <;> simp <;> omega
theorem stpI_len (vs : List Int) (s : List UInt8) (n : Int) (beh : Nat) (st : List Int) : (stpI vs s n beh st).2.2.length ≤ st.length + 1 := by
  unfold stpI
  split; · exact litI_len _ _
  split; · exact lodI_len _ _ _
  split; · exact on1_len _ _
  split; · exact on2_len _ _
  split; · exact jmpS_len _ _ _ _
  split; · exact jmpS_len _ _ _ _
  simp
theorem litI_in {n : Int} {st : List Int} (h : InR st) : InR (litI n st).2 := by
  unfold litI; split
  · exact h
  · exact psh_in h
theorem lodI_in {vs : List Int} {n : Int} {st : List Int} (h : InR st) : InR (lodI vs n st).2 := by
  unfold lodI; split
  · exact h
  · exact psh_in h
theorem on1_in {s : List UInt8} {st : List Int} (h : InR st) : InR (on1 s st).2 := by
  cases st with
  | nil => exact h
  | cons x r => exact psh_in h.tail
theorem on2_in {s : List UInt8} {st : List Int} (h : InR st) : InR (on2 s st).2 := by
  match st, h with
  | [], h => exact h
  | [x], h => exact fun y hy => absurd hy (by simp [on2])
  | y :: x :: r, h => exact psh_in h.tail.tail
theorem trI_in (b : Bool) {r : List Int} (h : InR r) : InR (trI b :: r) := by
  intro x hx
  rcases List.mem_cons.1 hx with rfl | hx
  · cases b <;> simp [trI]
  · exact h x hx
theorem jmpS_in {o : Bool} {n : Int} {beh : Nat} {st : List Int} (h : InR st) : InR (jmpS o n beh st).2.2 := by
  unfold jmpS
  split
  · exact h
  · cases st with
    | nil => exact h
    | cons x r =>
      simp only
      split
      · exact trI_in o h.tail
      · exact h.tail
theorem stpI_in {vs : List Int} {s : List UInt8} {n : Int} {beh : Nat} {st : List Int} (h : InR st) : InR (stpI vs s n beh st).2.2 := by
  unfold stpI
  split; · exact litI_in h
  split; · exact lodI_in h
  split; · exact on1_in h
  split; · exact on2_in h
  split; · exact jmpS_in h
  split; · exact jmpS_in h
  exact h
theorem jmpS_pass (o : Bool) (n : Int) (beh : Nat) (st : List Int) : (jmpS o n beh st).1 ≤ beh := by
  unfold jmpS
  split
  · simp
  · cases st with
    | nil => simp
    | cons x r =>
      simp only
      split
      · simp only; omega
      · simp
theorem stpI_pass (vs : List Int) (s : List UInt8) (n : Int) (beh : Nat) (st : List Int) : (stpI vs s n beh st).1 ≤ beh := by
  unfold stpI
  split; · simp
  split; · simp
  split; · simp
  split; · simp
  split; · exact jmpS_pass _ _ _ _
  split; · exact jmpS_pass _ _ _ _
  simp
end Go.Proofs.Ytpdkmbifibkepaa

/- The program's Run. -/
namespace Go.Proofs.Ytpdkmbifibkepaa
open Go.RowKit Go.Lib
set_option linter.unusedSimpArgs false
set_option linter.unusedVariables false
attribute [local go_sem ↓] Go.wp_at_zero Go.wp_at_succ
set_option maxRecDepth 100000 in
set_option maxHeartbeats 4000000 in
theorem irun_any {w : World} {ok ok' : Nat → Prop} {c : List In2} {vs : List Int} {cv vv : Value} (hc : RdK ok w 2 rIns c cv) (hv : RdK ok' w 1 rI64 vs vv) (hl : c.length ≤ 4000) :
    Calls Try.prog 9 #[cv, vv] w fun e w' => e = .returned (.tuple #[.int .i64 (runI vs c).1, .int .i64 (runI vs c).2]) ∧ Below w.heap.size w w' := by
  obtain ⟨R, hR⟩ : ∃ R, runI vs c = R := ⟨_, rfl⟩
  rw [hR]
  unfold runI at hR
  obtain ⟨a, cap, rfl, hlc, hcm, hcell⟩ := hc
  unfold maxLen at hcm
  obtain ⟨n, hn⟩ : ∃ n, c.length = n := ⟨_, rfl⟩
  rw [hn] at hl hlc hR ⊢
  obtain ⟨va, vc, rfl, _, _⟩ := hv.form
  obtain ⟨vn, hvn⟩ : ∃ n, vs.length = n := ⟨_, rfl⟩
  rw [hvn] at hv ⊢
  clear hvn
  have HC := hideI hcell
  have HN := hideI hn
  clear hcell hn
  by_cases h1 : n > 1000
  · rw [if_pos h1] at hR
    subst hR
    have h2 : (n : Int) > 1000 := by omega
    clear hv HC
    go_enter Try.func9, Try.ntmps9
    go_wp2
    go_ret2
    exact ⟨rfl, Below.refl _ _⟩
  · rw [if_neg h1] at hR
    have HR := hideI hR
    have h2 : ¬ (n : Int) > 1000 := by omega
    clear hR
    go_enter Try.func9, Try.ntmps9
    go_wp2
    have hal : Below w.heap.size w (w.alloc (.cells #[.slice va vn vc, .slice none 0 0] 61)) := (Below.refl _ _).alloc (Nat.le_refl _) _
    have hM : Mc (w.alloc (.cells #[.slice va vn vc, .slice none 0 0] 61)) w.heap.size (.slice va vn vc) (.slice none 0 0) [] := ⟨Bn.new w [.slice va vn vc, .slice none 0 0] 61 _ rfl, World.ownsRow_nil _ _ _ _⟩
    generalize (w.alloc (.cells #[.slice va vn vc, .slice none 0 0] 61)) = w1 at *
    go_loopw [7] (fun ix wr => ∃ (i : Nat) (st : List Int) (sv : Value), i ≤ n ∧ ix = .int .i64 (i : Int) ∧ Mc wr w.heap.size (.slice va vn vc) sv st ∧ InR st ∧ st.length ≤ i ∧ Hid (rnI vs c i st = R) ∧ Below w.heap.size w wr) (fun ix _ => n - (RowKit.intOf ix).toNat)
    case atStart => exact ⟨0, [], _, Nat.zero_le _, rfl, hM, fun x hx => absurd hx (by simp), Nat.le_refl _, HR, hal⟩
    case round =>
      obtain ⟨i, st, sv, hi, rfl, hm, hin, hsl, HQ, hb⟩ := hrel
      clear hM hal HR
      by_cases hlt : i < n
      · have hil : i < c.length := by rw [HN.out]; exact hlt
        obtain ⟨g, off, cs, rfl, _, hgl, _, hcs, hcl⟩ := HC.out i hil
        have c0 := hcl 0 (.string (c[i]).1) (by rw [hcs]; rfl)
        have c1 := hcl 1 (.int .i64 (c[i]).2) (by rw [hcs]; rfl)
        rw [Nat.add_zero] at c0
        have C0 := (hb.cell (p := ⟨g, off + i * 2, none⟩) hgl).trans c0
        have C1 := (hb.cell (p := ⟨g, off + i * 2 + 1, none⟩) hgl).trans c1
        have hvr : RdK (fun b => ok' b ∧ b < w.heap.size) wr 1 rI64 vs (.slice va vn vc) := hv.keep (fun _ _ _ h => h) (fun b ho hlb => ⟨⟨ho, hlb⟩, hb.block b hlb⟩)
        have hcall := iobey_any hm hvr (c[i]).1 (c[i]).2 (n - i - 1) (by omega) (by omega) hin
        have hstp : stpI vs (c[i]).1.data.toList (c[i]).2 (n - i - 1) st = stpI vs (c[i]).1.data.toList (c[i]).2 (c.length - i - 1) st := by rw [HN.out]
        have hS1 := stpI_len vs (c[i]).1.data.toList (c[i]).2 (n - i - 1) st
        have hS2 := stpI_in (vs := vs) (s := (c[i]).1.data.toList) (n := (c[i]).2) (beh := n - i - 1) hin
        have hS3 := stpI_pass vs (c[i]).1.data.toList (c[i]).2 (n - i - 1) st
        obtain ⟨⟨p, e, st'⟩, hst⟩ : ∃ r, stpI vs (c[i]).1.data.toList (c[i]).2 (n - i - 1) st = r := ⟨_, rfl⟩
        rw [hst] at hcall hS1 hS2 hS3
        have hst2 := hstp.symm.trans hst
        simp only at hcall hS1 hS2 hS3
        obtain ⟨xs, hxs⟩ : ∃ x, (c[i]).1 = x := ⟨_, rfl⟩
        obtain ⟨xn, hxn⟩ : ∃ x, (c[i]).2 = x := ⟨_, rfl⟩
        have i1 : (i : Int) < (n : Int) := by omega
        have i2 : (0 : Int) ≤ (i : Int) := by omega
        have i3 : (n : Int) - (i : Int) - 1 = ((n - i - 1 : Nat) : Int) := by omega
        obtain ⟨bh, hbh⟩ : ∃ k, n - i - 1 = k := ⟨_, rfl⟩
        rw [hbh] at i3 hcall hS3
        by_cases he : e = 0
        · subst he
          have HQ2 := hideI ((rnI_ok hil hst2).symm.trans HQ.out)
          rw [hxs] at C0 hcall
          rw [hxn] at C1 hcall
          clear c0 c1 hcl hcs hst2 hst hstp hxs hxn HQ hm hvr hin
          go_wp2_with (first
            | (go_at_call 17; refine hcall.mono ?_; rintro e w3 ⟨rfl, ⟨sv3, hm3⟩, b3⟩)
            | fail)
          go_roundw
          case rel => exact ⟨i + p + 1, st', sv3, by omega, by go_num, hm3, hS2, by omega, HQ2, hb.trans b3⟩
          case measure => simp [RowKit.intOf]; omega
        · have HQ2 := hideI ((rnI_bad hil hst2 he).symm.trans HQ.out)
          rw [hxs] at C0 hcall
          rw [hxn] at C1 hcall
          clear c0 c1 hcl hcs hst2 hst hstp hxs hxn HQ hm hvr hin
          go_wp2_with (first
            | (go_at_call 17; refine hcall.mono ?_; rintro e w3 ⟨rfl, ⟨sv3, hm3⟩, b3⟩)
            | fail)
          go_ret2
          rw [← HQ2.out]
          exact ⟨rfl, hb.trans b3⟩
      · have i1 : ¬ (i : Int) < (n : Int) := by omega
        have hE := (rnI_end (by rw [HN.out]; exact hlt)).symm.trans HQ.out
        obtain ⟨d1, g1⟩ := hm.b 1 _ rfl
        clear HQ hv HC
        match st, hm, hE, hsl with
        | [], hm, hE, _ =>
          obtain ⟨a0, cap0, rfl, _, _⟩ := orow_form hm.s
          have HE := hideI hE
          clear hm hE
          go_wp2
          go_ret2
          rw [← HE.out]
          exact ⟨rfl, hb⟩
        | [x], hm, hE, _ =>
          obtain ⟨g, cap0, rfl, _, _, _, _, c2, _⟩ := own_top hm.s
          have HE := hideI hE
          simp only [List.length_nil, Nat.zero_add] at c2 d1
          clear hm hE
          go_wp2
          go_ret2
          rw [← HE.out]
          exact ⟨rfl, hb⟩
        | x :: y :: r, hm, hE, hsl =>
          have hs := hm.s
          obtain ⟨k, hk⟩ : ∃ k, (x :: y :: r).length = k := ⟨_, rfl⟩
          rw [hk] at hs
          have i4 : ¬ (k : Int) = 1 := by simp at hk; omega
          obtain ⟨a0, cap0, rfl, _, _⟩ := orow_form hs
          have HE := hideI hE
          clear hm hE hk hs hsl
          go_wp2
          go_ret2
          rw [← HE.out]
          exact ⟨rfl, hb⟩
/-- The document's machine in block X: its stack, its error. -/
structure Md (w : World) (X : Nat) (lv : Value) (st : List Int) (e : Int) : Prop where
  b : Bn w X [lv, .int .i64 e]
  s : w.ownsRow (X + 1) 2 1 lv st.length (st.reverse.map (Value.int .i64))


theorem Md.on {w w' : World} {X : Nat} {lv : Value} {st : List Int} {e : Int} (h : Md w X lv st e) (hb : Below w.heap.size w w') : Md w' X lv st e :=
  ⟨h.b.on hb, ownsRow_keep h.s (fun g hg => hb.block g (World.ownsRow.lt h.s g hg).2)⟩

end Go.Proofs.Ytpdkmbifibkepaa

/- Nodes: which one lies in which, by how deep they lie, and by their parents. Math alone. -/
namespace Go.Proofs.Ytpdkmbifibkepaa
set_option linter.unusedVariables false

/-- The last one ahead of k that lies less than d deep. -/
def ppar (D : Nat → Int) (d : Int) : Nat → Int
  | 0 => -1
  | k + 1 => if D k < d then (k : Int) else ppar D d k
/-- The first one from j on, of f, that lies no more than d deep. -/
def pbeh (D : Nat → Int) (d : Int) : Nat → Nat → Nat
  | 0, j => j
  | f + 1, j => if d < D j then pbeh D d f (j + 1) else j
theorem pbeh_le (D : Nat → Int) (d : Int) : ∀ f j : Nat, j ≤ pbeh D d f j ∧ pbeh D d f j ≤ j + f
  | 0, j => by unfold pbeh; omega
  | f + 1, j => by
    have := pbeh_le D d f (j + 1)
    unfold pbeh
    split <;> omega
/-- Each lies at most 1 deeper than the one ahead. -/
def nst (D : Nat → Int) (n : Nat) : Prop := ∀ i < n, 0 ≤ D i ∧ (i = 0 → D i ≤ 0) ∧ (0 < i → D i ≤ D (i - 1) + 1)
/-- What is told of the nodes follows of how deep they lie. -/
def FmP (n : Nat) (D P B : Nat → Int) (L : Nat → Bool) : Prop :=
  n ≤ 40 ∧ nst D n ∧ ∀ i < n, P i = ppar D (D i) i ∧ B i = (pbeh D (D i) (n - (i + 1)) (i + 1) : Nat) ∧ L i = decide (B i = (i : Int) + 1)
theorem FmP.beh {n : Nat} {D P B : Nat → Int} {L : Nat → Bool} (h : FmP n D P B L) {i : Nat} (hi : i < n) : (i : Int) < B i ∧ B i ≤ n := by
  rw [(h.2.2 i hi).2.1]
  have := pbeh_le D (D i) (n - (i + 1)) (i + 1)
  omega
end Go.Proofs.Ytpdkmbifibkepaa

/- Nodes in memory. -/
namespace Go.Proofs.Ytpdkmbifibkepaa
open Go.RowKit Go.Lib
set_option linter.unusedSimpArgs false
set_option linter.unusedVariables false

instance decNst (D : Nat → Int) (n : Nat) : Decidable (nst D n) := by unfold nst; infer_instance
instance decFmP (n : Nat) (D P B : Nat → Int) (L : Nat → Bool) : Decidable (FmP n D P B L) := by unfold FmP; infer_instance
theorem RdK.on {α : Type} {ok : Nat → Prop} {w w' : World} {k : Nat} {R : (Nat → Prop) → World → α → List Value → Prop} {v : Value} {l : List α} (hR : Kp R) (h : RdK ok w k (R ok w) l v) (hb : Below w.heap.size w w') : RdK ok w' k (R ok w') l v :=
  h.stay hR (fun b hk hlt => ⟨hk, hb.block b hlt⟩)
end Go.Proofs.Ytpdkmbifibkepaa

/- What the program's nested and placed answer. -/
namespace Go.Proofs.Ytpdkmbifibkepaa
open Go.RowKit Go.Lib
set_option linter.unusedSimpArgs false
set_option linter.unusedVariables false
attribute [local go_sem ↓] Go.wp_at_zero Go.wp_at_succ

end Go.Proofs.Ytpdkmbifibkepaa
