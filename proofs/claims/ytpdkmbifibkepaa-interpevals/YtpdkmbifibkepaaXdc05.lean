import Derived.Shelf.Strconv.Clone
import Derived.Test.YtpdkmbifibkepaaXdc04
import Derived.Test.YtpdkmbifibkepaaRows
import Derived.Test.YtpdkmbifibkepaaXdc02
import Derived.Deep.RegionHeldLaw
import Derived.OwnWalk
import Derived.Deep.Cut
import Derived.Deep.DeepCutAuto
import Derived.Test.YtpdkmbifibkepaaXdc01
import Derived.Deep.RegionHeld
import Derived.Deep.DrawnRows
import Derived.WalkSmall
import Derived.Deep.RegionLaw

/- What strings.Clone does: the same bytes. -/
namespace Go.Proofs.Ytpdkmbifibkepaa
open Go.Shelf Go.RowKit Go.Lib
set_option linter.unusedSimpArgs false
set_option linter.unusedVariables false

def renC : Ren := { f := fun x => match x with | 316 => 48 | n => n, t := fun x => match x with | 9 => 9 | 3 => 3 | 4 => 4 | 37 => 112 | 0 => 0 | 127 => 113 | 5 => 5 | n => n, g := fun x => x }
theorem laysC : LaysM.n316 Try.prog renC :=
  { mixed := by kernel_rfl, f316 := Try.func48.trans (congrArg some (by kernel_rfl)),
    t0 := Try.underlying0, a0 := Try.isAgg0, z0 := Try.sizeOf0, v0 := Try.zeroValue0, t3 := Try.underlying3, a3 := Try.isAgg3, z3 := Try.sizeOf3, v3 := Try.zeroValue3, t4 := Try.underlying4, a4 := Try.isAgg4, z4 := Try.sizeOf4, v4 := Try.zeroValue4,
    t9 := Try.underlying9, a9 := Try.isAgg9, z9 := Try.sizeOf9, v9 := Try.zeroValue9, t37 := Try.underlying112, a37 := Try.isAgg112, z37 := Try.sizeOf112, v37 := Try.zeroValue112,
    t127 := Try.underlying113, a127 := Try.isAgg113, z127 := Try.sizeOf113, v127 := Try.zeroValue113, t5 := Try.underlying5, a5 := Try.isAgg5, z5 := Try.sizeOf5, v5 := Try.zeroValue5,
    i0 := by kernel_rfl, i3 := by kernel_rfl, i4 := by kernel_rfl, i5 := by kernel_rfl, i9 := by kernel_rfl, i37 := by kernel_rfl, i127 := by kernel_rfl }
theorem pClone_any (s : ByteArray) (w : World) (hs : s.size ≤ 140737488351232) :
    Calls Try.prog 36 #[.string s] w fun e w' => e = .returned (.string s) ∧ Below w.heap.size w w' := by
  have h1 : Calls Try.prog 48 #[.string s] w fun e w' => e = .returned (.string s) ∧ Below w.heap.size w w' := Any.stringslite_Clone laysC s w (by omega)
  go_enter Try.func36, Try.ntmps36
  go_wp2_with (first
    | (go_at_call 48; refine h1.mono ?_; rintro e w1 ⟨rfl, b1⟩))
  go_ret
  exact ⟨rfl, b1⟩

end Go.Proofs.Ytpdkmbifibkepaa

/- What the program's operator, rightTop do. -/
namespace Go.Proofs.Ytpdkmbifibkepaa
open Go.RowKit Go.Lib
set_option linter.unusedSimpArgs false
set_option linter.unusedVariables false
attribute [local go_sem ↓] Go.wp_at_zero Go.wp_at_succ

theorem str_is2 (s : ByteArray) (x : List UInt8) : (s.toList == x) = (bl s == x) := by rw [ByteArray.toList_eq]

set_option maxHeartbeats 1000000 in
theorem pOperator_any (s : ByteArray) (w : World) : Calls Try.prog 47 #[.string s] w fun e w' => e = .returned (.bool (opr s)) ∧ w = w' := by
  have hS := str_is2 s
  obtain ⟨l, hl⟩ : ∃ l, bl s = l := ⟨_, rfl⟩
  have ho : opr s = ops9.any (fun x => l == x) := by rw [← hl]; rfl
  rw [ho]
  simp only [hl] at hS
  clear hl ho
  obtain ⟨L, hL⟩ : ∃ L, s.toList = L := ⟨_, rfl⟩
  have q0 : (s.toList == [43]) = (l == [43]) := hS _
  have q1 : (s.toList == [45]) = (l == [45]) := hS _
  have q2 : (s.toList == [42]) = (l == [42]) := hS _
  have q3 : (s.toList == [60]) = (l == [60]) := hS _
  have q4 : (s.toList == [60, 61]) = (l == [60, 61]) := hS _
  have q5 : (s.toList == [61, 61]) = (l == [61, 61]) := hS _
  have q6 : (s.toList == [33, 61]) = (l == [33, 61]) := hS _
  have q7 : (s.toList == [38, 38]) = (l == [38, 38]) := hS _
  have q8 : (s.toList == [124, 124]) = (l == [124, 124]) := hS _
  clear hS hL
  simp only [ops9, List.any_cons, List.any_nil, Bool.or_false]
  cases r0 : (l == [43])
  case true => rw [r0] at q0; clear q1 q2 q3 q4 q5 q6 q7 q8; go_enter Try.func47, Try.ntmps47; go_wp2; go_ret; exact ⟨ret_bool (by simp), rfl⟩
  cases r1 : (l == [45])
  case true => rw [r0] at q0; rw [r1] at q1; clear q2 q3 q4 q5 q6 q7 q8; go_enter Try.func47, Try.ntmps47; go_wp2; go_ret; exact ⟨ret_bool (by simp), rfl⟩
  rw [r0] at q0; rw [r1] at q1
  cases r2 : (l == [42])
  case true => rw [r2] at q2; clear q3 q4 q5 q6 q7 q8; go_enter Try.func47, Try.ntmps47; go_wp2; go_ret; exact ⟨ret_bool (by simp), rfl⟩
  rw [r2] at q2
  cases r3 : (l == [60])
  case true => rw [r3] at q3; clear q4 q5 q6 q7 q8; go_enter Try.func47, Try.ntmps47; go_wp2; go_ret; exact ⟨ret_bool (by simp), rfl⟩
  rw [r3] at q3
  cases r4 : (l == [60, 61])
  case true => rw [r4] at q4; clear q5 q6 q7 q8; go_enter Try.func47, Try.ntmps47; go_wp2; go_ret; exact ⟨ret_bool (by simp), rfl⟩
  rw [r4] at q4
  cases r5 : (l == [61, 61])
  case true => rw [r5] at q5; clear q6 q7 q8; go_enter Try.func47, Try.ntmps47; go_wp2; go_ret; exact ⟨ret_bool (by simp), rfl⟩
  rw [r5] at q5
  cases r6 : (l == [33, 61])
  case true => rw [r6] at q6; clear q7 q8; go_enter Try.func47, Try.ntmps47; go_wp2; go_ret; exact ⟨ret_bool (by simp), rfl⟩
  rw [r6] at q6
  cases r7 : (l == [38, 38])
  case true => rw [r7] at q7; clear q8; go_enter Try.func47, Try.ntmps47; go_wp2; go_ret; exact ⟨ret_bool (by simp), rfl⟩
  rw [r7] at q7
  cases r8 : (l == [124, 124])
  case true => rw [r8] at q8; go_enter Try.func47, Try.ntmps47; go_wp2; go_ret; exact ⟨ret_bool (by simp), rfl⟩
  rw [r8] at q8
  go_enter Try.func47, Try.ntmps47
  go_wp2
  go_ret
  exact ⟨ret_bool (by simp), rfl⟩

/-- What an expression is by itself is right. -/
def rtC (k n : Int) (s : ByteArray) : Bool := if k = 1 then decide (0 ≤ n) && decide (n ≤ 1000000000) else if k = 2 then nameS (bl s) else if k = 3 ∨ k = 4 then true else if k = 5 then opr s else false
set_option maxRecDepth 100000 in
set_option maxHeartbeats 4000000 in
theorem rightTop_any (k n : Int) (s : ByteArray) (a : Option Addr) (m : Nat) (hs : s.size ≤ 1000) (w : World) :
    Calls Try.prog 35 #[.agg #[.int .i64 k, .int .i64 n, .string s, .slice a m m]] w fun e w' => e = .returned (.bool (rtC k n s)) ∧ Below w.heap.size w w' := by
  have hb : Below w.heap.size w (w.alloc (.cells #[.int .i64 k, .int .i64 n, .string s, .slice a m m] 74)) := (Below.refl _ _).alloc (Nat.le_refl _) _
  have h1 := fun w1 => pName_any s w1 (by omega)
  have h2 := fun w1 => pOperator_any s w1
  unfold rtC
  by_cases k1 : k = 1
  · subst k1
    rw [if_pos rfl]
    clear h1 h2
    by_cases c1 : 0 ≤ n
    · by_cases c2 : n ≤ 1000000000
      · rw [decide_eq_true c1, decide_eq_true c2]
        go_enter Try.func35, Try.ntmps35
        go_wp2
        go_ret
        exact ⟨rfl, hb⟩
      · rw [decide_eq_true c1, decide_eq_false c2]
        go_enter Try.func35, Try.ntmps35
        go_wp2
        go_ret
        exact ⟨rfl, hb⟩
    · rw [decide_eq_false c1, Bool.false_and]
      go_enter Try.func35, Try.ntmps35
      go_wp2
      go_ret
      exact ⟨rfl, hb⟩
  rw [if_neg k1]
  have e1 : (k == 1) = false := beq_eq_false_iff_ne.2 k1
  by_cases k2 : k = 2
  · subst k2
    rw [if_pos rfl]
    clear h2 k1 e1
    go_enter Try.func35, Try.ntmps35
    go_wp2_with (first
      | (go_at_call 46; refine (h1 _).mono ?_; rintro e w1 ⟨rfl, b1⟩))
    go_ret
    exact ⟨rfl, hb.trans (b1.mono hb.size)⟩
  rw [if_neg k2]
  have e2 : (k == 2) = false := beq_eq_false_iff_ne.2 k2
  by_cases k34 : k = 3 ∨ k = 4
  · rw [if_pos k34]
    clear h1 h2
    rcases k34 with rfl | rfl
    · go_enter Try.func35, Try.ntmps35
      go_wp2
      go_ret
      exact ⟨rfl, hb⟩
    · go_enter Try.func35, Try.ntmps35
      go_wp2
      go_ret
      exact ⟨rfl, hb⟩
  rw [if_neg k34]
  have e3 : (k == 3) = false := beq_eq_false_iff_ne.2 (by omega)
  have e4 : (k == 4) = false := beq_eq_false_iff_ne.2 (by omega)
  clear k34
  by_cases k5 : k = 5
  · subst k5
    rw [if_pos rfl]
    clear h1 k1 k2 e1 e2 e3 e4
    go_enter Try.func35, Try.ntmps35
    go_wp2_with (first
      | (go_at_call 47; refine (h2 _).mono ?_; rintro e w1 ⟨rfl, rfl⟩))
    go_ret
    exact ⟨rfl, hb⟩
  rw [if_neg k5]
  have e5 : (k == 5) = false := beq_eq_false_iff_ne.2 k5
  clear h1 h2
  go_enter Try.func35, Try.ntmps35
  go_wp2
  go_ret
  exact ⟨rfl, hb⟩
theorem Try.infoIns : (Try.prog.info? 43).map (fun i => (i.zero, i.size, i.bytes)) = some (some (.agg #[.string ⟨#[]⟩, .int .i64 0]), 2, 24) := by kernel_rfl
/-- Instructions behind a row of the call's own. -/
theorem appI {w : World} {ops : Array Oper} {rest : List Oper} {o : Oper} {a : Act} {Q : Exit → Act → World → Prop} (hgd : o.guard = none) (s x : Operand)
    (ho : o.op = .call { callee := .builtin .append, args := #[s, x], argTypes := #[31, 31] }) (base : Nat) (v : Value) (l : List Ins) (hs : a.eval s = v) (hown : OwnI w base 43 v l)
    (xv : Value) (r : List Ins) (hx : a.eval x = xv) (hsrc : Src Try.prog 2 31 xv r.length (celI r) w) (hle : l.length + r.length ≤ 100000) (hbase : base ≤ w.heap.size)
    (h : ∀ va m vc w', Hid (m = l.length + r.length) → OwnI w' base 43 (.slice va m vc) (l ++ r) → w.grownBy w' v.ownBlock → Hid ((Value.slice va m vc).ownBlock = v.ownBlock ∨ (Value.slice va m vc).ownBlock = some w.heap.size) → wpList Try.prog ops Q rest (a.put o.dst (.slice va m vc)) w') : wpList Try.prog ops Q (o :: rest) a w := by
  obtain ⟨i0, hi, hz0, hz1, hz2⟩ := info_parts Try.infoIns
  refine wpList_append_at w hgd s x 31 31 ho base 43 i0 (.agg #[.string ⟨#[]⟩, .int .i64 0]) 2 24 Try.underlying31 hi hz0 hz1 hz2 rfl v l.length (celI l) hs hown xv r.length (celI r) hx hsrc r.length (.inr (by omega)) (Nat.le_refl _) (by unfold maxLen; omega) hbase ?_
  intro v' w' ho' hg hat
  have hO : OwnI w' base 43 v' (l ++ r) := by
    show w'.ownsRow base 43 2 v' (l ++ r).length (celI (l ++ r))
    rw [celI_app, List.length_append]
    exact ho'
  obtain ⟨va, vc, rfl, _⟩ := hO.form
  exact h va _ vc w' (List.length_append ..) hO hg hat
theorem no1_any {W : World} (x : ByteArray) (n : Int) (X : Nat) (s : ByteArray) (hX : Bn W X [.string s]) :
    Calls Try.prog 24 #[.agg #[.string x, .int .i64 n], .pointer (some ⟨X, 0, none⟩)] W fun e w' => e = .returned (.bool (x.toList == s.toList)) ∧ Below W.heap.size W w' := by
  have hal : Below W.heap.size W (W.alloc (.cells #[.string x, .int .i64 n] 30)) := (Below.refl _ _).alloc (Nat.le_refl _) _
  have hX2 := hX.on hal
  obtain ⟨c0, _⟩ := hX2 0 _ rfl
  go_enter Try.func24, Try.ntmps24
  go_wp2
  go_ret
  exact ⟨rfl, hal⟩
set_option maxRecDepth 100000 in
set_option maxHeartbeats 4000000 in
theorem ixA_any {w : World} {vs : List Vr} {vv : Value} (hv : RdV w vv vs) (hl : vs.length ≤ 10000) (X : Nat) (s : ByteArray) (hX : Bn w X [.string s]) :
    Calls Try.prog 23 #[vv, .func (.func 24) #[] #[.pointer (some ⟨X, 0, none⟩)]] w fun e w' => e = .returned (.int .i64 (vix s vs 0)) ∧ Below w.heap.size w w' := by
  obtain ⟨a, cap, rfl, hlc, hcm, hcell⟩ := hv.form
  obtain ⟨V, hV⟩ : ∃ V, vix s vs 0 = V := ⟨_, rfl⟩
  rw [hV]
  have HV : Hid (vix s (vs.drop 0) 0 = V) := hV
  have HC : Hid (∀ (i : Nat) (hi : i < vs.length), ∃ b off, a = some ⟨b, off, none⟩ ∧ b < w.heap.size ∧ w.cell? ⟨b, off + i * 2, none⟩ = some (.string (vs[i]).1) ∧ w.cell? ⟨b, off + i * 2 + 1, none⟩ = some (.int .i64 (vs[i]).2)) := hcell
  have eg : ∀ args W, (callFunc 24 args).run Try.prog W = .ok (.enter 24 args) W := enters_of Try.func24 (by kernel_rfl) rfl
  clear hcell hv hV
  go_enter Try.func23, Try.ntmps23
  go_wp2
  go_loopw [8] (fun i wr => ∃ (j : Nat), j ≤ vs.length ∧ i = .int .i64 (j : Int) ∧ Hid (vix s (vs.drop j) j = V) ∧ Below w.heap.size w wr) (fun i _ => vs.length - (RowKit.intOf i).toNat)
  case atStart => exact ⟨0, Nat.zero_le _, rfl, HV, Below.refl _ _⟩
  case round =>
    obtain ⟨j, hj, rfl, hlk, hb⟩ := hrel
    by_cases hlt : j < vs.length
    · obtain ⟨b, off, rfl, hbl, k0, k1⟩ := HC.out j hlt
      have C0 := (hb.cell (p := ⟨b, off + j * 2, none⟩) hbl).trans k0
      have C1 := (hb.cell (p := ⟨b, off + j * 2 + 1, none⟩) hbl).trans k1
      have hll := hlk.out
      rw [List.drop_eq_getElem_cons hlt] at hll
      have i1 : (j : Int) < (vs.length : Int) := by omega
      have i2 : (0 : Int) ≤ (j : Int) := by omega
      obtain ⟨xs, hxs⟩ : ∃ x, (vs[j]).1 = x := ⟨_, rfl⟩
      obtain ⟨xn, hxn⟩ : ∃ x, (vs[j]).2 = x := ⟨_, rfl⟩
      unfold vix at hll
      rw [hxs] at hll C0
      rw [hxn] at C1
      have hcl := no1_any xs xn X s (hX.on hb)
      clear k0 k1 hxs hxn
      by_cases he : xs = s
      · subst he
        rw [if_pos rfl] at hll
        subst hll
        have hs : (xs.toList == xs.toList) = true := by simp
        rw [hs] at hcl
        go_wp2_with (first
          | (refine hcl.mono ?_; rintro e w1 ⟨rfl, b1⟩)
          | fail)
        go_ret
        exact ⟨rfl, hb.trans (b1.mono hb.size)⟩
      · rw [if_neg he] at hll
        have hN : Hid (vix s (vs.drop (j + 1)) (j + 1) = V) := hll
        have hs : (xs.toList == s.toList) = false := by
          rw [ByteArray.toList_eq, ByteArray.toList_eq]
          exact beq_eq_false_iff_ne.2 (fun e => he (ByteArray.ext (Array.toList_inj.1 e)))
        rw [hs] at hcl
        clear he hll hlk
        go_wp2_with (first
          | (refine hcl.mono ?_; rintro e w1 ⟨rfl, b1⟩)
          | fail)
        go_roundw
        case rel => exact ⟨j + 1, hlt, by go_num, hN, hb.trans (b1.mono hb.size)⟩
        case measure => simp [RowKit.intOf]; omega
    · have i1 : ¬ (j : Int) < (vs.length : Int) := by omega
      have hll := hlk.out
      rw [List.drop_eq_nil_of_le (by omega)] at hll
      subst hll
      go_wp2
      go_ret
      exact ⟨rfl, hb⟩
set_option maxRecDepth 100000 in
set_option maxHeartbeats 1000000 in
theorem numberOf_any {w : World} {vs : List Vr} {vv : Value} (hv : RdV w vv vs) (hl : vs.length ≤ 10000) (s : ByteArray) :
    Calls Try.prog 13 #[vv, .string s] w fun e w' => e = .returned (.int .i64 (vix s vs 0)) ∧ Below w.heap.size w w' := by
  have hal : Below w.heap.size w (w.alloc (.cells #[.string s] 9)) := (Below.refl _ _).alloc (Nat.le_refl _) _
  have hX : Bn (w.alloc (.cells #[.string s] 9)) w.heap.size [.string s] := Bn.new w [.string s] 9 _ rfl
  have hc := ixA_any (hv.below hal (Nat.le_refl _)) hl _ s hX
  obtain ⟨a, cap, rfl, hlc, hcm, hcell⟩ := hv.form
  obtain ⟨V, hV⟩ : ∃ V, vix s vs 0 = V := ⟨_, rfl⟩
  rw [hV] at hc ⊢
  clear hcell hv hV
  go_enter Try.func13, Try.ntmps13
  go_wp2_with (first
    | (go_at_call 23; refine hc.mono ?_; rintro e w1 ⟨rfl, b1⟩)
    | fail)
  go_ret
  exact ⟨rfl, hal.trans (b1.mono hal.size)⟩
/-- Two rows of the call's own lie apart. -/
theorem hidI {p : Prop} (h : p) : Hid p := h
def Apart (v u : Value) : Prop := ∀ g, v.ownBlock = some g → u.ownBlock ≠ some g
set_option maxRecDepth 100000 in
set_option maxHeartbeats 4000000 in
theorem jumping_any {w : World} (base : Nat) (j : ByteArray) {la ra : Option Addr} {ln lc rn rc : Nat} {l r : List Ins} (hl : OwnI w base 43 (.slice la ln lc) l) (hr : OwnI w base 43 (.slice ra rn rc) r) (hap : Apart (.slice la ln lc) (.slice ra rn rc)) (hle : l.length + r.length ≤ 50000) (hb : base ≤ w.heap.size) :
    Calls Try.prog 39 #[.string j, .slice la ln lc, .slice ra rn rc] w fun e w' => ∃ a n c, e = .returned (.slice a n c) ∧ OwnI w' base 43 (.slice a n c) (jmpI j l r) ∧ Below base w w' := by
  have hsrc := fun w1 s n => srcI_new (tx := 31) Try.underlying31 w1 s n
  have hal : Below w.heap.size w (w.alloc (.cells #[.string ⟨#[98, 111, 111, 108]⟩, .int .i64 0] 43)) := (Below.refl _ _).alloc (Nat.le_refl _) _
  have hl1 := hl.on hal
  have hr1 := hr.on hal
  have s1 := hsrc w ⟨#[98, 111, 111, 108]⟩ 0
  have hbal : base ≤ (w.alloc (.cells #[.string ⟨#[98, 111, 111, 108]⟩, .int .i64 0] 43)).heap.size := Nat.le_trans hb hal.size
  have hBa : Below base w (w.alloc (.cells #[.string ⟨#[98, 111, 111, 108]⟩, .int .i64 0] 43)) := hal.mono hb
  have Hl := hidI hl1
  have HLT := hidI hl1.lt
  have HRT := hidI hr1.lt
  clear hl hr hl1 hsrc hal
  go_enter Try.func39, Try.ntmps39
  go_upto_region 2 with (first
    | (at_builtin; refine appI rfl _ _ rfl base _ r rfl hr1 _ [(⟨#[98, 111, 111, 108]⟩, 0)] rfl s1 (by simp; omega) hbal ?_; intro va m vc w1 HM ho1 hg1 hat1)
    | fail)
  have hl2 : OwnI w1 base 43 (.slice la ln lc) l := Hl.out.keep (fun g hg => hg1.block g (HLT.out g hg).2 (fun e => hap g hg e.symm))
  have hb1 : Below base w w1 := hBa.grown hg1 hbal (fun k hk => (HRT.out k hk).1)
  have hap1 : Apart (.slice la ln lc) (.slice va m vc) := fun g hg e => by
    rcases hat1.out with h | h
    · rw [h] at e; exact hap g hg e
    · rw [h] at e
      have h1 := (HLT.out g hg).2
      have h2 := Option.some.inj e
      omega
  have hal2 : Below w1.heap.size w1 (w1.alloc (.cells #[.string j, .int .i64 (m : Int)] 43)) := (Below.refl _ _).alloc (Nat.le_refl _) _
  have hl3 := hl2.on hal2
  have ho3 := ho1.on hal2
  have s2 := srcI_new (tx := 31) Try.underlying31 w1 j (m : Int)
  have hb2 := hb1.trans (hal2.mono (Nat.le_trans hb hb1.size))
  have hb2s := Nat.le_trans hb hb2.size
  have HO3 := hidI ho3
  have HAP := hidI hap1
  have HL3 := hidI hl3.lt
  have HR3 := hidI ho3.lt
  clear hl2 ho1 hg1 hat1 Hl HLT HRT hr1 s1 hBa hal2 ho3 hap hap1 hb1 hbal
  go_wp2_with (first
    | (at_builtin; refine appI rfl _ _ rfl base _ (l ++ [(j, (m : Int))]) rfl ho5 _ (r ++ [((⟨#[98, 111, 111, 108]⟩ : ByteArray), (0 : Int))]) rfl hsrc5 (by simp; omega) hb5 ?_; intro vf mf vg w5 HMF ho6 hg6 hat6)
    | (at_builtin; refine appI rfl _ _ rfl base _ l rfl hl3 _ [(j, (m : Int))] rfl s2 (by simp; omega) hb2s ?_; intro vb mb vd w4 HMB ho5 hg5 hat5; have hr5 := HO3.out.keep (fun g hg => hg5.block g (HR3.out g hg).2 (fun e => HAP.out g e.symm hg)); have hsrc5 := hr5.src (tx := 31) Try.underlying31; have hb45 := hb2.grown hg5 hb2s (fun k hk => (HL3.out k hk).1); have hb5 := Nat.le_trans hb hb45.size)
    | fail)
  go_ret
  have hb6 := hb45.grown hg6 hb5 (fun k hk => (ho5.lt k hk).1)
  refine ⟨_, _, _, rfl, ?_, hb6⟩
  have hmr : m = r.length + 1 := HM.out
  unfold jmpI wBool
  rw [← hmr]
  exact ho6
set_option maxRecDepth 100000 in
set_option maxHeartbeats 4000000 in
theorem binCode_any {w : World} (base : Nat) (s : ByteArray) {la ra : Option Addr} {ln lc rn rc : Nat} {l r : List Ins} (hl : OwnI w base 43 (.slice la ln lc) l) (hr : OwnI w base 43 (.slice ra rn rc) r) (hap : Apart (.slice la ln lc) (.slice ra rn rc)) (hle : l.length + r.length ≤ 50000) (hb : base ≤ w.heap.size) (hsz : s.size ≤ 140737488351232) :
    Calls Try.prog 25 #[.string s, .slice la ln lc, .slice ra rn rc] w fun e w' => ∃ a n c, e = .returned (.slice a n c) ∧ OwnI w' base 43 (.slice a n c) (binI s l r) ∧ Below base w w' := by
  have hj := fun j => jumping_any base j hl hr hap hle hb
  have q7 : (s.toList == [38, 38]) = (bl s == [38, 38]) := str_is2 s _
  have q8 : (s.toList == [124, 124]) = (bl s == [124, 124]) := str_is2 s _
  unfold binI
  by_cases h1 : bl s = [38, 38]
  · have a2 : (bl s == [38, 38]) = true := by rw [h1]; rfl
    rw [a2] at q7
    rw [if_pos h1]
    clear h1 a2 q8 hl hr
    go_enter Try.func25, Try.ntmps25
    go_wp2_with (first
      | (go_at_call 39; refine (hj _).mono ?_; rintro e w1 ⟨a, n, c, rfl, ho, b1⟩)
      | fail)
    go_ret
    exact ⟨_, _, _, rfl, ho, b1⟩
  have a2 : (bl s == [38, 38]) = false := beq_eq_false_iff_ne.2 h1
  rw [a2] at q7
  rw [if_neg h1]
  clear h1 a2
  by_cases h1 : bl s = [124, 124]
  · have a2 : (bl s == [124, 124]) = true := by rw [h1]; rfl
    rw [a2] at q8
    rw [if_pos h1]
    clear h1 a2 hl hr
    go_enter Try.func25, Try.ntmps25
    go_wp2_with (first
      | (go_at_call 39; refine (hj _).mono ?_; rintro e w1 ⟨a, n, c, rfl, ho, b1⟩)
      | fail)
    go_ret
    exact ⟨_, _, _, rfl, ho, b1⟩
  have a2 : (bl s == [124, 124]) = false := beq_eq_false_iff_ne.2 h1
  rw [a2] at q8
  rw [if_neg h1]
  clear h1 a2 hj
  have hcl := fun w1 => pClone_any s w1 hsz
  have hsr := hr.src (tx := 31) Try.underlying31
  have HLT := hidI hl.lt
  have hsn := fun w1 => srcI_new (tx := 31) Try.underlying31 w1 s 0
  clear hr hap
  go_enter Try.func25, Try.ntmps25
  go_wp2_with (first
    | (at_builtin; refine appI rfl _ _ rfl base _ (l ++ r) rfl ho3 _ [(s, 0)] rfl hs3 (by simp; omega) hb3s ?_; intro vf mf vg w5 HMF ho6 hg6 hat6)
    | (at_builtin; refine appI rfl _ _ rfl base _ l rfl hl _ r rfl hsr (by omega) hb ?_; intro va m vc w1 HM ho1 hg1 hat1; have hb1 := (Below.refl base w).grown hg1 hb (fun k hk => (HLT.out k hk).1); clear hl hsr)
    | (go_at_call 36; refine (hcl _).mono ?_; rintro e w2 ⟨rfl, b2⟩; have hal : Below w2.heap.size w2 (w2.alloc (.cells #[.string s, .int .i64 0] 43)) := (Below.refl _ _).alloc (Nat.le_refl _) _; have hb2 := hb1.trans (b2.mono (Nat.le_trans hb hb1.size)); have hb3 := hb2.trans (hal.mono (Nat.le_trans hb hb2.size)); have hb3s := Nat.le_trans hb hb3.size; have ho3 := (ho1.on b2).on hal; have hs3 := hsn w2)
    | fail)
  go_ret
  exact ⟨_, _, _, rfl, ho6, hb3.grown hg6 hb3s (fun k hk => (ho3.lt k hk).1)⟩
end Go.Proofs.Ytpdkmbifibkepaa

/- The expression of a tree. -/
namespace Go.Proofs.Ytpdkmbifibkepaa
open Go.RowKit
set_option linter.unusedSimpArgs false
set_option linter.unusedVariables false

/-- The expression of a tree. -/
def exV : (d : Nat) → T d → Value := fold (fun k n s l =>
  if k = 1 then .iface 52 (.agg #[.int .i64 n]) else if k = 2 then .iface 54 (.agg #[.string s]) else if k = 3 then .iface 56 (.agg #[l.getD 0 .nilIface]) else if k = 4 then .iface 57 (.agg #[l.getD 0 .nilIface])
  else if k = 5 then .iface 59 (.agg #[.string s, l.getD 0 .nilIface, l.getD 1 .nilIface]) else .nilIface)
def exP {d : Nat} (ps : List (T d)) (i : Nat) : Value := (ps.map (exV d)).getD i .nilIface
theorem exV_mk {d : Nat} (k n : Int) (s : ByteArray) (ps : List (T d)) : exV (d + 1) (mkT k n s ps) =
    if k = 1 then .iface 52 (.agg #[.int .i64 n]) else if k = 2 then .iface 54 (.agg #[.string s]) else if k = 3 then .iface 56 (.agg #[exP ps 0]) else if k = 4 then .iface 57 (.agg #[exP ps 0])
    else if k = 5 then .iface 59 (.agg #[.string s, exP ps 0, exP ps 1]) else .nilIface := rfl
theorem exV_form : ∀ (d : Nat) (t : T d), exV d t = .nilIface ∨ ∃ u x, exV d t = .iface u x
  | 0, t => Empty.elim t
  | d + 1, t => by
    obtain ⟨k, n, s, ps, rfl⟩ := T.open t
    rw [exV_mk]
    repeat' split
    all_goals first | exact .inl rfl | exact .inr ⟨_, _, rfl⟩
theorem exP_form {d : Nat} (ps : List (T d)) (i : Nat) : exP ps i = .nilIface ∨ ∃ u x, exP ps i = .iface u x := by
  unfold exP
  rw [List.getD_eq_getElem?_getD, List.getElem?_map]
  cases ps[i]? with
  | none => exact .inl rfl
  | some p => exact exV_form d p
end Go.Proofs.Ytpdkmbifibkepaa

/- What an expression is by itself: topOf. -/
namespace Go.Proofs.Ytpdkmbifibkepaa
open Go.RowKit Go.Lib
set_option linter.unusedSimpArgs false
set_option linter.unusedVariables false
attribute [local go_sem ↓] Go.wp_at_zero Go.wp_at_succ

/-- The slice v holds the values l, from a block's first cell on. -/
def Kids (w : World) (v : Value) (l : List Value) : Prop :=
  (v = .slice none 0 0 ∧ l = []) ∨ ∃ g, v = .slice (some ⟨g, 0, none⟩) l.length l.length ∧ ∀ (i : Nat) (h : i < l.length), w.cell? ⟨g, i, none⟩ = some l[i]
abbrev topV (k n : Int) (s : ByteArray) (v : Value) : Value := .agg #[.int .i64 k, .int .i64 n, .string s, v]
def Ifc (x : Value) : Prop := x = .nilIface ∨ ∃ u y, x = .iface u y

theorem as_lit_lit (v : Value) (w : World) : (Instr.typeAssert (.iface 52 v) 36 52 true).run Try.prog w = .ok (.tuple #[v, .bool true]) w := by kernel_rfl
theorem as_ref_lit (v : Value) (w : World) : (Instr.typeAssert (.iface 54 v) 36 52 true).run Try.prog w = .ok (.tuple #[.agg #[.int .i64 0], .bool false]) w := by kernel_rfl
theorem as_ref_ref (v : Value) (w : World) : (Instr.typeAssert (.iface 54 v) 36 54 true).run Try.prog w = .ok (.tuple #[v, .bool true]) w := by kernel_rfl
theorem as_not_lit (v : Value) (w : World) : (Instr.typeAssert (.iface 56 v) 36 52 true).run Try.prog w = .ok (.tuple #[.agg #[.int .i64 0], .bool false]) w := by kernel_rfl
theorem as_not_ref (v : Value) (w : World) : (Instr.typeAssert (.iface 56 v) 36 54 true).run Try.prog w = .ok (.tuple #[.agg #[.string ⟨#[]⟩], .bool false]) w := by kernel_rfl
theorem as_not_not (v : Value) (w : World) : (Instr.typeAssert (.iface 56 v) 36 56 true).run Try.prog w = .ok (.tuple #[v, .bool true]) w := by kernel_rfl
theorem as_neg_lit (v : Value) (w : World) : (Instr.typeAssert (.iface 57 v) 36 52 true).run Try.prog w = .ok (.tuple #[.agg #[.int .i64 0], .bool false]) w := by kernel_rfl
theorem as_neg_ref (v : Value) (w : World) : (Instr.typeAssert (.iface 57 v) 36 54 true).run Try.prog w = .ok (.tuple #[.agg #[.string ⟨#[]⟩], .bool false]) w := by kernel_rfl
theorem as_neg_not (v : Value) (w : World) : (Instr.typeAssert (.iface 57 v) 36 56 true).run Try.prog w = .ok (.tuple #[.agg #[.nilIface], .bool false]) w := by kernel_rfl
theorem as_neg_neg (v : Value) (w : World) : (Instr.typeAssert (.iface 57 v) 36 57 true).run Try.prog w = .ok (.tuple #[v, .bool true]) w := by kernel_rfl
theorem as_bin_lit (v : Value) (w : World) : (Instr.typeAssert (.iface 59 v) 36 52 true).run Try.prog w = .ok (.tuple #[.agg #[.int .i64 0], .bool false]) w := by kernel_rfl
theorem as_bin_ref (v : Value) (w : World) : (Instr.typeAssert (.iface 59 v) 36 54 true).run Try.prog w = .ok (.tuple #[.agg #[.string ⟨#[]⟩], .bool false]) w := by kernel_rfl
theorem as_bin_not (v : Value) (w : World) : (Instr.typeAssert (.iface 59 v) 36 56 true).run Try.prog w = .ok (.tuple #[.agg #[.nilIface], .bool false]) w := by kernel_rfl
theorem as_bin_neg (v : Value) (w : World) : (Instr.typeAssert (.iface 59 v) 36 57 true).run Try.prog w = .ok (.tuple #[.agg #[.nilIface], .bool false]) w := by kernel_rfl
theorem as_bin_bin (v : Value) (w : World) : (Instr.typeAssert (.iface 59 v) 36 59 true).run Try.prog w = .ok (.tuple #[v, .bool true]) w := by kernel_rfl
attribute [local go_sem] as_lit_lit as_ref_lit as_ref_ref as_not_lit as_not_ref as_not_not as_neg_lit as_neg_ref as_neg_not as_neg_neg as_bin_lit as_bin_ref as_bin_not as_bin_neg as_bin_bin

theorem cell1_new (w : World) (a : Value) (t : TypeId) (n : Nat) (hn : n = w.heap.size) : (w.alloc (.cells #[a] t)).cell? ⟨n, 0, none⟩ = some a := by subst hn; simp
theorem cell2_new (w : World) (a b : Value) (t : TypeId) (n : Nat) (hn : n = w.heap.size) : (w.alloc (.cells #[a, b] t)).cell? ⟨n, 0, none⟩ = some a ∧ (w.alloc (.cells #[a, b] t)).cell? ⟨n, 1, none⟩ = some b := by subst hn; simp
theorem kids0 (w : World) : Kids w (.slice none 0 0) [] := .inl ⟨rfl, rfl⟩
theorem kids1 {w : World} {g : Nat} {x : Value} (h : w.cell? ⟨g, 0, none⟩ = some x) : Kids w (.slice (some ⟨g, 0, none⟩) 1 1) [x] := .inr ⟨g, rfl, fun i hi => by
  match i, hi with
  | 0, _ => exact h⟩
theorem kids2 {w : World} {g : Nat} {x y : Value} (h : w.cell? ⟨g, 0, none⟩ = some x) (h' : w.cell? ⟨g, 1, none⟩ = some y) : Kids w (.slice (some ⟨g, 0, none⟩) 2 2) [x, y] := .inr ⟨g, rfl, fun i hi => by
  match i, hi with
  | 0, _ => exact h
  | 1, _ => exact h'⟩
theorem Kids.below {w w' : World} {v : Value} {l : List Value} {B : Nat} (h : Kids w v l) (hb : Below B w w') (hB : w.heap.size ≤ B) : Kids w' v l := by
  rcases h with h | ⟨g, hv, hc⟩
  · exact .inl h
  · exact .inr ⟨g, hv, fun i hi => by rw [hb.cell (p := ⟨g, i, none⟩) (Nat.lt_of_lt_of_le (World.block_lt_of_cell? w _ (hc i hi)) hB)]; exact hc i hi⟩

theorem top_nil (w : World) : Calls Try.prog 26 #[.nilIface] w fun e w' => ∃ sl, e = .returned (topV 0 0 ⟨#[]⟩ sl) ∧ Kids w' sl [] ∧ Below w.heap.size w w' := by
  go_enter Try.func26, Try.ntmps26
  go_wp2
  refine bodyPost_ret (v := topV 0 0 ⟨#[]⟩ (.slice none 0 0)) (by simp [results, Try.results26, go_sem]) rfl ⟨_, rfl, kids0 _, ?_⟩
  · (repeat (refine Below.alloc ?_ (by simp <;> omega) _)); exact Below.refl _ _

theorem top_lit (n : Int) (w : World) : Calls Try.prog 26 #[.iface 52 (.agg #[.int .i64 n])] w fun e w' => ∃ sl, e = .returned (topV 1 n ⟨#[]⟩ sl) ∧ Kids w' sl [] ∧ Below w.heap.size w w' := by
  go_enter Try.func26, Try.ntmps26
  go_wp2
  refine bodyPost_ret (v := topV 1 n ⟨#[]⟩ (.slice none 0 0)) (by simp [results, Try.results26, go_sem]) rfl ⟨_, rfl, kids0 _, ?_⟩
  · (repeat (refine Below.alloc ?_ (by simp <;> omega) _)); exact Below.refl _ _

theorem top_ref (s : ByteArray) (w : World) : Calls Try.prog 26 #[.iface 54 (.agg #[.string s])] w fun e w' => ∃ sl, e = .returned (topV 2 0 s sl) ∧ Kids w' sl [] ∧ Below w.heap.size w w' := by
  go_enter Try.func26, Try.ntmps26
  go_wp2
  refine bodyPost_ret (v := topV 2 0 s (.slice none 0 0)) (by simp [results, Try.results26, go_sem]) rfl ⟨_, rfl, kids0 _, ?_⟩
  · (repeat (refine Below.alloc ?_ (by simp <;> omega) _)); exact Below.refl _ _

theorem top_not (x : Value) (hx : Ifc x) (w : World) : Calls Try.prog 26 #[.iface 56 (.agg #[x])] w fun e w' => ∃ sl, e = .returned (topV 3 0 ⟨#[]⟩ sl) ∧ Kids w' sl [x] ∧ Below w.heap.size w w' := by
  rcases hx with rfl | ⟨u, y, rfl⟩
  · go_enter Try.func26, Try.ntmps26
    go_wp2
    refine bodyPost_ret (v := topV 3 0 ⟨#[]⟩ (.slice (some ⟨w.heap.size + 4, 0, none⟩) 1 1)) (by simp [results, Try.results26, go_sem]) rfl ⟨_, rfl, kids1 ?_, ?_⟩
    · exact cell1_new _ _ _ _ (by simp)
    · (repeat (refine Below.alloc ?_ (by simp <;> omega) _)); exact Below.refl _ _
  · go_enter Try.func26, Try.ntmps26
    go_wp2
    refine bodyPost_ret (v := topV 3 0 ⟨#[]⟩ (.slice (some ⟨w.heap.size + 4, 0, none⟩) 1 1)) (by simp [results, Try.results26, go_sem]) rfl ⟨_, rfl, kids1 ?_, ?_⟩
    · exact cell1_new _ _ _ _ (by simp)
    · (repeat (refine Below.alloc ?_ (by simp <;> omega) _)); exact Below.refl _ _

theorem top_neg (x : Value) (hx : Ifc x) (w : World) : Calls Try.prog 26 #[.iface 57 (.agg #[x])] w fun e w' => ∃ sl, e = .returned (topV 4 0 ⟨#[]⟩ sl) ∧ Kids w' sl [x] ∧ Below w.heap.size w w' := by
  rcases hx with rfl | ⟨u, y, rfl⟩
  · go_enter Try.func26, Try.ntmps26
    go_wp2
    refine bodyPost_ret (v := topV 4 0 ⟨#[]⟩ (.slice (some ⟨w.heap.size + 5, 0, none⟩) 1 1)) (by simp [results, Try.results26, go_sem]) rfl ⟨_, rfl, kids1 ?_, ?_⟩
    · exact cell1_new _ _ _ _ (by simp)
    · (repeat (refine Below.alloc ?_ (by simp <;> omega) _)); exact Below.refl _ _
  · go_enter Try.func26, Try.ntmps26
    go_wp2
    refine bodyPost_ret (v := topV 4 0 ⟨#[]⟩ (.slice (some ⟨w.heap.size + 5, 0, none⟩) 1 1)) (by simp [results, Try.results26, go_sem]) rfl ⟨_, rfl, kids1 ?_, ?_⟩
    · exact cell1_new _ _ _ _ (by simp)
    · (repeat (refine Below.alloc ?_ (by simp <;> omega) _)); exact Below.refl _ _

theorem top_bin (s : ByteArray) (x x' : Value) (hx : Ifc x) (hx' : Ifc x') (w : World) : Calls Try.prog 26 #[.iface 59 (.agg #[.string s, x, x'])] w fun e w' => ∃ sl, e = .returned (topV 5 0 s sl) ∧ Kids w' sl [x, x'] ∧ Below w.heap.size w w' := by
  rcases hx with rfl | ⟨u, y, rfl⟩ <;> rcases hx' with rfl | ⟨u', y', rfl⟩
  · go_enter Try.func26, Try.ntmps26
    go_wp2
    refine bodyPost_ret (v := topV 5 0 s (.slice (some ⟨w.heap.size + 6, 0, none⟩) 2 2)) (by simp [results, Try.results26, go_sem]) rfl ⟨_, rfl, kids2 ?_ ?_, ?_⟩
    · exact (cell2_new _ _ _ _ _ (by simp)).1
    · exact (cell2_new _ _ _ _ _ (by simp)).2
    · (repeat (refine Below.alloc ?_ (by simp <;> omega) _)); exact Below.refl _ _
  · go_enter Try.func26, Try.ntmps26
    go_wp2
    refine bodyPost_ret (v := topV 5 0 s (.slice (some ⟨w.heap.size + 6, 0, none⟩) 2 2)) (by simp [results, Try.results26, go_sem]) rfl ⟨_, rfl, kids2 ?_ ?_, ?_⟩
    · exact (cell2_new _ _ _ _ _ (by simp)).1
    · exact (cell2_new _ _ _ _ _ (by simp)).2
    · (repeat (refine Below.alloc ?_ (by simp <;> omega) _)); exact Below.refl _ _
  · go_enter Try.func26, Try.ntmps26
    go_wp2
    refine bodyPost_ret (v := topV 5 0 s (.slice (some ⟨w.heap.size + 6, 0, none⟩) 2 2)) (by simp [results, Try.results26, go_sem]) rfl ⟨_, rfl, kids2 ?_ ?_, ?_⟩
    · exact (cell2_new _ _ _ _ _ (by simp)).1
    · exact (cell2_new _ _ _ _ _ (by simp)).2
    · (repeat (refine Below.alloc ?_ (by simp <;> omega) _)); exact Below.refl _ _
  · go_enter Try.func26, Try.ntmps26
    go_wp2
    refine bodyPost_ret (v := topV 5 0 s (.slice (some ⟨w.heap.size + 6, 0, none⟩) 2 2)) (by simp [results, Try.results26, go_sem]) rfl ⟨_, rfl, kids2 ?_ ?_, ?_⟩
    · exact (cell2_new _ _ _ _ _ (by simp)).1
    · exact (cell2_new _ _ _ _ _ (by simp)).2
    · (repeat (refine Below.alloc ?_ (by simp <;> omega) _)); exact Below.refl _ _

theorem ifc_ex {d : Nat} (t : T d) : Ifc (exV d t) := exV_form d t
/-- What an expression is by itself. -/
theorem top_any {d : Nat} {t : T (d + 1)} (hc : Cl (d + 1) t) : ∃ k n s ps, t = mkT k n s ps ∧ ∀ w, Calls Try.prog 26 #[exV (d + 1) t] w fun e w' => ∃ sl, e = .returned (topV k n s sl) ∧ Kids w' sl (ps.map (exV d)) ∧ Below w.heap.size w w' := by
  rcases hc.cases with ⟨n, rfl⟩ | ⟨s, rfl⟩ | ⟨k, p, hk, rfl, hp⟩ | ⟨s, p, q, rfl, hp, hq⟩ | rfl
  · exact ⟨1, n, _, [], rfl, fun w => top_lit n w⟩
  · exact ⟨2, 0, s, [], rfl, fun w => top_ref s w⟩
  · rcases hk with rfl | rfl
    · exact ⟨3, 0, _, [p], rfl, fun w => top_not (exV d p) (ifc_ex p) w⟩
    · exact ⟨4, 0, _, [p], rfl, fun w => top_neg (exV d p) (ifc_ex p) w⟩
  · exact ⟨5, 0, s, [p, q], rfl, fun w => top_bin s (exV d p) (exV d q) (ifc_ex p) (ifc_ex q) w⟩
  · exact ⟨0, 0, _, [], rfl, fun w => top_nil w⟩
end Go.Proofs.Ytpdkmbifibkepaa

/- What an expression is by itself, its parts in new memory. -/
namespace Go.Proofs.Ytpdkmbifibkepaa
open Go.RowKit Go.Lib
set_option linter.unusedSimpArgs false
set_option linter.unusedVariables false
attribute [local go_sem ↓] Go.wp_at_zero Go.wp_at_succ
attribute [local go_sem] as_lit_lit as_ref_lit as_ref_ref as_not_lit as_not_ref as_not_not as_neg_lit as_neg_ref as_neg_not as_neg_neg as_bin_lit as_bin_ref as_bin_not as_bin_neg as_bin_bin

/-- The slice v holds the values l, in a block from lo on. -/
def KidsN (lo : Nat) (w : World) (v : Value) (l : List Value) : Prop := Kids w v l ∧ ∀ g, v.ownBlock = some g → lo ≤ g
theorem kidsN0 (lo : Nat) (w : World) : KidsN lo w (.slice none 0 0) [] := ⟨kids0 w, fun g hg => by cases hg⟩
theorem kidsN1 {lo : Nat} {w : World} {g : Nat} {x : Value} (hl : lo ≤ g) (h : w.cell? ⟨g, 0, none⟩ = some x) : KidsN lo w (.slice (some ⟨g, 0, none⟩) 1 1) [x] := ⟨kids1 h, fun g' hg => by simp [Value.ownBlock] at hg; omega⟩
theorem kidsN2 {lo : Nat} {w : World} {g : Nat} {x y : Value} (hl : lo ≤ g) (h : w.cell? ⟨g, 0, none⟩ = some x) (h' : w.cell? ⟨g, 1, none⟩ = some y) : KidsN lo w (.slice (some ⟨g, 0, none⟩) 2 2) [x, y] := ⟨kids2 h h', fun g' hg => by simp [Value.ownBlock] at hg; omega⟩
theorem topN_nil (w : World) : Calls Try.prog 26 #[.nilIface] w fun e w' => ∃ sl, e = .returned (topV 0 0 ⟨#[]⟩ sl) ∧ KidsN w.heap.size w' sl [] ∧ Below w.heap.size w w' := by
  go_enter Try.func26, Try.ntmps26
  go_wp2
  refine bodyPost_ret (v := topV 0 0 ⟨#[]⟩ (.slice none 0 0)) (by simp [results, Try.results26, go_sem]) rfl ⟨_, rfl, kidsN0 _ _, ?_⟩
  · (repeat (refine Below.alloc ?_ (by simp <;> omega) _)); exact Below.refl _ _

theorem topN_lit (n : Int) (w : World) : Calls Try.prog 26 #[.iface 52 (.agg #[.int .i64 n])] w fun e w' => ∃ sl, e = .returned (topV 1 n ⟨#[]⟩ sl) ∧ KidsN w.heap.size w' sl [] ∧ Below w.heap.size w w' := by
  go_enter Try.func26, Try.ntmps26
  go_wp2
  refine bodyPost_ret (v := topV 1 n ⟨#[]⟩ (.slice none 0 0)) (by simp [results, Try.results26, go_sem]) rfl ⟨_, rfl, kidsN0 _ _, ?_⟩
  · (repeat (refine Below.alloc ?_ (by simp <;> omega) _)); exact Below.refl _ _

theorem topN_ref (s : ByteArray) (w : World) : Calls Try.prog 26 #[.iface 54 (.agg #[.string s])] w fun e w' => ∃ sl, e = .returned (topV 2 0 s sl) ∧ KidsN w.heap.size w' sl [] ∧ Below w.heap.size w w' := by
  go_enter Try.func26, Try.ntmps26
  go_wp2
  refine bodyPost_ret (v := topV 2 0 s (.slice none 0 0)) (by simp [results, Try.results26, go_sem]) rfl ⟨_, rfl, kidsN0 _ _, ?_⟩
  · (repeat (refine Below.alloc ?_ (by simp <;> omega) _)); exact Below.refl _ _

theorem topN_not (x : Value) (hx : Ifc x) (w : World) : Calls Try.prog 26 #[.iface 56 (.agg #[x])] w fun e w' => ∃ sl, e = .returned (topV 3 0 ⟨#[]⟩ sl) ∧ KidsN w.heap.size w' sl [x] ∧ Below w.heap.size w w' := by
  rcases hx with rfl | ⟨u, y, rfl⟩
  · go_enter Try.func26, Try.ntmps26
    go_wp2
    refine bodyPost_ret (v := topV 3 0 ⟨#[]⟩ (.slice (some ⟨w.heap.size + 4, 0, none⟩) 1 1)) (by simp [results, Try.results26, go_sem]) rfl ⟨_, rfl, kidsN1 ?_ ?_, ?_⟩
    · simp
    · exact cell1_new _ _ _ _ (by simp)
    · (repeat (refine Below.alloc ?_ (by simp <;> omega) _)); exact Below.refl _ _
  · go_enter Try.func26, Try.ntmps26
    go_wp2
    refine bodyPost_ret (v := topV 3 0 ⟨#[]⟩ (.slice (some ⟨w.heap.size + 4, 0, none⟩) 1 1)) (by simp [results, Try.results26, go_sem]) rfl ⟨_, rfl, kidsN1 ?_ ?_, ?_⟩
    · simp
    · exact cell1_new _ _ _ _ (by simp)
    · (repeat (refine Below.alloc ?_ (by simp <;> omega) _)); exact Below.refl _ _

theorem topN_neg (x : Value) (hx : Ifc x) (w : World) : Calls Try.prog 26 #[.iface 57 (.agg #[x])] w fun e w' => ∃ sl, e = .returned (topV 4 0 ⟨#[]⟩ sl) ∧ KidsN w.heap.size w' sl [x] ∧ Below w.heap.size w w' := by
  rcases hx with rfl | ⟨u, y, rfl⟩
  · go_enter Try.func26, Try.ntmps26
    go_wp2
    refine bodyPost_ret (v := topV 4 0 ⟨#[]⟩ (.slice (some ⟨w.heap.size + 5, 0, none⟩) 1 1)) (by simp [results, Try.results26, go_sem]) rfl ⟨_, rfl, kidsN1 ?_ ?_, ?_⟩
    · simp
    · exact cell1_new _ _ _ _ (by simp)
    · (repeat (refine Below.alloc ?_ (by simp <;> omega) _)); exact Below.refl _ _
  · go_enter Try.func26, Try.ntmps26
    go_wp2
    refine bodyPost_ret (v := topV 4 0 ⟨#[]⟩ (.slice (some ⟨w.heap.size + 5, 0, none⟩) 1 1)) (by simp [results, Try.results26, go_sem]) rfl ⟨_, rfl, kidsN1 ?_ ?_, ?_⟩
    · simp
    · exact cell1_new _ _ _ _ (by simp)
    · (repeat (refine Below.alloc ?_ (by simp <;> omega) _)); exact Below.refl _ _

theorem topN_bin (s : ByteArray) (x x' : Value) (hx : Ifc x) (hx' : Ifc x') (w : World) : Calls Try.prog 26 #[.iface 59 (.agg #[.string s, x, x'])] w fun e w' => ∃ sl, e = .returned (topV 5 0 s sl) ∧ KidsN w.heap.size w' sl [x, x'] ∧ Below w.heap.size w w' := by
  rcases hx with rfl | ⟨u, y, rfl⟩ <;> rcases hx' with rfl | ⟨u', y', rfl⟩
  · go_enter Try.func26, Try.ntmps26
    go_wp2
    refine bodyPost_ret (v := topV 5 0 s (.slice (some ⟨w.heap.size + 6, 0, none⟩) 2 2)) (by simp [results, Try.results26, go_sem]) rfl ⟨_, rfl, kidsN2 ?_ ?_ ?_, ?_⟩
    · simp
    · exact (cell2_new _ _ _ _ _ (by simp)).1
    · exact (cell2_new _ _ _ _ _ (by simp)).2
    · (repeat (refine Below.alloc ?_ (by simp <;> omega) _)); exact Below.refl _ _
  · go_enter Try.func26, Try.ntmps26
    go_wp2
    refine bodyPost_ret (v := topV 5 0 s (.slice (some ⟨w.heap.size + 6, 0, none⟩) 2 2)) (by simp [results, Try.results26, go_sem]) rfl ⟨_, rfl, kidsN2 ?_ ?_ ?_, ?_⟩
    · simp
    · exact (cell2_new _ _ _ _ _ (by simp)).1
    · exact (cell2_new _ _ _ _ _ (by simp)).2
    · (repeat (refine Below.alloc ?_ (by simp <;> omega) _)); exact Below.refl _ _
  · go_enter Try.func26, Try.ntmps26
    go_wp2
    refine bodyPost_ret (v := topV 5 0 s (.slice (some ⟨w.heap.size + 6, 0, none⟩) 2 2)) (by simp [results, Try.results26, go_sem]) rfl ⟨_, rfl, kidsN2 ?_ ?_ ?_, ?_⟩
    · simp
    · exact (cell2_new _ _ _ _ _ (by simp)).1
    · exact (cell2_new _ _ _ _ _ (by simp)).2
    · (repeat (refine Below.alloc ?_ (by simp <;> omega) _)); exact Below.refl _ _
  · go_enter Try.func26, Try.ntmps26
    go_wp2
    refine bodyPost_ret (v := topV 5 0 s (.slice (some ⟨w.heap.size + 6, 0, none⟩) 2 2)) (by simp [results, Try.results26, go_sem]) rfl ⟨_, rfl, kidsN2 ?_ ?_ ?_, ?_⟩
    · simp
    · exact (cell2_new _ _ _ _ _ (by simp)).1
    · exact (cell2_new _ _ _ _ _ (by simp)).2
    · (repeat (refine Below.alloc ?_ (by simp <;> omega) _)); exact Below.refl _ _


theorem topN_any {d : Nat} {t : T (d + 1)} (hc : Cl (d + 1) t) : ∃ k n s ps, t = mkT k n s ps ∧ ∀ w, Calls Try.prog 26 #[exV (d + 1) t] w fun e w' => ∃ sl, e = .returned (.agg #[.int .i64 k, .int .i64 n, .string s, sl]) ∧ KidsN w.heap.size w' sl (ps.map (exV d)) ∧ Below w.heap.size w w' := by
  rcases hc.cases with ⟨n, rfl⟩ | ⟨s, rfl⟩ | ⟨k, p, hk, rfl, hp⟩ | ⟨s, p, q, rfl, hp, hq⟩ | rfl
  · exact ⟨1, n, _, [], rfl, fun w => topN_lit n w⟩
  · exact ⟨2, 0, s, [], rfl, fun w => topN_ref s w⟩
  · rcases hk with rfl | rfl
    · exact ⟨3, 0, _, [p], rfl, fun w => topN_not (exV d p) (ifc_ex p) w⟩
    · exact ⟨4, 0, _, [p], rfl, fun w => topN_neg (exV d p) (ifc_ex p) w⟩
  · exact ⟨5, 0, s, [p, q], rfl, fun w => topN_bin s (exV d p) (exV d q) (ifc_ex p) (ifc_ex q) w⟩
  · exact ⟨0, 0, _, [], rfl, fun w => topN_nil w⟩
end Go.Proofs.Ytpdkmbifibkepaa

/- Rows of expressions that are left to be asked: in memory, popped, grown. -/
namespace Go.Proofs.Ytpdkmbifibkepaa
open Go.RowKit Go.Lib
set_option linter.unusedSimpArgs false
set_option linter.unusedVariables false

theorem fld_i (a b c e : Value) (w : World) : (Instr.field 74 (.agg #[a, b, c, e]) 3).run Try.prog w = .ok e w := by kernel_rfl
abbrev Sg := (d : Nat) × T d
def exS (x : Sg) : Value := exV x.1 x.2
def cntS (x : Sg) : Nat := cnt x.1 x.2
def ClS (x : Sg) : Prop := Cl x.1 x.2
/-- The slice v, of the call's own from block base on, holds the expressions st. -/
def Stk (w : World) (base : Nat) (v : Value) (st : List Sg) : Prop := w.ownsRow base 36 1 v st.length (st.map exS)
theorem own_on {w w' : World} {base e size : Nat} {v : Value} {n : Nat} {xs : List Value} {B : Nat} (h : w.ownsRow base e size v n xs) (hb : Below B w w') (hB : w.heap.size ≤ B) : w'.ownsRow base e size v n xs := by
  refine ⟨h.1, ?_⟩
  rcases h.2 with hn | ⟨g, cap, cur, rfl, hbg, hg, rest⟩
  · exact .inl hn
  · exact .inr ⟨g, cap, cur, rfl, hbg, by rw [hb.block g (by have := (Array.getElem?_eq_some_iff.1 hg).1; omega)]; exact hg, rest⟩
theorem Stk.on {w w' : World} {base : Nat} {v : Value} {st : List Sg} {B : Nat} (h : Stk w base v st) (hb : Below B w w') (hB : w.heap.size ≤ B) : Stk w' base v st := own_on h hb hB
theorem exS_form (x : Sg) : exS x = .nilIface ∨ ∃ u y, exS x = .iface u y := exV_form x.1 x.2
/-- The last one taken off. -/
theorem Stk.pop {w : World} {base : Nat} {v : Value} {st : List Sg} {x : Sg} (h : Stk w base v (st ++ [x])) : ∃ g cap, v = .slice (some ⟨g, 0, none⟩) (st.length + 1) cap ∧ st.length + 1 ≤ cap ∧ cap ≤ maxLen ∧ base ≤ g ∧ g < w.heap.size ∧
    w.cell? ⟨g, st.length, none⟩ = some (exS x) ∧ Stk w base (.slice (some ⟨g, 0, none⟩) st.length cap) st := by
  unfold Stk at h
  rw [List.length_append, List.length_singleton, List.map_append, List.map_singleton] at h
  have hc := fun g => World.ownsRow.cells h (g := g)
  rcases h.2 with ⟨_, h2⟩ | ⟨g, cap, cur, rfl, hb, hg, hnc, hcm, hcs, htake⟩
  · omega
  · have h1 := hc g rfl st.length (exS x) (by simp)
    rw [show (⟨g, 0, none⟩ : Addr).add st.length = ⟨g, st.length, none⟩ by unfold Addr.add; split <;> simp_all] at h1
    refine ⟨g, cap, rfl, hnc, hcm, hb, (Array.getElem?_eq_some_iff.1 hg).1, h1, by simp, .inr ⟨g, cap, cur, rfl, hb, hg, by omega, hcm, hcs, ?_⟩⟩
    have h3 := congrArg (List.take st.length) htake
    rw [List.take_take] at h3
    simp only [Nat.mul_one] at h3 ⊢
    rw [Nat.min_eq_left (by omega), List.take_left' (by simp)] at h3
    exact h3
theorem Stk.nil {w : World} {base : Nat} {v : Value} (h : Stk w base v []) : ∃ a cap, v = .slice a 0 cap := by
  rcases h.2 with ⟨h1, _⟩ | ⟨g, cap, cur, rfl, _⟩
  · exact ⟨_, _, h1⟩
  · exact ⟨_, _, rfl⟩
theorem Try.infoE : (Try.prog.info? 36).map (fun i => (i.zero, i.size, i.bytes)) = some (some .nilIface, 1, 16) := by kernel_rfl
theorem Kids.form {w : World} {sl : Value} {l : List Value} (h : Kids w sl l) : ∃ a, sl = .slice a l.length l.length := by
  rcases h with ⟨rfl, rfl⟩ | ⟨g, rfl, _⟩
  · exact ⟨_, rfl⟩
  · exact ⟨_, rfl⟩
theorem Kids.at {w : World} {a : Option Addr} {m c j : Nat} {l : List Value} (h : Kids w (.slice a m c) l) (hj : j < l.length) : ∃ g, a = some ⟨g, 0, none⟩ ∧ w.cell? ⟨g, j, none⟩ = some l[j] := by
  rcases h with ⟨h1, rfl⟩ | ⟨g, h1, hc⟩
  · simp at hj
  · simp only [Value.slice.injEq] at h1
    exact ⟨g, h1.1, hc j hj⟩
theorem Kids.cell1 {w : World} {g m c : Nat} {x y : Value} (h : Kids w (.slice (some ⟨g, 0, none⟩) m c) [x, y]) : w.cell? ⟨g, 1, none⟩ = some y := by
  obtain ⟨g', hg, hc⟩ := h.at (j := 1) (by simp)
  obtain rfl : g = g' := by simpa using hg
  exact hc
theorem Kids.src {w : World} {sl : Value} {l : List Value} (h : Kids w sl l) (hf : ∀ v ∈ l, Ifc v) : Src Try.prog 1 72 sl l.length l w := by
  rcases h with ⟨rfl, rfl⟩ | ⟨g, rfl, hc⟩
  · exact Src.ofNil w Try.underlying72 0
  · refine Src.ofSlice w Try.underlying72 _ _ _ l (by simp) (fun j u hu => ?_) (fun u hu => ?_)
    · have hj : j < l.length := (List.getElem?_eq_some_iff.1 hu).1
      rw [List.getElem?_eq_getElem hj] at hu
      rw [show (⟨g, 0, none⟩ : Addr).add j = ⟨g, j, none⟩ by unfold Addr.add; split <;> simp_all, hc j hj, hu]
    · rcases hf u hu with rfl | ⟨t, y, rfl⟩ <;> rfl
/-- The parts of a tree, each with its depth. -/
def kidS {d : Nat} (ps : List (T d)) : List Sg := ps.map (fun p => ⟨d, p⟩)
theorem kidS_ex {d : Nat} (ps : List (T d)) : (kidS ps).map exS = ps.map (exV d) := by unfold kidS; rw [List.map_map]; rfl
theorem kidS_cnt {d : Nat} (ps : List (T d)) : ((kidS ps).map cntS).sum = (ps.map (cnt d)).sum := by unfold kidS; rw [List.map_map]; rfl
theorem kidS_len {d : Nat} (ps : List (T d)) : (kidS ps).length = ps.length := by simp [kidS]
theorem Stk.push {w : World} {base : Nat} {v : Value} {st : List Sg} {d : Nat} {ps : List (T d)} {n : Nat} (hn : n = st.length + ps.length) (h : w.ownsRow base 36 1 v n (st.map exS ++ ps.map (exV d))) : Stk w base v (st ++ kidS ps) := by
  unfold Stk
  rw [List.length_append, List.map_append, kidS_ex, kidS_len, ← hn]
  exact h
theorem ifc_map {d : Nat} (ps : List (T d)) : ∀ v ∈ ps.map (exV d), Ifc v := fun v hv => by
  obtain ⟨p, _, rfl⟩ := List.mem_map.1 hv
  exact ifc_ex p
/-- What is asked of a tree's parts. -/
theorem Cl.parts {d : Nat} {k n : Int} {s : ByteArray} {ps : List (T d)} (h : Cl (d + 1) (mkT k n s ps)) : ps.length ≤ 2 ∧ ∀ p ∈ ps, Cl d p := by
  rcases h with ⟨_, _, h3⟩ | ⟨_, _, h3⟩ | ⟨_, _, _, p, h4, h5⟩ | ⟨_, _, p, q, h3, h4, h5⟩ | ⟨_, _, _, h4⟩
  · simp only at h3; subst h3; simp
  · simp only at h3; subst h3; simp
  · simp only at h4; subst h4; simpa using h5
  · simp only at h3; subst h3; simp [h4, h5]
  · simp only at h4; subst h4; simp
theorem last_of {α : Type} {l : List α} (h : l ≠ []) : ∃ a x, l = a ++ [x] := ⟨l.dropLast, l.getLast h, (List.dropLast_concat_getLast h).symm⟩
end Go.Proofs.Ytpdkmbifibkepaa

/- What the program's Nodes does. -/
namespace Go.Proofs.Ytpdkmbifibkepaa
open Go.RowKit Go.Lib
set_option linter.unusedSimpArgs false
set_option linter.unusedVariables false
attribute [local go_sem ↓] Go.wp_at_zero Go.wp_at_succ
attribute [local go_sem] fld_i

theorem stk_len : ∀ (st : List Sg), st.length ≤ (st.map cntS).sum
  | [] => by simp
  | x :: r => by
    have := stk_len r
    have h1 : 1 ≤ cntS x := cnt_pos x.1 x.2
    simp only [List.map_cons, List.sum_cons, List.length_cons]
    omega

set_option maxRecDepth 100000 in
set_option maxHeartbeats 4000000 in
theorem pNodes_cnt (d : Nat) (t : T d) (w : World) (hc : Cl d t) (hn : cnt d t ≤ 100000) : Calls Try.prog 18 #[exV d t] w fun r w' => r = .returned (.int .i64 ((min (cnt d t) 41 : Nat) : Int)) ∧ Below w.heap.size w w' := by
  obtain ⟨i0, hi, hz0, hz1, hz2⟩ := info_parts Try.infoE
  obtain ⟨x, hx⟩ : ∃ x, exV d t = x := ⟨_, rfl⟩
  have hf := exV_form d t
  obtain ⟨N, hN⟩ : ∃ N, cnt d t = N := ⟨_, rfl⟩
  have hst : Hid (Stk (w.alloc (.cells #[x] 36)) w.heap.size (.slice (some ⟨w.heap.size, 0, none⟩) 1 1) [(⟨d, t⟩ : Sg)]) := by
    have := World.ownsRow_lit (e := 36) (base := w.heap.size) (size := 1) w #[x] 1 (Nat.le_refl _) (by simp [maxLen]) (by simp)
    show Stk _ _ _ _
    unfold Stk
    simpa [exS, hx] using this
  have hcl : Hid (∀ y ∈ [(⟨d, t⟩ : Sg)], ClS y) := fun y hy => by simp at hy; subst hy; exact hc
  have hsum : Hid (0 + (([(⟨d, t⟩ : Sg)]).map cntS).sum = N) := by show 0 + (cnt d t + 0) = N; omega
  obtain ⟨V, hV⟩ : ∃ V, min (cnt d t) 41 = V := ⟨_, rfl⟩
  rw [hV]
  have HV : Hid (min N 41 = V) := by rw [← hN]; exact hV
  rw [hN] at hn
  rw [hx] at hf ⊢
  clear hx hN hc hV
  obtain ⟨S, hS⟩ : ∃ S, [(⟨d, t⟩ : Sg)] = S := ⟨_, rfl⟩
  rw [hS] at hst hcl hsum
  clear hS t d
  rcases hf with rfl | ⟨u, y, rfl⟩
  · go_enter Try.func18, Try.ntmps18
    go_wp2
    go_loopw [3, 4] (fun a v wr => ∃ (c : Nat) (st : List Sg), a = .int .i64 (c : Int) ∧ c ≤ 41 ∧ Stk wr w.heap.size v st ∧ Hid (∀ y ∈ st, ClS y) ∧ Hid (c + (st.map cntS).sum = N) ∧ Below w.heap.size w wr) (fun a _ _ => 41 - (RowKit.intOf a).toNat)
    case atStart => exact ⟨0, S, rfl, by omega, hst.out, hcl, hsum, (Below.refl _ _).alloc (Nat.le_refl _) _⟩
    case round =>
      obtain ⟨c, st, rfl, hc41, hS, hC, hM, hb⟩ := hrel
      by_cases he : st = []
      · subst he
        obtain ⟨a, cap, rfl⟩ := hS.nil
        have hm := hM.out
        simp only [List.map_nil, List.sum_nil, Nat.add_zero] at hm
        subst hm
        have hmin : V = c := by rw [← HV.out]; omega
        subst hmin
        clear hsum
        go_wp2
        go_ret
        exact ⟨rfl, hb⟩
      obtain ⟨st', y, rfl⟩ := last_of he
      obtain ⟨g, cap, rfl, hcap, hcm, hgb, hgl, hcell, hS'⟩ := hS.pop
      have hm := hM.out
      rw [List.map_append, List.sum_append, List.map_singleton, List.sum_singleton] at hm
      have hcl1 := hC.out y (by simp)
      obtain ⟨e, t⟩ := y
      cases e with
      | zero => exact Empty.elim t
      | succ e =>
      obtain ⟨k, n, s, ps, rfl, htop⟩ := top_any (d := e) (t := t) hcl1
      have hcs : cntS ⟨e + 1, mkT k n s ps⟩ = (ps.map (cnt e)).sum + 1 := cnt_mk k n s ps
      rw [hcs] at hm
      have i1 : ((st'.length : Int) + 1 > 0) := by omega
      by_cases hc40 : c = 41
      · have i2 : ¬ (c : Int) ≤ 40 := by omega
        have hmin : V = c := by rw [← HV.out]; omega
        subst hmin
        clear hsum htop hcell hm hcs hC hM hS hS' hcl1 hst HV
        go_wp2
        go_ret
        exact ⟨rfl, hb⟩
      have i2 : (c : Int) ≤ 40 := by omega
      have hS2 := fun w1 (b : Below wr.heap.size wr w1) => hS'.on b (Nat.le_refl _)
      have hq := hb.size
      have i3 : (0 : Int) ≤ (st'.length : Int) := by omega
      have i4 : (st'.length : Int) ≤ (cap : Int) := by omega
      have i5 : (st'.length : Int) < (st'.length : Int) + 1 := by omega
      have hpl : ps.length ≤ 2 := (Cl.parts hcl1).1
      have hsl : st'.length ≤ 100000 := by
        have : st'.length ≤ (st'.map cntS).sum := stk_len st'
        omega
      have hNM : Hid (c + 1 + ((st' ++ kidS ps).map cntS).sum = N) := by
        show _ = _
        rw [List.map_append, List.sum_append, kidS_cnt]; omega
      have hNC : Hid (∀ y ∈ st' ++ kidS ps, ClS y) := fun y hy => by
        rcases List.mem_append.1 hy with h | h
        · exact hC.out y (by simp [h])
        · obtain ⟨p, hp, rfl⟩ := List.mem_map.1 h
          exact (Cl.parts hcl1).2 p hp
      obtain ⟨L, hL⟩ : ∃ L, ps.map (exV e) = L := ⟨_, rfl⟩
      obtain ⟨z, hz⟩ : ∃ z, exS ⟨e + 1, mkT k n s ps⟩ = z := ⟨_, rfl⟩
      have hzf := exS_form ⟨e + 1, mkT k n s ps⟩
      have hti : Hid (∀ v ∈ L, Ifc v) := by rw [← hL]; exact ifc_map ps
      have hLl : Hid (L.length = ps.length) := by rw [← hL]; show _ = _; simp
      have hL2 : L.length ≤ 2 := by rw [hLl.out]; exact hpl
      have htop' : ∀ w1, Calls Try.prog 26 #[z] w1 fun e w' => ∃ sl, e = .returned (.agg #[.int .i64 k, .int .i64 n, .string s, sl]) ∧ Kids w' sl L ∧ Below w1.heap.size w1 w' := by rw [← hz, ← hL]; exact htop
      rw [hz] at hcell hzf
      have hLH : Hid (ps.map (exV e) = L) := hL
      clear hL hz htop hm hcs hC hM hS hcl1 hst hsum hS'
      go_wp2
      go_region_law (first
          | (refine step_append_both _ (by rfl) (.tmp 20) (.tmp 26) 72 72 (by rfl) w.heap.size 36 i0 .nilIface 1 16 Try.underlying72 hi hz0 hz1 hz2 rfl _ st'.length _ (by rfl) ho1 _ L.length L (by rfl) (hk1.src hti.out) L.length (.inr (by omega)) (Nat.le_refl _) (by unfold maxLen; omega) (Nat.le_trans hq b1'.size) ?_; intro v4 w4 ho4 hg4 _)
          | (go_simp; refine (htop' _).mono ?_; rintro e w1 ⟨sl, rfl, hk1, b1⟩; obtain ⟨a1, rfl⟩ := hk1.form; have b1' : Below wr.heap.size wr w1 := ((Below.refl _ wr).drew).trans b1; have ho1 := hS2 w1 b1'))
      have bel4 : Below w.heap.size w w4 := (hb.trans (b1'.mono hq)).grown hg4 (Nat.le_trans hq b1'.size) (fun k hk => (World.ownsRow.lt ho1 k hk).1)
      have hS4 : Stk w4 w.heap.size v4 (st' ++ kidS ps) := Stk.push (n := st'.length + L.length) (by rw [hLl.out]) (by rw [hLH.out]; exact ho4)
      clear ho4 hg4 ho1 hk1 b1 b1' hS2 hcell htop' hb
      go_wp2
      go_roundw
      case rel => exact ⟨c + 1, st' ++ kidS ps, by go_num, by omega, hS4, hNC, hNM, bel4⟩
      case measure => simp [RowKit.intOf]; omega
  · go_enter Try.func18, Try.ntmps18
    go_wp2
    go_loopw [3, 4] (fun a v wr => ∃ (c : Nat) (st : List Sg), a = .int .i64 (c : Int) ∧ c ≤ 41 ∧ Stk wr w.heap.size v st ∧ Hid (∀ y ∈ st, ClS y) ∧ Hid (c + (st.map cntS).sum = N) ∧ Below w.heap.size w wr) (fun a _ _ => 41 - (RowKit.intOf a).toNat)
    case atStart => exact ⟨0, S, rfl, by omega, hst.out, hcl, hsum, (Below.refl _ _).alloc (Nat.le_refl _) _⟩
    case round =>
      obtain ⟨c, st, rfl, hc41, hS, hC, hM, hb⟩ := hrel
      by_cases he : st = []
      · subst he
        obtain ⟨a, cap, rfl⟩ := hS.nil
        have hm := hM.out
        simp only [List.map_nil, List.sum_nil, Nat.add_zero] at hm
        subst hm
        have hmin : V = c := by rw [← HV.out]; omega
        subst hmin
        clear hsum
        go_wp2
        go_ret
        exact ⟨rfl, hb⟩
      obtain ⟨st', y, rfl⟩ := last_of he
      obtain ⟨g, cap, rfl, hcap, hcm, hgb, hgl, hcell, hS'⟩ := hS.pop
      have hm := hM.out
      rw [List.map_append, List.sum_append, List.map_singleton, List.sum_singleton] at hm
      have hcl1 := hC.out y (by simp)
      obtain ⟨e, t⟩ := y
      cases e with
      | zero => exact Empty.elim t
      | succ e =>
      obtain ⟨k, n, s, ps, rfl, htop⟩ := top_any (d := e) (t := t) hcl1
      have hcs : cntS ⟨e + 1, mkT k n s ps⟩ = (ps.map (cnt e)).sum + 1 := cnt_mk k n s ps
      rw [hcs] at hm
      have i1 : ((st'.length : Int) + 1 > 0) := by omega
      by_cases hc40 : c = 41
      · have i2 : ¬ (c : Int) ≤ 40 := by omega
        have hmin : V = c := by rw [← HV.out]; omega
        subst hmin
        clear hsum htop hcell hm hcs hC hM hS hS' hcl1 hst HV
        go_wp2
        go_ret
        exact ⟨rfl, hb⟩
      have i2 : (c : Int) ≤ 40 := by omega
      have hS2 := fun w1 (b : Below wr.heap.size wr w1) => hS'.on b (Nat.le_refl _)
      have hq := hb.size
      have i3 : (0 : Int) ≤ (st'.length : Int) := by omega
      have i4 : (st'.length : Int) ≤ (cap : Int) := by omega
      have i5 : (st'.length : Int) < (st'.length : Int) + 1 := by omega
      have hpl : ps.length ≤ 2 := (Cl.parts hcl1).1
      have hsl : st'.length ≤ 100000 := by
        have : st'.length ≤ (st'.map cntS).sum := stk_len st'
        omega
      have hNM : Hid (c + 1 + ((st' ++ kidS ps).map cntS).sum = N) := by
        show _ = _
        rw [List.map_append, List.sum_append, kidS_cnt]; omega
      have hNC : Hid (∀ y ∈ st' ++ kidS ps, ClS y) := fun y hy => by
        rcases List.mem_append.1 hy with h | h
        · exact hC.out y (by simp [h])
        · obtain ⟨p, hp, rfl⟩ := List.mem_map.1 h
          exact (Cl.parts hcl1).2 p hp
      obtain ⟨L, hL⟩ : ∃ L, ps.map (exV e) = L := ⟨_, rfl⟩
      obtain ⟨z, hz⟩ : ∃ z, exS ⟨e + 1, mkT k n s ps⟩ = z := ⟨_, rfl⟩
      have hzf := exS_form ⟨e + 1, mkT k n s ps⟩
      have hti : Hid (∀ v ∈ L, Ifc v) := by rw [← hL]; exact ifc_map ps
      have hLl : Hid (L.length = ps.length) := by rw [← hL]; show _ = _; simp
      have hL2 : L.length ≤ 2 := by rw [hLl.out]; exact hpl
      have htop' : ∀ w1, Calls Try.prog 26 #[z] w1 fun e w' => ∃ sl, e = .returned (.agg #[.int .i64 k, .int .i64 n, .string s, sl]) ∧ Kids w' sl L ∧ Below w1.heap.size w1 w' := by rw [← hz, ← hL]; exact htop
      rw [hz] at hcell hzf
      have hLH : Hid (ps.map (exV e) = L) := hL
      clear hL hz htop hm hcs hC hM hS hcl1 hst hsum hS'
      go_wp2
      go_region_law (first
          | (refine step_append_both _ (by rfl) (.tmp 20) (.tmp 26) 72 72 (by rfl) w.heap.size 36 i0 .nilIface 1 16 Try.underlying72 hi hz0 hz1 hz2 rfl _ st'.length _ (by rfl) ho1 _ L.length L (by rfl) (hk1.src hti.out) L.length (.inr (by omega)) (Nat.le_refl _) (by unfold maxLen; omega) (Nat.le_trans hq b1'.size) ?_; intro v4 w4 ho4 hg4 _)
          | (go_simp; refine (htop' _).mono ?_; rintro e w1 ⟨sl, rfl, hk1, b1⟩; obtain ⟨a1, rfl⟩ := hk1.form; have b1' : Below wr.heap.size wr w1 := ((Below.refl _ wr).drew).trans b1; have ho1 := hS2 w1 b1'))
      have bel4 : Below w.heap.size w w4 := (hb.trans (b1'.mono hq)).grown hg4 (Nat.le_trans hq b1'.size) (fun k hk => (World.ownsRow.lt ho1 k hk).1)
      have hS4 : Stk w4 w.heap.size v4 (st' ++ kidS ps) := Stk.push (n := st'.length + L.length) (by rw [hLl.out]) (by rw [hLH.out]; exact ho4)
      clear ho4 hg4 ho1 hk1 b1 b1' hS2 hcell htop' hb
      go_wp2
      go_roundw
      case rel => exact ⟨c + 1, st' ++ kidS ps, by go_num, by omega, hS4, hNC, hNM, bel4⟩
      case measure => simp [RowKit.intOf]; omega
end Go.Proofs.Ytpdkmbifibkepaa

/- What is asked of the program's Formed. -/
namespace Go.Proofs.Ytpdkmbifibkepaa
open Go.RowKit Go.Lib
set_option linter.unusedSimpArgs false
set_option linter.unusedVariables false

/-- The program's Formed answers as the document says. -/
def FormedP : Prop := ∀ (d : Nat) (t : T d) (w : World), Cl d t → cnt d t ≤ 100000 → shrt 1000 d t = true → Calls Try.prog 11 #[exV d t] w fun r w' => r = .returned (.bool (fmC d t)) ∧ Below w.heap.size w w'
theorem bthen {a b c : World} (h : Below a.heap.size a b) (k : Below b.heap.size b c) : Below a.heap.size a c := h.trans (k.mono h.size)
theorem At4.on {w w' : World} {X : Nat} {a b c e : Value} (h : At4 w X a b c e) (hb : Below w.heap.size w w') : At4 w' X a b c e := h.keepB hb (World.block_lt_of_cell? w _ h.1)
/-- A small tree, cleaned. -/
theorem small_cln {d : Nat} {t : T d} (h : 0 ≤ sml d t 0 200) : cnt (d + 1) (cln d t) ≤ 1000 ∧ shrt 1000 (d + 1) (cln d t) = true := by
  obtain ⟨h1, h2⟩ := sml_ok d t 0 200 h
  have h3 := cnt_cln d t
  exact ⟨by omega, shrt_cln 1000 d t h2⟩
end Go.Proofs.Ytpdkmbifibkepaa

/- What the program's rightWithin and Formed do. -/
namespace Go.Proofs.Ytpdkmbifibkepaa
open Go.RowKit Go.Lib
set_option linter.unusedSimpArgs false
set_option linter.unusedVariables false
attribute [local go_sem ↓] Go.wp_at_zero Go.wp_at_succ

theorem ndC_cnt : ∀ (d : Nat) (t : T d), ndC d t = min (cnt d t) 41
  | 0, t => Empty.elim t
  | d + 1, t => by
    obtain ⟨k, n, s, ps, rfl⟩ := T.open t
    rw [ndC_mk, cnt_mk]
    have : ∀ l : List (T d), min ((l.map (ndC d)).sum + 1) 41 = min ((l.map (cnt d)).sum + 1) 41 := fun l => by
      induction l with
      | nil => rfl
      | cons p r ih =>
        have := ndC_cnt d p
        simp only [List.map_cons, List.sum_cons]
        omega
    exact this ps

theorem foldl_max_iff {m : Nat} : ∀ (l : List Nat) (a : Nat), l.foldl max a ≤ m ↔ a ≤ m ∧ ∀ x ∈ l, x ≤ m
  | [], a => by simp
  | x :: r, a => by
    rw [List.foldl_cons, foldl_max_iff r, Nat.max_le]
    simp only [List.mem_cons, forall_eq_or_imp, and_assoc]
theorem sd_rt {d : Nat} {k n : Int} {s : ByteArray} {ps : List (T d)} (h : Cl (d + 1) (mkT k n s ps)) : sdC (d + 1) (mkT k n s ps) = (rtC k n s && ps.all (sdC d)) := by
  rw [sdC_mk]
  unfold rtC
  rcases h with ⟨h1, h2, h3⟩ | ⟨h1, h2, h3⟩ | ⟨h1, h2, h3, p, h4, h5⟩ | ⟨h1, h2, p, q, h3, h4, h5⟩ | ⟨h1, h2, h3, h4⟩
  · simp only at h1 h3; subst h1 h3; simp
  · simp only at h1 h3; subst h1 h3; simp
  · simp only at h1 h4; rcases h1 with rfl | rfl <;> simp
  · simp only at h1 h3; subst h1 h3; simp
  · simp only at h1 h4; subst h1 h4; simp
theorem within_all {d : Nat} {k n : Int} {s : ByteArray} {ps : List (T d)} (h : Cl (d + 1) (mkT k n s ps)) (r : Nat) :
    (decide (dpC (d + 1) (mkT k n s ps) ≤ r + 1) && sdC (d + 1) (mkT k n s ps)) = (rtC k n s && ps.all (fun p => decide (dpC d p ≤ r) && sdC d p)) := by
  rw [sd_rt h, dpC_mk]
  have e1 : decide ((ps.map (dpC d)).foldl max 0 + 1 ≤ r + 1) = ps.all (fun p => decide (dpC d p ≤ r)) := by
    rw [Bool.eq_iff_iff]
    simp only [decide_eq_true_eq, List.all_eq_true]
    rw [Nat.add_le_add_iff_right, foldl_max_iff]
    simp
  have e2 : ps.all (fun p => decide (dpC d p ≤ r) && sdC d p) = (ps.all (fun p => decide (dpC d p ≤ r)) && ps.all (sdC d)) := by
    induction ps with
    | nil => rfl
    | cons p q ih =>
      simp only [List.all_cons]
      have : q.all (fun p => decide (dpC d p ≤ r) && sdC d p) = (q.all (fun p => decide (dpC d p ≤ r)) && q.all (sdC d)) := by
        clear ih e1 h
        induction q with
        | nil => rfl
        | cons a b ih => simp only [List.all_cons]; rw [ih]; cases decide (dpC d a ≤ r) <;> cases sdC d a <;> simp
      rw [this]
      cases decide (dpC d p ≤ r) <;> cases sdC d p <;> simp
  rw [e1, e2]
  cases rtC k n s <;> simp
theorem dpC_pos (d : Nat) (t : T d) : 1 ≤ dpC d t := by
  match d, t with
  | 0, t => exact Empty.elim t
  | d + 1, t =>
    obtain ⟨k, n, s, ps, rfl⟩ := T.open t
    rw [dpC_mk]; omega

def RightC (d : Nat) : Prop := ∀ (t : T d) (r : Nat) (w : World), Cl d t → shrt 1000 d t = true → r ≤ 12 →
  Calls Try.prog 19 #[exV d t, .int .i64 (r : Int)] w fun e w' => e = .returned (.bool (decide (dpC d t ≤ r) && sdC d t)) ∧ Below w.heap.size w w'
set_option maxRecDepth 100000 in
set_option maxHeartbeats 4000000 in
theorem right_step (d : Nat) (IH : RightC d) : RightC (d + 1) := by
  intro t r w hc hs hr
  obtain ⟨k, n, s, ps, rfl, htop⟩ := top_any hc
  rw [shrt_mk] at hs
  simp only [Bool.and_eq_true, decide_eq_true_eq, List.all_eq_true] at hs
  obtain ⟨hs1, hs2⟩ := hs
  obtain ⟨x, hx⟩ : ∃ x, exV (d + 1) (mkT k n s ps) = x := ⟨_, rfl⟩
  rw [hx] at htop ⊢
  have htop' : ∀ w1, Calls Try.prog 26 #[x] w1 fun e w' => ∃ sl, e = .returned (.agg #[.int .i64 k, .int .i64 n, .string s, sl]) ∧ Kids w' sl (ps.map (exV d)) ∧ Below w1.heap.size w1 w' := htop
  cases r with
  | zero =>
    have e1 : (((0 : Nat) : Int) < 1) := by omega
    have hd := dpC_pos (d + 1) (mkT k n s ps)
    rw [decide_eq_false (by omega), Bool.false_and]
    go_enter Try.func19, Try.ntmps19
    go_wp2_with (first
      | (go_at_call 26; refine (htop' _).mono ?_; rintro e w1 ⟨sl, rfl, hk1, b1⟩; obtain ⟨a1, rfl⟩ := hk1.form))
    go_ret
    exact ⟨rfl, b1.alloc b1.size _⟩
  | succ r =>
  rw [within_all hc]
  obtain ⟨L, hL⟩ : ∃ L, ps.map (exV d) = L := ⟨_, rfl⟩
  have hkid : Hid (∀ (j : Nat) (h : j < L.length) (h' : j < ps.length) (w1 : World), Calls Try.prog 19 #[L[j], .int .i64 (r : Int)] w1 fun e w' => e = .returned (.bool (decide (dpC d ps[j] ≤ r) && sdC d ps[j])) ∧ Below w1.heap.size w1 w') :=
    fun j h h' w1 => by
      have := IH ps[j] r w1 ((Cl.parts hc).2 _ (List.getElem_mem h')) (hs2 _ (List.getElem_mem h')) (by omega)
      subst hL
      simpa using this
  have hrt := fun a m w1 => rightTop_any k n s a m hs1 w1
  have hpl : L.length ≤ 2 := by rw [← hL]; simpa using (Cl.parts hc).1
  have hLl : Hid (L.length = ps.length) := by rw [← hL]; show _ = _; simp
  have i0 : ¬ ((r : Int) + 1 < 1) := by omega
  have i1 : (((r + 1 : Nat) : Int)) = (r : Int) + 1 := by omega
  rw [i1]
  obtain ⟨g, hg⟩ : ∃ g, rtC k n s = g := ⟨_, rfl⟩
  simp only [hg] at hrt
  simp only [hL] at htop'
  rw [hg]
  clear hg i1 htop hs1 hs2 hc hx hL
  cases g with
  | false =>
    rw [Bool.false_and]
    go_enter Try.func19, Try.ntmps19
    go_wp2_with (first
      | (go_at_call 26; refine (htop' _).mono ?_; rintro e w1 ⟨sl, rfl, hk1, b1⟩; obtain ⟨a1, rfl⟩ := hk1.form; have b2 := b1.alloc b1.size (.cells #[.int .i64 k, .int .i64 n, .string s, .slice a1 L.length L.length] 74))
      | (go_at_call 35; refine (hrt _ _ _).mono ?_; rintro e w2 ⟨rfl, b3⟩))
    go_ret
    exact ⟨rfl, b2.trans (b3.mono b2.size)⟩
  | true =>
    rw [Bool.true_and]
    obtain ⟨V, hV⟩ : ∃ V, ps.all (fun p => decide (dpC d p ≤ r) && sdC d p) = V := ⟨_, rfl⟩
    rw [hV]
    have HV : Hid (ps.all (fun p => decide (dpC d p ≤ r) && sdC d p) = V) := hV
    clear hV
    go_enter Try.func19, Try.ntmps19
    go_wp2_with (first
      | (go_at_call 26; refine (htop' _).mono ?_; rintro e w1 ⟨sl, rfl, hk1, b1⟩; obtain ⟨a1, rfl⟩ := hk1.form; have b2 := b1.alloc b1.size (.cells #[.int .i64 k, .int .i64 n, .string s, .slice a1 L.length L.length] 74))
      | (go_at_call 35; refine (hrt _ _ _).mono ?_; rintro e w2 ⟨rfl, b3⟩; obtain ⟨y0, y1, y2, y3⟩ := (At4.new w1 (.int .i64 k) (.int .i64 n) (.string s) (.slice a1 L.length L.length) 74).keepB b3 (by simp)))
    have b4 := b2.trans (b3.mono b2.size)
    have hk2 := (hk1.below ((Below.refl _ _).alloc (Nat.le_refl _) _) (Nat.le_refl _)).below b3 (Nat.le_refl _)
    clear hrt htop' hk1 b1 b2 b3
    go_loopw [20] (fun i wr => ∃ j : Nat, j ≤ L.length ∧ i = .int .i64 (j : Int) ∧ Hid ((ps.take j).all (fun p => decide (dpC d p ≤ r) && sdC d p) = true) ∧ Hid (Kids wr (.slice a1 L.length L.length) L) ∧ Below w.heap.size w wr) (fun i _ => L.length - (RowKit.intOf i).toNat)
    case atStart => exact ⟨0, Nat.zero_le _, rfl, rfl, hk2, b4⟩
    case round =>
      obtain ⟨j, hj, rfl, hA, hK, hb⟩ := hrel
      have i2 : (0 : Int) ≤ (j : Int) := by omega
      have hll := hLl.out
      by_cases hlt : j < L.length
      · have i3 : (j : Int) < (L.length : Int) := by omega
        obtain ⟨gg, hgg, hcell⟩ := hK.out.at hlt
        have hc2 := hkid.out j hlt (by omega)
        have h1 := all_take_succ (fun p => decide (dpC d p ≤ r) && sdC d p) ps j (by omega) hA.out
        have h2 := all_not (fun p => decide (dpC d p ≤ r) && sdC d p) ps j (by omega)
        obtain ⟨z, hz⟩ : ∃ z, L[j] = z := ⟨_, rfl⟩
        obtain ⟨q, hq⟩ : ∃ q, (decide (dpC d (ps[j]'(by omega)) ≤ r) && sdC d (ps[j]'(by omega))) = q := ⟨_, rfl⟩
        rw [hz] at hcell
        simp only [hz, hq] at hc2
        simp only [hq] at h1 h2
        subst hgg
        have hK2 := fun w3 (b : Below wr.heap.size wr w3) => hK.out.below b (Nat.le_refl _)
        have hS : Hid (_ → _) := h1
        have hN : Hid (_ → _) := h2
        clear hz hq h1 h2 hll hK hA
        cases q with
        | false =>
          have hF : V = false := by rw [← HV.out]; exact hN.out rfl
          subst hF
          go_wp2_with (first
            | (go_at_call 19; refine (hc2 _).mono ?_; rintro e w3 ⟨rfl, b5⟩))
          go_ret
          exact ⟨rfl, hb.trans (b5.mono hb.size)⟩
        | true =>
          have hT := hS.out rfl
          have HT : Hid ((ps.take (j + 1)).all (fun p => decide (dpC d p ≤ r) && sdC d p) = true) := hT
          clear hT hS hN
          go_wp2_with (first
            | (go_at_call 19; refine (hc2 _).mono ?_; rintro e w3 ⟨rfl, b5⟩))
          have hK3 : Hid _ := hK2 _ b5
          have b6 := hb.trans (b5.mono hb.size)
          go_roundw
          case rel => exact ⟨j + 1, hlt, by go_num, HT, hK3, b6⟩
          case measure => simp [RowKit.intOf]; omega
      · have i3 : ¬ (j : Int) < (L.length : Int) := by omega
        have hF : V = true := by
          rw [← HV.out, ← hA.out, List.take_of_length_le (by omega)]
        subst hF
        clear hll
        go_wp2
        go_ret
        exact ⟨rfl, hb⟩
theorem right_any : ∀ (d : Nat), RightC d
  | 0 => fun t => Empty.elim t
  | d + 1 => right_step d (right_any d)

theorem pNodes_any (d : Nat) (t : T d) (w : World) (hc : Cl d t) (hn : cnt d t ≤ 100000) : Calls Try.prog 18 #[exV d t] w fun r w' => r = .returned (.int .i64 (ndC d t : Int)) ∧ Below w.heap.size w w' := by
  rw [ndC_cnt]
  exact pNodes_cnt d t w hc hn

theorem formedP : FormedP := by
  intro d t w hc hn hs
  have h1 := pNodes_any d t w hc hn
  have h2 := fun w1 => right_any d t 12 w1 hc hs (Nat.le_refl _)
  unfold fmC
  obtain ⟨N, hN⟩ : ∃ N, ndC d t = N := ⟨_, rfl⟩
  obtain ⟨q, hq⟩ : ∃ q, (decide (dpC d t ≤ 12) && sdC d t) = q := ⟨_, rfl⟩
  obtain ⟨x, hx⟩ : ∃ x, exV d t = x := ⟨_, rfl⟩
  rw [Bool.and_assoc, hN, hq]
  rw [hN] at h1
  simp only [hq] at h2
  rw [hx] at h1 ⊢
  simp only [hx] at h2
  clear hN hq hx hc hn hs
  by_cases h40 : N ≤ 40
  · have e1 : (N : Int) ≤ 40 := by omega
    rw [decide_eq_true h40, Bool.true_and]
    go_enter Try.func11, Try.ntmps11
    go_wp2_with (first
      | (go_at_call 18; refine h1.mono ?_; rintro e w1 ⟨rfl, b1⟩)
      | (go_at_call 19; refine (h2 _).mono ?_; rintro e w2 ⟨rfl, b2⟩))
    go_ret
    exact ⟨rfl, bthen b1 b2⟩
  · have e1 : ¬ (N : Int) ≤ 40 := by omega
    rw [decide_eq_false h40, Bool.false_and]
    go_enter Try.func11, Try.ntmps11
    go_wp2_with (first
      | (go_at_call 18; refine h1.mono ?_; rintro e w1 ⟨rfl, b1⟩))
    go_ret
    exact ⟨rfl, b1⟩
end Go.Proofs.Ytpdkmbifibkepaa
