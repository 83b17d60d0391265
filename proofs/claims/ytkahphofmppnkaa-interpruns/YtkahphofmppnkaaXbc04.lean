import Derived.Test.YtkahphofmppnkaaXbc03
import Derived.WalkSmall
import Derived.Deep.Cut
import Derived.Deep.DeepCutAuto
import Derived.Deep.RegionHeldLaw
import Derived.BigQuiet
import Derived.Deep.QuietTactic

/- The document's machine: fail, push, pop, truth. -/
namespace Go.Proofs.Ytkahphofmppnkaa
open Go.RowKit Go.Lib
set_option linter.unusedSimpArgs false
set_option linter.unusedVariables false
attribute [local go_sem ↓] Go.wp_at_zero Go.wp_at_succ
/-- The document's machine in block X: its stack, its error. -/
structure Md (w : World) (X : Nat) (lv : Value) (st : List Int) (e : Int) : Prop where
  b : Bn w X [lv, .int .i64 e]
  s : w.ownsRow (X + 1) 2 1 lv st.length (st.reverse.map (Value.int .i64))
theorem srcRow {w : World} {base e k n : Nat} {tx : TypeId} {v : Value} {xs : List Value} (h : w.ownsRow base e k v n xs) (ht : Try.prog.underlying tx = some (.slice e)) (h1 : ∀ u ∈ xs, u.oneCell' = true) : Src Try.prog k tx v n xs w := by
  have hc := fun g => World.ownsRow.cells h (g := g)
  have hl := h.1
  rcases h.2 with ⟨rfl, hn⟩ | ⟨g, cap, cur, rfl, hb, hg, hnc, hcm, hcs, htake⟩
  · subst hn
    have hx : xs = [] := List.eq_nil_of_length_eq_zero (by rw [hl]; simp)
    subst hx
    exact Src.ofNil w ht 0
  · exact Src.ofSlice w ht _ n cap xs hl (hc g rfl) h1
theorem ints_one {l : List Int} : ∀ u ∈ l.map (Value.int .i64), u.oneCell' = true := by
  intro u hu
  obtain ⟨x, _, rfl⟩ := List.mem_map.1 hu
  rfl
theorem orow_low {w : World} {base lo e k n : Nat} {v : Value} {xs : List Value} (h : w.ownsRow base e k v n xs) (hlo : lo ≤ base) : w.ownsRow lo e k v n xs := by
  refine ⟨h.1, ?_⟩
  rcases h.2 with h1 | ⟨g, cap, cur, h1, h2, h3⟩
  · exact .inl h1
  · exact .inr ⟨g, cap, cur, h1, by omega, h3⟩
/-- An empty row, new. -/
theorem own_none (w : World) (base e k : Nat) (hb : base ≤ w.heap.size) : (w.alloc (.cells #[] e)).ownsRow base e k (.slice (some ⟨w.heap.size, 0, none⟩) 0 0) 0 [] := by
  refine ⟨by simp, .inr ⟨w.heap.size, 0, #[], rfl, hb, ?_, Nat.le_refl _, by simp [maxLen], by simp, by simp⟩⟩
  show (w.heap.push _)[w.heap.size]? = _
  simp
/-- The first error stays. -/
def flE (e k : Int) : Int := if e = 0 then k else e
theorem jtruth_any (b : Bool) (w : World) : Calls Try.prog 17 #[.bool b] w fun e w' => e = .returned (.int .i64 (trI b)) ∧ w = w' := by
  cases b
  · go_enter Try.func17, Try.ntmps17
    go_wp2
    go_ret
    exact ⟨rfl, rfl⟩
  · go_enter Try.func17, Try.ntmps17
    go_wp2
    go_ret
    exact ⟨rfl, rfl⟩
set_option maxHeartbeats 1000000 in
theorem jfail_any {w : World} {X : Nat} {lv : Value} {st : List Int} {e : Int} (h : Md w X lv st e) (k : Int) :
    Calls Try.prog 10 #[.pointer (some ⟨X, 0, none⟩), .int .i64 k] w fun x w' => (∃ u, x = .returned u) ∧ Md w' X lv st (flE e k) ∧ Fx X w w' := by
  obtain ⟨c1, f1⟩ := h.b 1 _ rfl
  unfold flE
  by_cases he : e = 0
  · rw [if_pos he]
    have i1 : (e == 0) = true := by simpa using he
    go_enter Try.func10, Try.ntmps10
    go_wp2
    go_end0
    exact ⟨⟨_, rfl⟩, ⟨h.b.set (i := 1) (by simp) _, ownsRow_setCell_below h.s (Nat.lt_succ_self X) _⟩, (Fx.refl X w).setX _⟩
  · rw [if_neg he]
    have i1 : (e == 0) = false := by simpa using he
    go_enter Try.func10, Try.ntmps10
    go_wp2
    go_end0
    exact ⟨⟨_, rfl⟩, h, Fx.refl X w⟩
set_option maxHeartbeats 1000000 in
theorem jpop_nil {w : World} {X : Nat} {lv : Value} {e : Int} (h : Md w X lv [] e) :
    Calls Try.prog 18 #[.pointer (some ⟨X, 0, none⟩)] w fun x w' => x = .returned (.int .i64 0) ∧ Md w' X lv [] (flE e 2) ∧ Fx X w w' := by
  have hf := jfail_any h 2
  obtain ⟨c1, f1⟩ := h.b 0 _ rfl
  obtain ⟨a0, cap0, rfl, hlc, hcm⟩ := orow_form h.s
  clear h
  go_enter Try.func18, Try.ntmps18
  go_wp2_with (first
    | (go_at_call 10; refine hf.mono ?_; rintro x w1 ⟨⟨u, rfl⟩, hm, b1⟩)
    | fail)
  go_ret
  exact ⟨rfl, hm, b1⟩
set_option maxHeartbeats 2000000 in
theorem jpop_cons {w : World} {X : Nat} {lv : Value} {x : Int} {st : List Int} {e : Int} (h : Md w X lv (x :: st) e) (hl : st.length ≤ 4000) :
    Calls Try.prog 18 #[.pointer (some ⟨X, 0, none⟩)] w fun r w' => r = .returned (.int .i64 x) ∧ (∃ lv', Md w' X lv' st e) ∧ Fx X w w' := by
  obtain ⟨c1, f1⟩ := h.b 0 _ rfl
  obtain ⟨g, cap, rfl, h1, h2, h3, h4, c2, ho⟩ := own_top h.s
  have hB := h.b
  unfold maxLen at h2
  obtain ⟨n, hn⟩ : ∃ n, st.length = n := ⟨_, rfl⟩
  rw [hn] at c1 c2 h1 hl ho hB
  have HN := hideI hn
  have j1 : ¬ (n : Int) < 0 := by omega
  have j2 : (0 : Int) ≤ (n : Int) := by omega
  have j3 : (n : Int) < (n : Int) + 1 := by omega
  have j4 : (n : Int) ≤ (cap : Int) := by omega
  have j6 : ¬ (n : Int) + 1 = 0 := by omega
  have j5 : IntKind.i64.wrap ((n : Int) + 1 - 1) = (n : Int) := by rw [IntKind.wrap_i64]; omega
  clear h hn
  go_enter Try.func18, Try.ntmps18
  go_upto_region 4 with fail
  go_quiet (fail)
  have hb1 : Fx X w (w.drewN nq) := (Fx.refl X w).drewN nq
  have c1' : (w.drewN nq).cell? ⟨X, 0, none⟩ = _ := c1
  have f1' : (w.drewN nq).frozen? ⟨X, 0, none⟩ = _ := f1
  have hB' : Bn (w.drewN nq) X _ := hB
  have ho' : (w.drewN nq).ownsRow _ _ _ _ _ _ := ho
  clear c1 f1 c2 hB ho
  generalize w.drewN nq = w1 at *
  go_wp2
  go_region
  all_goals go_wp2
  all_goals go_ret
  refine ⟨rfl, ⟨_, Bn.drew (hB'.set (i := 0) (by simp) _), ?_⟩, (hb1.setX _).drew⟩
  rw [HN.out]
  exact ownsRow_setCell_below ho' (Nat.lt_succ_self X) _
set_option maxHeartbeats 2000000 in
theorem jpush_any {w : World} {X : Nat} {lv : Value} {st : List Int} {e : Int} (h : Md w X lv st e) (n : Int) (hl : st.length ≤ 4000) :
    Calls Try.prog 16 #[.pointer (some ⟨X, 0, none⟩), .int .i64 n] w fun x w' => (∃ u, x = .returned u) ∧ (∃ lv', Md w' X lv' (psh n st).2 (flE e (psh n st).1)) ∧ Fx X w w' := by
  unfold psh
  by_cases hn : n < -1000000000 ∨ 1000000000 < n
  · rw [if_pos hn]
    have hf := jfail_any h 3
    rcases hn with h1 | h1
    · clear h
      go_enter Try.func16, Try.ntmps16
      go_wp2_with (first
        | (go_at_call 10; refine hf.mono ?_; rintro x w1 ⟨⟨u, rfl⟩, hm, b1⟩)
        | fail)
      (try simp only [Exit.inBlock, Exit.then])
      refine bodyPost_ret (results_none rfl _ _ _) rfl ?_
      exact ⟨⟨_, rfl⟩, ⟨_, hm⟩, b1⟩
    · have h2 : ¬ n < -1000000000 := by omega
      have h3 : n > 1000000000 := h1
      clear h
      go_enter Try.func16, Try.ntmps16
      go_wp2_with (first
        | (go_at_call 10; refine hf.mono ?_; rintro x w1 ⟨⟨u, rfl⟩, hm, b1⟩)
        | fail)
      (try simp only [Exit.inBlock, Exit.then])
      refine bodyPost_ret (results_none rfl _ _ _) rfl ?_
      exact ⟨⟨_, rfl⟩, ⟨_, hm⟩, b1⟩
  · rw [if_neg hn]
    have h2 : ¬ n < -1000000000 := by omega
    have h3 : ¬ n > 1000000000 := by omega
    have he : flE e 0 = e := by unfold flE; split <;> simp_all
    simp only
    rw [he]
    obtain ⟨a0, cap0, rfl, hlc, hcm⟩ := orow_form h.s
    obtain ⟨i0, hi, hz0, hz1, hz2⟩ := i64_inf
    have hXl := h.b.lt
    have hal : Below w.heap.size w (w.alloc (.cells #[] 2)) := (Below.refl _ _).alloc (Nat.le_refl _) _
    have hB1 := h.b.on hal
    have hS1 := srcRow (tx := 23) (World.ownsRow.alloc h.s (.cells #[] 2)) Try.underlying23 ints_one
    have hO1 := own_none w w.heap.size 2 1 (Nat.le_refl _)
    obtain ⟨c1, f1⟩ := hB1 0 _ rfl
    have hsz : (w.alloc (.cells #[] 2)).heap.size = w.heap.size + 1 := by simp
    unfold maxLen at hcm
    have tok : True := trivial
    go_enter Try.func16, Try.ntmps16
    go_wp2_with (first
      | (at_builtin; have _t := tok; refine wpList_append_at _ rfl _ _ 23 23 rfl w.heap.size 2 i0 (.int .i64 0) 1 8 Try.underlying23 hi hz0 hz1 hz2 rfl _ 0 _ rfl hO1 _ _ _ rfl hS1 st.length (.inr (by omega)) (Nat.le_refl _) (by unfold maxLen; omega) (by omega) ?_; clear tok; intro vb wb hOb hgb hat; rw [Nat.zero_add, List.nil_append] at hOb; obtain ⟨a2, cap2, rfl, hlc2, hcm2⟩ := orow_form hOb; have hbb : Below w.heap.size w wb := hal.grown hgb (by omega) (fun k hk => (World.ownsRow.lt hO1 k hk).1); have hal2 : Below wb.heap.size wb (wb.alloc (.cells #[.int .i64 n] 2)) := (Below.refl _ _).alloc (Nat.le_refl _) _; have hsrc := src_int wb n _ rfl; have hown := World.ownsRow.alloc hOb (.cells #[.int .i64 n] 2); have hb3 := hbb.trans (hal2.mono hbb.size); have hszb := hbb.size; unfold maxLen at hcm2)
      | (at_builtin; refine wpList_append_at _ rfl _ _ 23 23 rfl w.heap.size 2 i0 (.int .i64 0) 1 8 Try.underlying23 hi hz0 hz1 hz2 rfl _ _ _ rfl hown _ _ _ rfl hsrc 1 (.inr (by omega)) (Nat.le_refl _) (by unfold maxLen; omega) (by simp; omega) ?_; intro vd wd hOd hgd hat2; obtain ⟨a3, cap3, rfl, hlc3, hcm3⟩ := orow_form hOd; have hbd : Below w.heap.size w wd := hb3.grown hgd (by simp; omega) (fun k hk => (World.ownsRow.lt hOb k hk).1); have hB4 := h.b.on hbd; obtain ⟨d1, g1⟩ := hB4 0 _ rfl)
      | fail)
    go_end0
    refine ⟨⟨_, rfl⟩, ⟨_, hB4.set (i := 0) (by simp) _, ?_⟩, (Fx.of hbd (Nat.le_refl _)).setX _⟩
    rw [List.length_cons, List.reverse_cons, List.map_append, List.map_singleton]
    exact ownsRow_setCell_below (orow_low hOd hXl) (Nat.lt_succ_self X) _

def popE (st : List Int) (e : Int) : Int := match st with | [] => flE e 2 | _ :: _ => e
theorem jpop_any {w : World} {X : Nat} {lv : Value} {st : List Int} {e : Int} (h : Md w X lv st e) (hl : st.length ≤ 4000) :
    Calls Try.prog 18 #[.pointer (some ⟨X, 0, none⟩)] w fun r w' => r = .returned (.int .i64 (st.headD 0)) ∧ (∃ lv', Md w' X lv' st.tail (popE st e)) ∧ Fx X w w' := by
  cases st with
  | nil => exact (jpop_nil h).mono (fun e w' ⟨h1, h2, h3⟩ => ⟨h1, ⟨_, h2⟩, h3⟩)
  | cons x r => exact jpop_cons h (show r.length ≤ 4000 by simp at hl; omega)

set_option maxHeartbeats 4000000 in
theorem jtwo_w0 (s : ByteArray) (hw : s.data.toList = [43]) (x y : Int) (hx : -1000000000 ≤ x ∧ x ≤ 1000000000) (hy : -1000000000 ≤ y ∧ y ≤ 1000000000) (w : World) :
    Calls Try.prog 20 #[.string s, .int .i64 x, .int .i64 y] w fun e w' => e = .returned (.tuple #[.int .i64 (wkI [43] x y), .bool true]) ∧ w = w' := by
  obtain ⟨m1, m2⟩ := imul_bd hx hy
  obtain ⟨x1, x2⟩ := hx
  obtain ⟨y1, y2⟩ := hy
  have hS := istr s
  rw [hw] at hS
  have q0 : (s.toList == [43]) = true := (hS _).trans (by decide)
  have e9 : wkI [43] x y = x + y := rfl
  rw [e9]
  clear e9 hS hw
  go_enter Try.func20, Try.ntmps20
  go_wp2
  go_ret2
  exact ⟨by go_num, rfl⟩
set_option maxHeartbeats 4000000 in
theorem jtwo_w1 (s : ByteArray) (hw : s.data.toList = [45]) (x y : Int) (hx : -1000000000 ≤ x ∧ x ≤ 1000000000) (hy : -1000000000 ≤ y ∧ y ≤ 1000000000) (w : World) :
    Calls Try.prog 20 #[.string s, .int .i64 x, .int .i64 y] w fun e w' => e = .returned (.tuple #[.int .i64 (wkI [45] x y), .bool true]) ∧ w = w' := by
  obtain ⟨m1, m2⟩ := imul_bd hx hy
  obtain ⟨x1, x2⟩ := hx
  obtain ⟨y1, y2⟩ := hy
  have hS := istr s
  rw [hw] at hS
  have q0 : (s.toList == [43]) = false := (hS _).trans (by decide)
  have q1 : (s.toList == [45]) = true := (hS _).trans (by decide)
  have e9 : wkI [45] x y = x - y := rfl
  rw [e9]
  clear e9 hS hw
  go_enter Try.func20, Try.ntmps20
  go_wp2
  go_ret2
  exact ⟨by go_num, rfl⟩
set_option maxHeartbeats 4000000 in
theorem jtwo_w2 (s : ByteArray) (hw : s.data.toList = [42]) (x y : Int) (hx : -1000000000 ≤ x ∧ x ≤ 1000000000) (hy : -1000000000 ≤ y ∧ y ≤ 1000000000) (w : World) :
    Calls Try.prog 20 #[.string s, .int .i64 x, .int .i64 y] w fun e w' => e = .returned (.tuple #[.int .i64 (wkI [42] x y), .bool true]) ∧ w = w' := by
  obtain ⟨m1, m2⟩ := imul_bd hx hy
  obtain ⟨x1, x2⟩ := hx
  obtain ⟨y1, y2⟩ := hy
  have hS := istr s
  rw [hw] at hS
  have q0 : (s.toList == [43]) = false := (hS _).trans (by decide)
  have q1 : (s.toList == [45]) = false := (hS _).trans (by decide)
  have q2 : (s.toList == [42]) = true := (hS _).trans (by decide)
  have e9 : wkI [42] x y = x * y := rfl
  rw [e9]
  clear e9 hS hw
  go_enter Try.func20, Try.ntmps20
  go_wp2
  go_ret2
  exact ⟨by go_num, rfl⟩
set_option maxHeartbeats 4000000 in
theorem jtwo_w3 (s : ByteArray) (hw : s.data.toList = [60]) (x y : Int) (hx : -1000000000 ≤ x ∧ x ≤ 1000000000) (hy : -1000000000 ≤ y ∧ y ≤ 1000000000) (w : World) :
    Calls Try.prog 20 #[.string s, .int .i64 x, .int .i64 y] w fun e w' => e = .returned (.tuple #[.int .i64 (wkI [60] x y), .bool true]) ∧ w = w' := by
  obtain ⟨m1, m2⟩ := imul_bd hx hy
  obtain ⟨x1, x2⟩ := hx
  obtain ⟨y1, y2⟩ := hy
  have hS := istr s
  rw [hw] at hS
  have q0 : (s.toList == [43]) = false := (hS _).trans (by decide)
  have q1 : (s.toList == [45]) = false := (hS _).trans (by decide)
  have q2 : (s.toList == [42]) = false := (hS _).trans (by decide)
  have q3 : (s.toList == [60]) = true := (hS _).trans (by decide)
  have e9 : wkI [60] x y = trI (decide (x < y)) := rfl
  rw [e9]
  clear e9 hS hw
  have ht := jtruth_any (decide (x < y))
  clear m1 m2
  go_enter Try.func20, Try.ntmps20
  go_wp2_with (first | (go_at_call 17; refine (ht _).mono ?_; rintro e w1 ⟨rfl, rfl⟩) | fail)
  go_ret2
  exact ⟨rfl, rfl⟩
set_option maxHeartbeats 4000000 in
theorem jtwo_w4 (s : ByteArray) (hw : s.data.toList = [60, 61]) (x y : Int) (hx : -1000000000 ≤ x ∧ x ≤ 1000000000) (hy : -1000000000 ≤ y ∧ y ≤ 1000000000) (w : World) :
    Calls Try.prog 20 #[.string s, .int .i64 x, .int .i64 y] w fun e w' => e = .returned (.tuple #[.int .i64 (wkI [60, 61] x y), .bool true]) ∧ w = w' := by
  obtain ⟨m1, m2⟩ := imul_bd hx hy
  obtain ⟨x1, x2⟩ := hx
  obtain ⟨y1, y2⟩ := hy
  have hS := istr s
  rw [hw] at hS
  have q0 : (s.toList == [43]) = false := (hS _).trans (by decide)
  have q1 : (s.toList == [45]) = false := (hS _).trans (by decide)
  have q2 : (s.toList == [42]) = false := (hS _).trans (by decide)
  have q3 : (s.toList == [60]) = false := (hS _).trans (by decide)
  have q4 : (s.toList == [60, 61]) = true := (hS _).trans (by decide)
  have e9 : wkI [60, 61] x y = trI (decide (x ≤ y)) := rfl
  rw [e9]
  clear e9 hS hw
  have ht := jtruth_any (decide (x ≤ y))
  clear m1 m2
  go_enter Try.func20, Try.ntmps20
  go_wp2_with (first | (go_at_call 17; refine (ht _).mono ?_; rintro e w1 ⟨rfl, rfl⟩) | fail)
  go_ret2
  exact ⟨rfl, rfl⟩
set_option maxHeartbeats 4000000 in
theorem jtwo_w5 (s : ByteArray) (hw : s.data.toList = [61, 61]) (x y : Int) (hx : -1000000000 ≤ x ∧ x ≤ 1000000000) (hy : -1000000000 ≤ y ∧ y ≤ 1000000000) (w : World) :
    Calls Try.prog 20 #[.string s, .int .i64 x, .int .i64 y] w fun e w' => e = .returned (.tuple #[.int .i64 (wkI [61, 61] x y), .bool true]) ∧ w = w' := by
  obtain ⟨m1, m2⟩ := imul_bd hx hy
  obtain ⟨x1, x2⟩ := hx
  obtain ⟨y1, y2⟩ := hy
  have hS := istr s
  rw [hw] at hS
  have q0 : (s.toList == [43]) = false := (hS _).trans (by decide)
  have q1 : (s.toList == [45]) = false := (hS _).trans (by decide)
  have q2 : (s.toList == [42]) = false := (hS _).trans (by decide)
  have q3 : (s.toList == [60]) = false := (hS _).trans (by decide)
  have q4 : (s.toList == [60, 61]) = false := (hS _).trans (by decide)
  have q5 : (s.toList == [61, 61]) = true := (hS _).trans (by decide)
  have e9 : wkI [61, 61] x y = trI (x == y) := rfl
  rw [e9]
  clear e9 hS hw
  have ht := jtruth_any (x == y)
  clear m1 m2
  go_enter Try.func20, Try.ntmps20
  go_wp2_with (first | (go_at_call 17; refine (ht _).mono ?_; rintro e w1 ⟨rfl, rfl⟩) | fail)
  go_ret2
  exact ⟨rfl, rfl⟩
set_option maxHeartbeats 4000000 in
theorem jtwo_w6 (s : ByteArray) (hw : s.data.toList = [33, 61]) (x y : Int) (hx : -1000000000 ≤ x ∧ x ≤ 1000000000) (hy : -1000000000 ≤ y ∧ y ≤ 1000000000) (w : World) :
    Calls Try.prog 20 #[.string s, .int .i64 x, .int .i64 y] w fun e w' => e = .returned (.tuple #[.int .i64 (wkI [33, 61] x y), .bool true]) ∧ w = w' := by
  obtain ⟨m1, m2⟩ := imul_bd hx hy
  obtain ⟨x1, x2⟩ := hx
  obtain ⟨y1, y2⟩ := hy
  have hS := istr s
  rw [hw] at hS
  have q0 : (s.toList == [43]) = false := (hS _).trans (by decide)
  have q1 : (s.toList == [45]) = false := (hS _).trans (by decide)
  have q2 : (s.toList == [42]) = false := (hS _).trans (by decide)
  have q3 : (s.toList == [60]) = false := (hS _).trans (by decide)
  have q4 : (s.toList == [60, 61]) = false := (hS _).trans (by decide)
  have q5 : (s.toList == [61, 61]) = false := (hS _).trans (by decide)
  have q6 : (s.toList == [33, 61]) = true := (hS _).trans (by decide)
  have e9 : wkI [33, 61] x y = trI (x != y) := rfl
  rw [e9]
  clear e9 hS hw
  have ht := jtruth_any (x != y)
  clear m1 m2
  go_enter Try.func20, Try.ntmps20
  go_wp2_with (first | (go_at_call 17; refine (ht _).mono ?_; rintro e w1 ⟨rfl, rfl⟩) | fail)
  go_ret2
  exact ⟨rfl, rfl⟩
set_option maxHeartbeats 4000000 in
theorem jtwo_no (s : ByteArray) (r0 : s.data.toList ≠ [43]) (r1 : s.data.toList ≠ [45]) (r2 : s.data.toList ≠ [42]) (r3 : s.data.toList ≠ [60]) (r4 : s.data.toList ≠ [60, 61]) (r5 : s.data.toList ≠ [61, 61]) (r6 : s.data.toList ≠ [33, 61]) (x y : Int) (w : World) :
    Calls Try.prog 20 #[.string s, .int .i64 x, .int .i64 y] w fun e w' => e = .returned (.tuple #[.int .i64 0, .bool false]) ∧ w = w' := by
  have hS := istr s
  have q0 : (s.toList == [43]) = false := (hS _).trans (beq_eq_false_iff_ne.2 r0)
  have q1 : (s.toList == [45]) = false := (hS _).trans (beq_eq_false_iff_ne.2 r1)
  have q2 : (s.toList == [42]) = false := (hS _).trans (beq_eq_false_iff_ne.2 r2)
  have q3 : (s.toList == [60]) = false := (hS _).trans (beq_eq_false_iff_ne.2 r3)
  have q4 : (s.toList == [60, 61]) = false := (hS _).trans (beq_eq_false_iff_ne.2 r4)
  have q5 : (s.toList == [61, 61]) = false := (hS _).trans (beq_eq_false_iff_ne.2 r5)
  have q6 : (s.toList == [33, 61]) = false := (hS _).trans (beq_eq_false_iff_ne.2 r6)
  clear hS r0 r1 r2 r3 r4 r5 r6
  go_enter Try.func20, Try.ntmps20
  go_wp2
  go_ret2
  exact ⟨rfl, rfl⟩
theorem isTwo_cases (l : List UInt8) : isTwo l = true ↔ l = [43] ∨ l = [45] ∨ l = [42] ∨ l = [60] ∨ l = [60, 61] ∨ l = [61, 61] ∨ l = [33, 61] := by
  unfold isTwo
  simp [or_assoc]
theorem jtwo_any (s : ByteArray) (hi : isTwo s.data.toList = true) (x y : Int) (hx : -1000000000 ≤ x ∧ x ≤ 1000000000) (hy : -1000000000 ≤ y ∧ y ≤ 1000000000) (w : World) :
    Calls Try.prog 20 #[.string s, .int .i64 x, .int .i64 y] w fun e w' => e = .returned (.tuple #[.int .i64 (wkI s.data.toList x y), .bool true]) ∧ w = w' := by
  rcases (isTwo_cases _).1 hi with h | h | h | h | h | h | h
  · have hx := jtwo_w0 s h x y hx hy w
    rw [h]
    exact hx
  · have hx := jtwo_w1 s h x y hx hy w
    rw [h]
    exact hx
  · have hx := jtwo_w2 s h x y hx hy w
    rw [h]
    exact hx
  · have hx := jtwo_w3 s h x y hx hy w
    rw [h]
    exact hx
  · have hx := jtwo_w4 s h x y hx hy w
    rw [h]
    exact hx
  · have hx := jtwo_w5 s h x y hx hy w
    rw [h]
    exact hx
  · have hx := jtwo_w6 s h x y hx hy w
    rw [h]
    exact hx
theorem jtwo_none (s : ByteArray) (hi : isTwo s.data.toList = false) (x y : Int) (w : World) :
    Calls Try.prog 20 #[.string s, .int .i64 x, .int .i64 y] w fun e w' => e = .returned (.tuple #[.int .i64 0, .bool false]) ∧ w = w' := by
  have h := (isTwo_cases s.data.toList).2
  rw [hi] at h
  exact jtwo_no s (fun e => by cases h (.inl e)) (fun e => by cases h (.inr (.inl e))) (fun e => by cases h (.inr (.inr (.inl e)))) (fun e => by cases h (.inr (.inr (.inr (.inl e))))) (fun e => by cases h (.inr (.inr (.inr (.inr (.inl e)))))) (fun e => by cases h (.inr (.inr (.inr (.inr (.inr (.inl e))))))) (fun e => by cases h (.inr (.inr (.inr (.inr (.inr (.inr (e)))))))) x y w
theorem jop_any (s : ByteArray) (w : World) :
    Calls Try.prog 19 #[.string s] w fun e w' => e = .returned (.bool (isTwo s.data.toList)) ∧ w = w' := by
  cases hi : isTwo s.data.toList with
  | true =>
    have ht := jtwo_any s hi 1 1 (by decide) (by decide) w
    go_enter Try.func19, Try.ntmps19
    go_wp2_with (first | (go_at_call 20; refine ht.mono ?_; rintro e w1 ⟨rfl, rfl⟩) | fail)
    go_ret
    exact ⟨rfl, rfl⟩
  | false =>
    have ht := jtwo_none s hi 1 1 w
    go_enter Try.func19, Try.ntmps19
    go_wp2_with (first | (go_at_call 20; refine ht.mono ?_; rintro e w1 ⟨rfl, rfl⟩) | fail)
    go_ret
    exact ⟨rfl, rfl⟩
end Go.Proofs.Ytkahphofmppnkaa
