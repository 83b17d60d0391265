import Derived.Test.YtkahphofmppnkaaXbc04

/- The document's machine: step. Written by mkirk.py. -/
namespace Go.Proofs.Ytkahphofmppnkaa
open Go.RowKit Go.Lib
set_option linter.unusedSimpArgs false
set_option linter.unusedVariables false
attribute [local go_sem ↓] Go.wp_at_zero Go.wp_at_succ

/-- What the document's step leaves: how many are passed over, the stack, the error. -/
def StD (vs : List Int) (s : List UInt8) (n : Int) (beh : Nat) (st : List Int) (p : Nat) (st' : List Int) (e' : Int) : Prop := p ≤ beh ∧ e' = (stpI vs s n beh st).2.1 ∧ (e' = 0 → stpI vs s n beh st = (p, 0, st'))
theorem stD_of {vs : List Int} {s : List UInt8} {n : Int} {beh : Nat} {st : List Int} {r : Int × List Int} (h : stpI vs s n beh st = (0, r)) : StD vs s n beh st 0 r.2 r.1 := by
  obtain ⟨a, b⟩ := r
  refine ⟨Nat.zero_le _, by rw [h], fun e => ?_⟩
  simp only at e
  subst e
  exact h
theorem stD_bad {vs : List Int} {s : List UInt8} {n : Int} {beh p : Nat} {st st' : List Int} {e : Int} (he : e ≠ 0) (hp : p ≤ beh) (h : (stpI vs s n beh st).2.1 = e) : StD vs s n beh st p st' e := ⟨hp, h.symm, fun x => absurd x he⟩
theorem flE_0 (k : Int) : flE 0 k = k := rfl
theorem flE_3 (k : Int) : flE 3 k = 3 := rfl
theorem headR {st : List Int} (h : InR st) : -1000000000 ≤ st.headD 0 ∧ st.headD 0 ≤ 1000000000 := by
  cases st with
  | nil => simp
  | cons x r => exact h x List.mem_cons_self
theorem tailR {st : List Int} (h : InR st) : InR st.tail := by
  cases st with
  | nil => exact h
  | cons x r => exact h.tail
theorem stD_one {vs : List Int} {s : List UInt8} {n : Int} {beh : Nat} {st : List Int} (f : Int → Int) (hf : ∀ x, oneI s x = f x) (h : stpI vs s n beh st = (0, on1 s st)) : StD vs s n beh st 0 (psh (f (st.headD 0)) st.tail).2 (flE (popE st 0) (psh (f (st.headD 0)) st.tail).1) := by
  cases st with
  | nil => exact stD_bad (show (2 : Int) ≠ 0 by decide) (Nat.zero_le _) (by rw [h]; rfl)
  | cons x r =>
    have e : on1 s (x :: r) = psh (f x) r := by rw [← hf]; rfl
    rw [e] at h
    exact stD_of h
theorem stD_two {vs : List Int} {s : List UInt8} {n : Int} {beh : Nat} {st : List Int} (h : stpI vs s n beh st = (0, on2 s st)) :
    StD vs s n beh st 0 (psh (wkI s (st.tail.headD 0) (st.headD 0)) st.tail.tail).2 (flE (popE st.tail (popE st 0)) (psh (wkI s (st.tail.headD 0) (st.headD 0)) st.tail.tail).1) := by
  match st, h with
  | [], h => exact stD_bad (show (2 : Int) ≠ 0 by decide) (Nat.zero_le _) (by rw [h]; rfl)
  | [x], h => exact stD_bad (show (2 : Int) ≠ 0 by decide) (Nat.zero_le _) (by rw [h]; rfl)
  | y :: x :: r, h => exact stD_of h
theorem stD_jump {vs : List Int} {s : List UInt8} {n : Int} {beh : Nat} {st : List Int} {o : Bool} (h : stpI vs s n beh st = jmpS o n beh st) (h1 : 0 ≤ n) (h2 : n ≤ (beh : Int)) (hx : (st.headD 0 != 0) = o) : StD vs s n beh st n.toNat (trI o :: st.tail) (popE st 0) := by
  have hb : ¬ (n < 0 ∨ n > (beh : Int)) := by omega
  cases st with
  | nil => exact stD_bad (by decide) (by omega) (by rw [h, jmp_nil o n beh hb]; rfl)
  | cons x r =>
    have e := jmp_cons o n beh x r hb
    rw [if_pos (show (x != 0) = o from hx)] at e
    exact ⟨by omega, by rw [h, e]; rfl, fun _ => h.trans e⟩
theorem stD_stay {vs : List Int} {s : List UInt8} {n : Int} {beh : Nat} {st : List Int} {o : Bool} (h : stpI vs s n beh st = jmpS o n beh st) (h1 : 0 ≤ n) (h2 : n ≤ (beh : Int)) (hx : ¬ (st.headD 0 != 0) = o) : StD vs s n beh st 0 st.tail (popE st 0) := by
  have hb : ¬ (n < 0 ∨ n > (beh : Int)) := by omega
  cases st with
  | nil => exact stD_bad (by decide) (Nat.zero_le _) (by rw [h, jmp_nil o n beh hb]; rfl)
  | cons x r =>
    have e := jmp_cons o n beh x r hb
    rw [if_neg (show ¬ (x != 0) = o from hx)] at e
    exact ⟨Nat.zero_le _, by rw [h, e]; rfl, fun _ => h.trans e⟩
theorem Md.on {w w' : World} {X : Nat} {lv : Value} {st : List Int} {e : Int} (h : Md w X lv st e) (hb : Below w.heap.size w w') : Md w' X lv st e :=
  ⟨h.b.on hb, ownsRow_keep h.s (fun g hg => hb.block g (World.ownsRow.lt h.s g hg).2)⟩

set_option maxRecDepth 100000 in
set_option maxHeartbeats 8000000 in
theorem jstep_w0a {w : World} {X : Nat} {lv : Value} {st vs : List Int} {va : Option Addr} {vn vc : Nat} {ok : Nat → Prop} (h : Md w X lv st 0) (hv : RdK ok w 1 rI64 vs (.slice va vn vc)) (s : ByteArray) (n : Int) (beh : Nat) (hb : beh ≤ 4000) (hl : st.length ≤ 4000) (hr : InR st) (hw : s.data.toList = [112, 117, 115, 104]) (hn : n < 0) :
    Calls Try.prog 9 #[.pointer (some ⟨X, 0, none⟩), .agg #[.string s, .int .i64 n], .slice va vn vc, .int .i64 (beh : Int)] w fun x w' => ∃ (p : Nat) (st' : List Int) (e' : Int), x = .returned (.int .i64 (p : Int)) ∧ (∃ lv', Md w' X lv' st' e') ∧ Fx X w w' ∧ StD vs [112, 117, 115, 104] n beh st p st' e' := by
  have hal : Below w.heap.size w (w.alloc (.cells #[.string s, .int .i64 n] 26)) := (Below.refl _ _).alloc (Nat.le_refl _) _
  have hXl := h.b.lt
  have hB := Bn.new w [.string s, .int .i64 n] 26 _ rfl
  replace h := h.on hal
  replace hv : RdK (fun _ => True) _ 1 rI64 vs (.slice va vn vc) := hv.keep (fun x _ u hu => hu) (fun b _ hlt => ⟨trivial, hal.block b hlt⟩)
  have hal0 : Below X w (w.alloc (.cells #[.string s, .int .i64 n] 26)) := hal.mono (Nat.le_of_lt hXl)
  have hS := istr s
  have hf := jfail_any h 3
  have hBz : ∀ w1, Fx X (w.alloc (.cells #[.string s, .int .i64 n] 26)) w1 → Bn w1 w.heap.size [.string s, .int .i64 n] := fun w1 b => hB.fx b (Nat.ne_of_gt hXl)
  have HB := hideI hBz
  rw [hw] at hS
  have q0 : (s.toList == [112, 117, 115, 104]) = true := (hS _).trans (by decide)
  have q1 : (s.toList == [108, 111, 97, 100]) = false := (hS _).trans (by decide)
  have q2 : (s.toList == [110, 111, 116]) = false := (hS _).trans (by decide)
  have q3 : (s.toList == [110, 101, 103]) = false := (hS _).trans (by decide)
  have q4 : (s.toList == [98, 111, 111, 108]) = false := (hS _).trans (by decide)
  have q5 : (s.toList == [97, 110, 100]) = false := (hS _).trans (by decide)
  have q6 : (s.toList == [111, 114]) = false := (hS _).trans (by decide)
  obtain ⟨p0, _⟩ := hB 0 _ rfl
  obtain ⟨p1, _⟩ := hB 1 _ rfl
  have e9 : stpI vs [112, 117, 115, 104] n beh st = (0, 3, st) := by show (0, litI n st) = _; unfold litI; rw [if_pos hn]
  clear hS hw hv hr h hB hBz
  go_enter Try.func9, Try.ntmps9
  go_wp2_with (first
    | (go_at_call 10; refine hf.mono ?_; rintro x w1 ⟨⟨u, rfl⟩, hm1, b1⟩; obtain ⟨z1, _⟩ := HB.out _ b1 1 _ rfl; have hu := jpush_any hm1 n hl; rw [flE_0, flE_3] at hu; clear hf)
    | (go_at_call 16; refine hu.mono ?_; rintro x w2 ⟨⟨u, rfl⟩, hm2, b2⟩)
    | fail)
  go_ret
  obtain ⟨lv2, hm2⟩ := hm2
  exact ⟨0, _, 3, rfl, ⟨lv2, hm2⟩, (Fx.of hal (Nat.le_refl _)).trans (b1.trans b2), stD_bad (by decide) (Nat.zero_le _) (by rw [e9])⟩
set_option maxRecDepth 100000 in
set_option maxHeartbeats 8000000 in
theorem jstep_w0b {w : World} {X : Nat} {lv : Value} {st vs : List Int} {va : Option Addr} {vn vc : Nat} {ok : Nat → Prop} (h : Md w X lv st 0) (hv : RdK ok w 1 rI64 vs (.slice va vn vc)) (s : ByteArray) (n : Int) (beh : Nat) (hb : beh ≤ 4000) (hl : st.length ≤ 4000) (hr : InR st) (hw : s.data.toList = [112, 117, 115, 104]) (hn : ¬ n < 0) :
    Calls Try.prog 9 #[.pointer (some ⟨X, 0, none⟩), .agg #[.string s, .int .i64 n], .slice va vn vc, .int .i64 (beh : Int)] w fun x w' => ∃ (p : Nat) (st' : List Int) (e' : Int), x = .returned (.int .i64 (p : Int)) ∧ (∃ lv', Md w' X lv' st' e') ∧ Fx X w w' ∧ StD vs [112, 117, 115, 104] n beh st p st' e' := by
  have hal : Below w.heap.size w (w.alloc (.cells #[.string s, .int .i64 n] 26)) := (Below.refl _ _).alloc (Nat.le_refl _) _
  have hXl := h.b.lt
  have hB := Bn.new w [.string s, .int .i64 n] 26 _ rfl
  replace h := h.on hal
  replace hv : RdK (fun _ => True) _ 1 rI64 vs (.slice va vn vc) := hv.keep (fun x _ u hu => hu) (fun b _ hlt => ⟨trivial, hal.block b hlt⟩)
  have hal0 : Below X w (w.alloc (.cells #[.string s, .int .i64 n] 26)) := hal.mono (Nat.le_of_lt hXl)
  have hS := istr s
  have hu := jpush_any h n hl
  rw [hw] at hS
  have q0 : (s.toList == [112, 117, 115, 104]) = true := (hS _).trans (by decide)
  have q1 : (s.toList == [108, 111, 97, 100]) = false := (hS _).trans (by decide)
  have q2 : (s.toList == [110, 111, 116]) = false := (hS _).trans (by decide)
  have q3 : (s.toList == [110, 101, 103]) = false := (hS _).trans (by decide)
  have q4 : (s.toList == [98, 111, 111, 108]) = false := (hS _).trans (by decide)
  have q5 : (s.toList == [97, 110, 100]) = false := (hS _).trans (by decide)
  have q6 : (s.toList == [111, 114]) = false := (hS _).trans (by decide)
  obtain ⟨p0, _⟩ := hB 0 _ rfl
  obtain ⟨p1, _⟩ := hB 1 _ rfl
  rw [flE_0] at hu
  have e9 : stpI vs [112, 117, 115, 104] n beh st = (0, psh n st) := by show (0, litI n st) = _; unfold litI; rw [if_neg hn]
  clear hS hw hv hr h hB
  go_enter Try.func9, Try.ntmps9
  go_wp2_with (first
    | (go_at_call 16; refine hu.mono ?_; rintro x w2 ⟨⟨u, rfl⟩, hm2, b2⟩)
    | fail)
  go_ret
  exact ⟨0, _, _, rfl, hm2, (Fx.of hal (Nat.le_refl _)).trans b2, stD_of e9⟩
set_option maxRecDepth 100000 in
set_option maxHeartbeats 8000000 in
theorem jstep_w1a {w : World} {X : Nat} {lv : Value} {st vs : List Int} {va : Option Addr} {vn vc : Nat} {ok : Nat → Prop} (h : Md w X lv st 0) (hv : RdK ok w 1 rI64 vs (.slice va vn vc)) (s : ByteArray) (n : Int) (beh : Nat) (hb : beh ≤ 4000) (hl : st.length ≤ 4000) (hr : InR st) (hw : s.data.toList = [108, 111, 97, 100]) (hn : n < 0 ∨ n ≥ (vs.length : Int)) :
    Calls Try.prog 9 #[.pointer (some ⟨X, 0, none⟩), .agg #[.string s, .int .i64 n], .slice va vn vc, .int .i64 (beh : Int)] w fun x w' => ∃ (p : Nat) (st' : List Int) (e' : Int), x = .returned (.int .i64 (p : Int)) ∧ (∃ lv', Md w' X lv' st' e') ∧ Fx X w w' ∧ StD vs [108, 111, 97, 100] n beh st p st' e' := by
  have hal : Below w.heap.size w (w.alloc (.cells #[.string s, .int .i64 n] 26)) := (Below.refl _ _).alloc (Nat.le_refl _) _
  have hXl := h.b.lt
  have hB := Bn.new w [.string s, .int .i64 n] 26 _ rfl
  replace h := h.on hal
  replace hv : RdK (fun _ => True) _ 1 rI64 vs (.slice va vn vc) := hv.keep (fun x _ u hu => hu) (fun b _ hlt => ⟨trivial, hal.block b hlt⟩)
  have hal0 : Below X w (w.alloc (.cells #[.string s, .int .i64 n] 26)) := hal.mono (Nat.le_of_lt hXl)
  have hS := istr s
  have hf := jfail_any h 2
  obtain ⟨a1, cap1, he, h1, h2, h3⟩ := hv
  simp only [Value.slice.injEq] at he
  obtain ⟨rfl, rfl, rfl⟩ := he
  unfold maxLen at h2
  have hw1 : IntKind.i64.wrap (vs.length : Int) = (vs.length : Int) := by rw [IntKind.wrap_i64]; omega
  rw [hw] at hS
  have q0 : (s.toList == [112, 117, 115, 104]) = false := (hS _).trans (by decide)
  have q1 : (s.toList == [108, 111, 97, 100]) = true := (hS _).trans (by decide)
  have q2 : (s.toList == [110, 111, 116]) = false := (hS _).trans (by decide)
  have q3 : (s.toList == [110, 101, 103]) = false := (hS _).trans (by decide)
  have q4 : (s.toList == [98, 111, 111, 108]) = false := (hS _).trans (by decide)
  have q5 : (s.toList == [97, 110, 100]) = false := (hS _).trans (by decide)
  have q6 : (s.toList == [111, 114]) = false := (hS _).trans (by decide)
  obtain ⟨p0, _⟩ := hB 0 _ rfl
  obtain ⟨p1, _⟩ := hB 1 _ rfl
  have e9 : stpI vs [108, 111, 97, 100] n beh st = (0, 2, st) := by show (0, lodI vs n st) = _; unfold lodI; rw [if_pos hn]
  clear hS hw h3 hr h hB
  rw [flE_0] at hf
  by_cases hn1 : n < 0
  · clear hn
    go_enter Try.func9, Try.ntmps9
    go_wp2_with (first
      | (go_at_call 10; refine hf.mono ?_; rintro x w1 ⟨⟨u, rfl⟩, hm1, b1⟩)
      | fail)
    go_ret
    exact ⟨0, _, 2, rfl, ⟨_, hm1⟩, (Fx.of hal (Nat.le_refl _)).trans b1, stD_bad (by decide) (Nat.zero_le _) (by rw [e9])⟩
  · have hn2 : n ≥ (vs.length : Int) := by omega
    clear hn
    go_enter Try.func9, Try.ntmps9
    go_wp2_with (first
      | (go_at_call 10; refine hf.mono ?_; rintro x w1 ⟨⟨u, rfl⟩, hm1, b1⟩)
      | fail)
    go_ret
    exact ⟨0, _, 2, rfl, ⟨_, hm1⟩, (Fx.of hal (Nat.le_refl _)).trans b1, stD_bad (by decide) (Nat.zero_le _) (by rw [e9])⟩
set_option maxRecDepth 100000 in
set_option maxHeartbeats 8000000 in
theorem jstep_w1b {w : World} {X : Nat} {lv : Value} {st vs : List Int} {va : Option Addr} {vn vc : Nat} {ok : Nat → Prop} (h : Md w X lv st 0) (hv : RdK ok w 1 rI64 vs (.slice va vn vc)) (s : ByteArray) (n : Int) (beh : Nat) (hb : beh ≤ 4000) (hl : st.length ≤ 4000) (hr : InR st) (hw : s.data.toList = [108, 111, 97, 100]) (hn : ¬ n < 0) (hm : ¬ n ≥ (vs.length : Int)) :
    Calls Try.prog 9 #[.pointer (some ⟨X, 0, none⟩), .agg #[.string s, .int .i64 n], .slice va vn vc, .int .i64 (beh : Int)] w fun x w' => ∃ (p : Nat) (st' : List Int) (e' : Int), x = .returned (.int .i64 (p : Int)) ∧ (∃ lv', Md w' X lv' st' e') ∧ Fx X w w' ∧ StD vs [108, 111, 97, 100] n beh st p st' e' := by
  have hal : Below w.heap.size w (w.alloc (.cells #[.string s, .int .i64 n] 26)) := (Below.refl _ _).alloc (Nat.le_refl _) _
  have hXl := h.b.lt
  have hB := Bn.new w [.string s, .int .i64 n] 26 _ rfl
  replace h := h.on hal
  replace hv : RdK (fun _ => True) _ 1 rI64 vs (.slice va vn vc) := hv.keep (fun x _ u hu => hu) (fun b _ hlt => ⟨trivial, hal.block b hlt⟩)
  have hal0 : Below X w (w.alloc (.cells #[.string s, .int .i64 n] 26)) := hal.mono (Nat.le_of_lt hXl)
  have hS := istr s
  obtain ⟨a1, cap1, he, h1, h2, h3⟩ := hv
  simp only [Value.slice.injEq] at he
  obtain ⟨rfl, rfl, rfl⟩ := he
  unfold maxLen at h2
  have hw1 : IntKind.i64.wrap (vs.length : Int) = (vs.length : Int) := by rw [IntKind.wrap_i64]; omega
  rw [hw] at hS
  have q0 : (s.toList == [112, 117, 115, 104]) = false := (hS _).trans (by decide)
  have q1 : (s.toList == [108, 111, 97, 100]) = true := (hS _).trans (by decide)
  have q2 : (s.toList == [110, 111, 116]) = false := (hS _).trans (by decide)
  have q3 : (s.toList == [110, 101, 103]) = false := (hS _).trans (by decide)
  have q4 : (s.toList == [98, 111, 111, 108]) = false := (hS _).trans (by decide)
  have q5 : (s.toList == [97, 110, 100]) = false := (hS _).trans (by decide)
  have q6 : (s.toList == [111, 114]) = false := (hS _).trans (by decide)
  obtain ⟨p0, _⟩ := hB 0 _ rfl
  obtain ⟨p1, _⟩ := hB 1 _ rfl
  have e9 : stpI vs [108, 111, 97, 100] n beh st = (0, psh (vs.getD n.toNat 0) st) := by show (0, lodI vs n st) = _; unfold lodI; rw [if_neg (by omega)]
  obtain ⟨hlt, hg⟩ := getD_at hn hm
  rw [hg] at e9
  obtain ⟨b, off, cs, rfl, _, hbl, _, hcs, hc⟩ := h3 n.toNat hlt
  have hcs' : cs = [Value.int .i64 vs[n.toNat]] := hcs
  subst hcs'
  obtain ⟨k, hk⟩ : ∃ k : Nat, n.toNat = k := ⟨_, rfl⟩
  have hnk : n = (k : Int) := by omega
  have hu := jpush_any h (vs[n.toNat]) hl
  rw [flE_0] at hu
  have C0 := hc 0 _ rfl
  have E9 := hideI e9
  clear e9 hcs hg hc
  generalize vs[n.toNat] = x at *
  rw [hk, Nat.mul_one, Nat.add_zero] at C0
  subst hnk
  have j1 : (0 : Int) ≤ (k : Int) := by omega
  have j2 : (k : Int) < (vs.length : Int) := by omega
  clear hk h3 hS hw hr h hB
  go_enter Try.func9, Try.ntmps9
  go_wp2_with (first
    | (go_at_call 16; refine hu.mono ?_; rintro x w2 ⟨⟨u, rfl⟩, hm2, b2⟩)
    | fail)
  go_ret
  exact ⟨0, _, _, rfl, hm2, (Fx.of hal (Nat.le_refl _)).trans b2, stD_of E9.out⟩
set_option maxRecDepth 100000 in
set_option maxHeartbeats 8000000 in
theorem jstep_w2 {w : World} {X : Nat} {lv : Value} {st vs : List Int} {va : Option Addr} {vn vc : Nat} {ok : Nat → Prop} (h : Md w X lv st 0) (hv : RdK ok w 1 rI64 vs (.slice va vn vc)) (s : ByteArray) (n : Int) (beh : Nat) (hb : beh ≤ 4000) (hl : st.length ≤ 4000) (hr : InR st) (hw : s.data.toList = [110, 111, 116]) :
    Calls Try.prog 9 #[.pointer (some ⟨X, 0, none⟩), .agg #[.string s, .int .i64 n], .slice va vn vc, .int .i64 (beh : Int)] w fun x w' => ∃ (p : Nat) (st' : List Int) (e' : Int), x = .returned (.int .i64 (p : Int)) ∧ (∃ lv', Md w' X lv' st' e') ∧ Fx X w w' ∧ StD vs [110, 111, 116] n beh st p st' e' := by
  have hal : Below w.heap.size w (w.alloc (.cells #[.string s, .int .i64 n] 26)) := (Below.refl _ _).alloc (Nat.le_refl _) _
  have hXl := h.b.lt
  have hB := Bn.new w [.string s, .int .i64 n] 26 _ rfl
  replace h := h.on hal
  replace hv : RdK (fun _ => True) _ 1 rI64 vs (.slice va vn vc) := hv.keep (fun x _ u hu => hu) (fun b _ hlt => ⟨trivial, hal.block b hlt⟩)
  have hal0 : Below X w (w.alloc (.cells #[.string s, .int .i64 n] 26)) := hal.mono (Nat.le_of_lt hXl)
  have hS := istr s
  have hp := jpop_any h hl
  obtain ⟨x1, x2⟩ := headR hr
  rw [hw] at hS
  have q0 : (s.toList == [112, 117, 115, 104]) = false := (hS _).trans (by decide)
  have q1 : (s.toList == [108, 111, 97, 100]) = false := (hS _).trans (by decide)
  have q2 : (s.toList == [110, 111, 116]) = true := (hS _).trans (by decide)
  have q3 : (s.toList == [110, 101, 103]) = false := (hS _).trans (by decide)
  have q4 : (s.toList == [98, 111, 111, 108]) = false := (hS _).trans (by decide)
  have q5 : (s.toList == [97, 110, 100]) = false := (hS _).trans (by decide)
  have q6 : (s.toList == [111, 114]) = false := (hS _).trans (by decide)
  obtain ⟨p0, _⟩ := hB 0 _ rfl
  obtain ⟨p1, _⟩ := hB 1 _ rfl
  have HD := hideI (stD_one (vs := vs) (s := [110, 111, 116]) (n := n) (beh := beh) (st := st) (fun x => trI (x == 0)) (fun _ => rfl) rfl)
  have hlr : st.tail.length ≤ 4000 := by rw [List.length_tail]; omega
  clear hS hw hv hr h hB
  generalize st.headD 0 = x at *
  generalize popE st 0 = e1 at *
  generalize st.tail = r at *
  have ht := fun w1 => jtruth_any (x == 0) w1
  go_enter Try.func9, Try.ntmps9
  go_wp2_with (first
    | (go_at_call 18; refine hp.mono ?_; rintro y w1 ⟨rfl, ⟨lv1, hm1⟩, b1⟩; have hu := jpush_any hm1 (trI (x == 0)) hlr; clear hp)
    | (go_at_call 17; refine (ht _).mono ?_; rintro e w3 ⟨rfl, rfl⟩)
    | (go_at_call 16; refine hu.mono ?_; rintro x w2 ⟨⟨u, rfl⟩, hm2, b2⟩)
    | fail)
  go_ret
  exact ⟨0, _, _, rfl, hm2, (Fx.of hal (Nat.le_refl _)).trans (b1.trans b2), HD.out⟩
set_option maxRecDepth 100000 in
set_option maxHeartbeats 8000000 in
theorem jstep_w3 {w : World} {X : Nat} {lv : Value} {st vs : List Int} {va : Option Addr} {vn vc : Nat} {ok : Nat → Prop} (h : Md w X lv st 0) (hv : RdK ok w 1 rI64 vs (.slice va vn vc)) (s : ByteArray) (n : Int) (beh : Nat) (hb : beh ≤ 4000) (hl : st.length ≤ 4000) (hr : InR st) (hw : s.data.toList = [110, 101, 103]) :
    Calls Try.prog 9 #[.pointer (some ⟨X, 0, none⟩), .agg #[.string s, .int .i64 n], .slice va vn vc, .int .i64 (beh : Int)] w fun x w' => ∃ (p : Nat) (st' : List Int) (e' : Int), x = .returned (.int .i64 (p : Int)) ∧ (∃ lv', Md w' X lv' st' e') ∧ Fx X w w' ∧ StD vs [110, 101, 103] n beh st p st' e' := by
  have hal : Below w.heap.size w (w.alloc (.cells #[.string s, .int .i64 n] 26)) := (Below.refl _ _).alloc (Nat.le_refl _) _
  have hXl := h.b.lt
  have hB := Bn.new w [.string s, .int .i64 n] 26 _ rfl
  replace h := h.on hal
  replace hv : RdK (fun _ => True) _ 1 rI64 vs (.slice va vn vc) := hv.keep (fun x _ u hu => hu) (fun b _ hlt => ⟨trivial, hal.block b hlt⟩)
  have hal0 : Below X w (w.alloc (.cells #[.string s, .int .i64 n] 26)) := hal.mono (Nat.le_of_lt hXl)
  have hS := istr s
  have hp := jpop_any h hl
  obtain ⟨x1, x2⟩ := headR hr
  rw [hw] at hS
  have q0 : (s.toList == [112, 117, 115, 104]) = false := (hS _).trans (by decide)
  have q1 : (s.toList == [108, 111, 97, 100]) = false := (hS _).trans (by decide)
  have q2 : (s.toList == [110, 111, 116]) = false := (hS _).trans (by decide)
  have q3 : (s.toList == [110, 101, 103]) = true := (hS _).trans (by decide)
  have q4 : (s.toList == [98, 111, 111, 108]) = false := (hS _).trans (by decide)
  have q5 : (s.toList == [97, 110, 100]) = false := (hS _).trans (by decide)
  have q6 : (s.toList == [111, 114]) = false := (hS _).trans (by decide)
  obtain ⟨p0, _⟩ := hB 0 _ rfl
  obtain ⟨p1, _⟩ := hB 1 _ rfl
  have HD := hideI (stD_one (vs := vs) (s := [110, 101, 103]) (n := n) (beh := beh) (st := st) (fun x => -x) (fun _ => rfl) rfl)
  have hlr : st.tail.length ≤ 4000 := by rw [List.length_tail]; omega
  clear hS hw hv hr h hB
  generalize st.headD 0 = x at *
  generalize popE st 0 = e1 at *
  generalize st.tail = r at *
  go_enter Try.func9, Try.ntmps9
  go_wp2_with (first
    | (go_at_call 18; refine hp.mono ?_; rintro y w1 ⟨rfl, ⟨lv1, hm1⟩, b1⟩; have hu := jpush_any hm1 ((-x)) hlr; clear hp)
    | (go_at_call 16; refine hu.mono ?_; rintro x w2 ⟨⟨u, rfl⟩, hm2, b2⟩)
    | fail)
  go_ret
  exact ⟨0, _, _, rfl, hm2, (Fx.of hal (Nat.le_refl _)).trans (b1.trans b2), HD.out⟩
set_option maxRecDepth 100000 in
set_option maxHeartbeats 8000000 in
theorem jstep_w4 {w : World} {X : Nat} {lv : Value} {st vs : List Int} {va : Option Addr} {vn vc : Nat} {ok : Nat → Prop} (h : Md w X lv st 0) (hv : RdK ok w 1 rI64 vs (.slice va vn vc)) (s : ByteArray) (n : Int) (beh : Nat) (hb : beh ≤ 4000) (hl : st.length ≤ 4000) (hr : InR st) (hw : s.data.toList = [98, 111, 111, 108]) :
    Calls Try.prog 9 #[.pointer (some ⟨X, 0, none⟩), .agg #[.string s, .int .i64 n], .slice va vn vc, .int .i64 (beh : Int)] w fun x w' => ∃ (p : Nat) (st' : List Int) (e' : Int), x = .returned (.int .i64 (p : Int)) ∧ (∃ lv', Md w' X lv' st' e') ∧ Fx X w w' ∧ StD vs [98, 111, 111, 108] n beh st p st' e' := by
  have hal : Below w.heap.size w (w.alloc (.cells #[.string s, .int .i64 n] 26)) := (Below.refl _ _).alloc (Nat.le_refl _) _
  have hXl := h.b.lt
  have hB := Bn.new w [.string s, .int .i64 n] 26 _ rfl
  replace h := h.on hal
  replace hv : RdK (fun _ => True) _ 1 rI64 vs (.slice va vn vc) := hv.keep (fun x _ u hu => hu) (fun b _ hlt => ⟨trivial, hal.block b hlt⟩)
  have hal0 : Below X w (w.alloc (.cells #[.string s, .int .i64 n] 26)) := hal.mono (Nat.le_of_lt hXl)
  have hS := istr s
  have hp := jpop_any h hl
  obtain ⟨x1, x2⟩ := headR hr
  rw [hw] at hS
  have q0 : (s.toList == [112, 117, 115, 104]) = false := (hS _).trans (by decide)
  have q1 : (s.toList == [108, 111, 97, 100]) = false := (hS _).trans (by decide)
  have q2 : (s.toList == [110, 111, 116]) = false := (hS _).trans (by decide)
  have q3 : (s.toList == [110, 101, 103]) = false := (hS _).trans (by decide)
  have q4 : (s.toList == [98, 111, 111, 108]) = true := (hS _).trans (by decide)
  have q5 : (s.toList == [97, 110, 100]) = false := (hS _).trans (by decide)
  have q6 : (s.toList == [111, 114]) = false := (hS _).trans (by decide)
  obtain ⟨p0, _⟩ := hB 0 _ rfl
  obtain ⟨p1, _⟩ := hB 1 _ rfl
  have HD := hideI (stD_one (vs := vs) (s := [98, 111, 111, 108]) (n := n) (beh := beh) (st := st) (fun x => trI (x != 0)) (fun _ => rfl) rfl)
  have hlr : st.tail.length ≤ 4000 := by rw [List.length_tail]; omega
  clear hS hw hv hr h hB
  generalize st.headD 0 = x at *
  generalize popE st 0 = e1 at *
  generalize st.tail = r at *
  have ht := fun w1 => jtruth_any (x != 0) w1
  go_enter Try.func9, Try.ntmps9
  go_wp2_with (first
    | (go_at_call 18; refine hp.mono ?_; rintro y w1 ⟨rfl, ⟨lv1, hm1⟩, b1⟩; have hu := jpush_any hm1 (trI (x != 0)) hlr; clear hp)
    | (go_at_call 17; refine (ht _).mono ?_; rintro e w3 ⟨rfl, rfl⟩)
    | (go_at_call 16; refine hu.mono ?_; rintro x w2 ⟨⟨u, rfl⟩, hm2, b2⟩)
    | fail)
  go_ret
  exact ⟨0, _, _, rfl, hm2, (Fx.of hal (Nat.le_refl _)).trans (b1.trans b2), HD.out⟩
set_option maxRecDepth 100000 in
set_option maxHeartbeats 8000000 in
theorem jstep_w5a {w : World} {X : Nat} {lv : Value} {st vs : List Int} {va : Option Addr} {vn vc : Nat} {ok : Nat → Prop} (h : Md w X lv st 0) (hv : RdK ok w 1 rI64 vs (.slice va vn vc)) (s : ByteArray) (n : Int) (beh : Nat) (hb : beh ≤ 4000) (hl : st.length ≤ 4000) (hr : InR st) (hw : s.data.toList = [97, 110, 100]) (hn : n < 0 ∨ n > (beh : Int)) :
    Calls Try.prog 9 #[.pointer (some ⟨X, 0, none⟩), .agg #[.string s, .int .i64 n], .slice va vn vc, .int .i64 (beh : Int)] w fun x w' => ∃ (p : Nat) (st' : List Int) (e' : Int), x = .returned (.int .i64 (p : Int)) ∧ (∃ lv', Md w' X lv' st' e') ∧ Fx X w w' ∧ StD vs [97, 110, 100] n beh st p st' e' := by
  have hal : Below w.heap.size w (w.alloc (.cells #[.string s, .int .i64 n] 26)) := (Below.refl _ _).alloc (Nat.le_refl _) _
  have hXl := h.b.lt
  have hB := Bn.new w [.string s, .int .i64 n] 26 _ rfl
  replace h := h.on hal
  replace hv : RdK (fun _ => True) _ 1 rI64 vs (.slice va vn vc) := hv.keep (fun x _ u hu => hu) (fun b _ hlt => ⟨trivial, hal.block b hlt⟩)
  have hal0 : Below X w (w.alloc (.cells #[.string s, .int .i64 n] 26)) := hal.mono (Nat.le_of_lt hXl)
  have hS := istr s
  have hf := jfail_any h 2
  rw [hw] at hS
  have q0 : (s.toList == [112, 117, 115, 104]) = false := (hS _).trans (by decide)
  have q1 : (s.toList == [108, 111, 97, 100]) = false := (hS _).trans (by decide)
  have q2 : (s.toList == [110, 111, 116]) = false := (hS _).trans (by decide)
  have q3 : (s.toList == [110, 101, 103]) = false := (hS _).trans (by decide)
  have q4 : (s.toList == [98, 111, 111, 108]) = false := (hS _).trans (by decide)
  have q5 : (s.toList == [97, 110, 100]) = true := (hS _).trans (by decide)
  have q6 : (s.toList == [111, 114]) = false := (hS _).trans (by decide)
  obtain ⟨p0, _⟩ := hB 0 _ rfl
  obtain ⟨p1, _⟩ := hB 1 _ rfl
  have e9 : stpI vs [97, 110, 100] n beh st = (0, 2, st) := jmp_bad false n beh st hn
  clear hS hw hv hr h hB
  rw [flE_0] at hf
  by_cases hn1 : n < 0
  · clear hn
    go_enter Try.func9, Try.ntmps9
    go_wp2_with (first
      | (go_at_call 10; refine hf.mono ?_; rintro x w1 ⟨⟨u, rfl⟩, hm1, b1⟩)
      | fail)
    go_ret
    exact ⟨0, _, 2, rfl, ⟨_, hm1⟩, (Fx.of hal (Nat.le_refl _)).trans b1, stD_bad (by decide) (Nat.zero_le _) (by rw [e9])⟩
  · have hn2 : n > (beh : Int) := by omega
    clear hn
    go_enter Try.func9, Try.ntmps9
    go_wp2_with (first
      | (go_at_call 10; refine hf.mono ?_; rintro x w1 ⟨⟨u, rfl⟩, hm1, b1⟩)
      | fail)
    go_ret
    exact ⟨0, _, 2, rfl, ⟨_, hm1⟩, (Fx.of hal (Nat.le_refl _)).trans b1, stD_bad (by decide) (Nat.zero_le _) (by rw [e9])⟩
set_option maxRecDepth 100000 in
set_option maxHeartbeats 8000000 in
theorem jstep_w5b {w : World} {X : Nat} {lv : Value} {st vs : List Int} {va : Option Addr} {vn vc : Nat} {ok : Nat → Prop} (h : Md w X lv st 0) (hv : RdK ok w 1 rI64 vs (.slice va vn vc)) (s : ByteArray) (n : Int) (beh : Nat) (hb : beh ≤ 4000) (hl : st.length ≤ 4000) (hr : InR st) (hw : s.data.toList = [97, 110, 100]) (hn1 : ¬ n < 0) (hn2 : ¬ n > (beh : Int)) (hx : (st.headD 0 != 0) = false) :
    Calls Try.prog 9 #[.pointer (some ⟨X, 0, none⟩), .agg #[.string s, .int .i64 n], .slice va vn vc, .int .i64 (beh : Int)] w fun x w' => ∃ (p : Nat) (st' : List Int) (e' : Int), x = .returned (.int .i64 (p : Int)) ∧ (∃ lv', Md w' X lv' st' e') ∧ Fx X w w' ∧ StD vs [97, 110, 100] n beh st p st' e' := by
  have hal : Below w.heap.size w (w.alloc (.cells #[.string s, .int .i64 n] 26)) := (Below.refl _ _).alloc (Nat.le_refl _) _
  have hXl := h.b.lt
  have hB := Bn.new w [.string s, .int .i64 n] 26 _ rfl
  replace h := h.on hal
  replace hv : RdK (fun _ => True) _ 1 rI64 vs (.slice va vn vc) := hv.keep (fun x _ u hu => hu) (fun b _ hlt => ⟨trivial, hal.block b hlt⟩)
  have hal0 : Below X w (w.alloc (.cells #[.string s, .int .i64 n] 26)) := hal.mono (Nat.le_of_lt hXl)
  have hS := istr s
  have hp := jpop_any h hl
  have hBz : ∀ w1, Fx X (w.alloc (.cells #[.string s, .int .i64 n] 26)) w1 → Bn w1 w.heap.size [.string s, .int .i64 n] := fun w1 b => hB.fx b (Nat.ne_of_gt hXl)
  have HB := hideI hBz
  rw [hw] at hS
  have q0 : (s.toList == [112, 117, 115, 104]) = false := (hS _).trans (by decide)
  have q1 : (s.toList == [108, 111, 97, 100]) = false := (hS _).trans (by decide)
  have q2 : (s.toList == [110, 111, 116]) = false := (hS _).trans (by decide)
  have q3 : (s.toList == [110, 101, 103]) = false := (hS _).trans (by decide)
  have q4 : (s.toList == [98, 111, 111, 108]) = false := (hS _).trans (by decide)
  have q5 : (s.toList == [97, 110, 100]) = true := (hS _).trans (by decide)
  have q6 : (s.toList == [111, 114]) = false := (hS _).trans (by decide)
  obtain ⟨p0, _⟩ := hB 0 _ rfl
  obtain ⟨p1, _⟩ := hB 1 _ rfl
  have HD := hideI (stD_jump (vs := vs) (s := [97, 110, 100]) (n := n) (beh := beh) (st := st) (o := false) rfl (by omega) (by omega) hx)
  have hlr : st.tail.length ≤ 4000 := by rw [List.length_tail]; omega
  clear hS hw hv hr h hB hBz
  generalize st.headD 0 = x at *
  generalize popE st 0 = e1 at *
  generalize st.tail = r at *
  have ht := fun w1 => jtruth_any false w1
  have hk : ((n.toNat : Nat) : Int) = n := by omega
  have HK := hideI hk
  clear hk
  go_enter Try.func9, Try.ntmps9
  go_wp2_with (first
    | (go_at_call 18; refine hp.mono ?_; rintro y w1 ⟨rfl, ⟨lv1, hm1⟩, b1⟩; obtain ⟨z0, _⟩ := HB.out _ b1 0 _ rfl; have hu := jpush_any hm1 (trI false) hlr; rw [psh_tr] at hu; clear hp)
    | (go_at_call 17; refine (ht _).mono ?_; rintro e w3 ⟨rfl, rfl⟩)
    | (go_at_call 16; refine hu.mono ?_; rintro x w2 ⟨⟨u, rfl⟩, hm2, b2⟩; obtain ⟨z1, _⟩ := HB.out _ (b1.trans b2) 1 _ rfl)
    | fail)
  go_ret
  have hfl : flE e1 0 = e1 := by unfold flE; split <;> simp_all
  rw [hfl] at hm2
  exact ⟨n.toNat, _, _, by rw [HK.out]; rfl, hm2, (Fx.of hal (Nat.le_refl _)).trans (b1.trans b2), HD.out⟩
set_option maxRecDepth 100000 in
set_option maxHeartbeats 8000000 in
theorem jstep_w5c {w : World} {X : Nat} {lv : Value} {st vs : List Int} {va : Option Addr} {vn vc : Nat} {ok : Nat → Prop} (h : Md w X lv st 0) (hv : RdK ok w 1 rI64 vs (.slice va vn vc)) (s : ByteArray) (n : Int) (beh : Nat) (hb : beh ≤ 4000) (hl : st.length ≤ 4000) (hr : InR st) (hw : s.data.toList = [97, 110, 100]) (hn1 : ¬ n < 0) (hn2 : ¬ n > (beh : Int)) (hx : (st.headD 0 != 0) = true) :
    Calls Try.prog 9 #[.pointer (some ⟨X, 0, none⟩), .agg #[.string s, .int .i64 n], .slice va vn vc, .int .i64 (beh : Int)] w fun x w' => ∃ (p : Nat) (st' : List Int) (e' : Int), x = .returned (.int .i64 (p : Int)) ∧ (∃ lv', Md w' X lv' st' e') ∧ Fx X w w' ∧ StD vs [97, 110, 100] n beh st p st' e' := by
  have hal : Below w.heap.size w (w.alloc (.cells #[.string s, .int .i64 n] 26)) := (Below.refl _ _).alloc (Nat.le_refl _) _
  have hXl := h.b.lt
  have hB := Bn.new w [.string s, .int .i64 n] 26 _ rfl
  replace h := h.on hal
  replace hv : RdK (fun _ => True) _ 1 rI64 vs (.slice va vn vc) := hv.keep (fun x _ u hu => hu) (fun b _ hlt => ⟨trivial, hal.block b hlt⟩)
  have hal0 : Below X w (w.alloc (.cells #[.string s, .int .i64 n] 26)) := hal.mono (Nat.le_of_lt hXl)
  have hS := istr s
  have hp := jpop_any h hl
  have hBz : ∀ w1, Fx X (w.alloc (.cells #[.string s, .int .i64 n] 26)) w1 → Bn w1 w.heap.size [.string s, .int .i64 n] := fun w1 b => hB.fx b (Nat.ne_of_gt hXl)
  have HB := hideI hBz
  rw [hw] at hS
  have q0 : (s.toList == [112, 117, 115, 104]) = false := (hS _).trans (by decide)
  have q1 : (s.toList == [108, 111, 97, 100]) = false := (hS _).trans (by decide)
  have q2 : (s.toList == [110, 111, 116]) = false := (hS _).trans (by decide)
  have q3 : (s.toList == [110, 101, 103]) = false := (hS _).trans (by decide)
  have q4 : (s.toList == [98, 111, 111, 108]) = false := (hS _).trans (by decide)
  have q5 : (s.toList == [97, 110, 100]) = true := (hS _).trans (by decide)
  have q6 : (s.toList == [111, 114]) = false := (hS _).trans (by decide)
  obtain ⟨p0, _⟩ := hB 0 _ rfl
  obtain ⟨p1, _⟩ := hB 1 _ rfl
  have HD := hideI (stD_stay (vs := vs) (s := [97, 110, 100]) (n := n) (beh := beh) (st := st) (o := false) rfl (by omega) (by omega) (by rw [hx]; decide))
  have hlr : st.tail.length ≤ 4000 := by rw [List.length_tail]; omega
  clear hS hw hv hr h hB hBz
  generalize st.headD 0 = x at *
  generalize popE st 0 = e1 at *
  generalize st.tail = r at *
  go_enter Try.func9, Try.ntmps9
  go_wp2_with (first
    | (go_at_call 18; refine hp.mono ?_; rintro y w1 ⟨rfl, hm1, b1⟩; obtain ⟨z0, _⟩ := HB.out _ b1 0 _ rfl; clear hp)
    | fail)
  go_ret
  exact ⟨0, _, _, rfl, hm1, (Fx.of hal (Nat.le_refl _)).trans b1, HD.out⟩
set_option maxRecDepth 100000 in
set_option maxHeartbeats 8000000 in
theorem jstep_w6a {w : World} {X : Nat} {lv : Value} {st vs : List Int} {va : Option Addr} {vn vc : Nat} {ok : Nat → Prop} (h : Md w X lv st 0) (hv : RdK ok w 1 rI64 vs (.slice va vn vc)) (s : ByteArray) (n : Int) (beh : Nat) (hb : beh ≤ 4000) (hl : st.length ≤ 4000) (hr : InR st) (hw : s.data.toList = [111, 114]) (hn : n < 0 ∨ n > (beh : Int)) :
    Calls Try.prog 9 #[.pointer (some ⟨X, 0, none⟩), .agg #[.string s, .int .i64 n], .slice va vn vc, .int .i64 (beh : Int)] w fun x w' => ∃ (p : Nat) (st' : List Int) (e' : Int), x = .returned (.int .i64 (p : Int)) ∧ (∃ lv', Md w' X lv' st' e') ∧ Fx X w w' ∧ StD vs [111, 114] n beh st p st' e' := by
  have hal : Below w.heap.size w (w.alloc (.cells #[.string s, .int .i64 n] 26)) := (Below.refl _ _).alloc (Nat.le_refl _) _
  have hXl := h.b.lt
  have hB := Bn.new w [.string s, .int .i64 n] 26 _ rfl
  replace h := h.on hal
  replace hv : RdK (fun _ => True) _ 1 rI64 vs (.slice va vn vc) := hv.keep (fun x _ u hu => hu) (fun b _ hlt => ⟨trivial, hal.block b hlt⟩)
  have hal0 : Below X w (w.alloc (.cells #[.string s, .int .i64 n] 26)) := hal.mono (Nat.le_of_lt hXl)
  have hS := istr s
  have hf := jfail_any h 2
  rw [hw] at hS
  have q0 : (s.toList == [112, 117, 115, 104]) = false := (hS _).trans (by decide)
  have q1 : (s.toList == [108, 111, 97, 100]) = false := (hS _).trans (by decide)
  have q2 : (s.toList == [110, 111, 116]) = false := (hS _).trans (by decide)
  have q3 : (s.toList == [110, 101, 103]) = false := (hS _).trans (by decide)
  have q4 : (s.toList == [98, 111, 111, 108]) = false := (hS _).trans (by decide)
  have q5 : (s.toList == [97, 110, 100]) = false := (hS _).trans (by decide)
  have q6 : (s.toList == [111, 114]) = true := (hS _).trans (by decide)
  obtain ⟨p0, _⟩ := hB 0 _ rfl
  obtain ⟨p1, _⟩ := hB 1 _ rfl
  have e9 : stpI vs [111, 114] n beh st = (0, 2, st) := jmp_bad true n beh st hn
  clear hS hw hv hr h hB
  rw [flE_0] at hf
  by_cases hn1 : n < 0
  · clear hn
    go_enter Try.func9, Try.ntmps9
    go_wp2_with (first
      | (go_at_call 10; refine hf.mono ?_; rintro x w1 ⟨⟨u, rfl⟩, hm1, b1⟩)
      | fail)
    go_ret
    exact ⟨0, _, 2, rfl, ⟨_, hm1⟩, (Fx.of hal (Nat.le_refl _)).trans b1, stD_bad (by decide) (Nat.zero_le _) (by rw [e9])⟩
  · have hn2 : n > (beh : Int) := by omega
    clear hn
    go_enter Try.func9, Try.ntmps9
    go_wp2_with (first
      | (go_at_call 10; refine hf.mono ?_; rintro x w1 ⟨⟨u, rfl⟩, hm1, b1⟩)
      | fail)
    go_ret
    exact ⟨0, _, 2, rfl, ⟨_, hm1⟩, (Fx.of hal (Nat.le_refl _)).trans b1, stD_bad (by decide) (Nat.zero_le _) (by rw [e9])⟩
set_option maxRecDepth 100000 in
set_option maxHeartbeats 8000000 in
theorem jstep_w6b {w : World} {X : Nat} {lv : Value} {st vs : List Int} {va : Option Addr} {vn vc : Nat} {ok : Nat → Prop} (h : Md w X lv st 0) (hv : RdK ok w 1 rI64 vs (.slice va vn vc)) (s : ByteArray) (n : Int) (beh : Nat) (hb : beh ≤ 4000) (hl : st.length ≤ 4000) (hr : InR st) (hw : s.data.toList = [111, 114]) (hn1 : ¬ n < 0) (hn2 : ¬ n > (beh : Int)) (hx : (st.headD 0 != 0) = true) :
    Calls Try.prog 9 #[.pointer (some ⟨X, 0, none⟩), .agg #[.string s, .int .i64 n], .slice va vn vc, .int .i64 (beh : Int)] w fun x w' => ∃ (p : Nat) (st' : List Int) (e' : Int), x = .returned (.int .i64 (p : Int)) ∧ (∃ lv', Md w' X lv' st' e') ∧ Fx X w w' ∧ StD vs [111, 114] n beh st p st' e' := by
  have hal : Below w.heap.size w (w.alloc (.cells #[.string s, .int .i64 n] 26)) := (Below.refl _ _).alloc (Nat.le_refl _) _
  have hXl := h.b.lt
  have hB := Bn.new w [.string s, .int .i64 n] 26 _ rfl
  replace h := h.on hal
  replace hv : RdK (fun _ => True) _ 1 rI64 vs (.slice va vn vc) := hv.keep (fun x _ u hu => hu) (fun b _ hlt => ⟨trivial, hal.block b hlt⟩)
  have hal0 : Below X w (w.alloc (.cells #[.string s, .int .i64 n] 26)) := hal.mono (Nat.le_of_lt hXl)
  have hS := istr s
  have hp := jpop_any h hl
  have hBz : ∀ w1, Fx X (w.alloc (.cells #[.string s, .int .i64 n] 26)) w1 → Bn w1 w.heap.size [.string s, .int .i64 n] := fun w1 b => hB.fx b (Nat.ne_of_gt hXl)
  have HB := hideI hBz
  rw [hw] at hS
  have q0 : (s.toList == [112, 117, 115, 104]) = false := (hS _).trans (by decide)
  have q1 : (s.toList == [108, 111, 97, 100]) = false := (hS _).trans (by decide)
  have q2 : (s.toList == [110, 111, 116]) = false := (hS _).trans (by decide)
  have q3 : (s.toList == [110, 101, 103]) = false := (hS _).trans (by decide)
  have q4 : (s.toList == [98, 111, 111, 108]) = false := (hS _).trans (by decide)
  have q5 : (s.toList == [97, 110, 100]) = false := (hS _).trans (by decide)
  have q6 : (s.toList == [111, 114]) = true := (hS _).trans (by decide)
  obtain ⟨p0, _⟩ := hB 0 _ rfl
  obtain ⟨p1, _⟩ := hB 1 _ rfl
  have HD := hideI (stD_jump (vs := vs) (s := [111, 114]) (n := n) (beh := beh) (st := st) (o := true) rfl (by omega) (by omega) hx)
  have hlr : st.tail.length ≤ 4000 := by rw [List.length_tail]; omega
  clear hS hw hv hr h hB hBz
  generalize st.headD 0 = x at *
  generalize popE st 0 = e1 at *
  generalize st.tail = r at *
  have ht := fun w1 => jtruth_any true w1
  have hk : ((n.toNat : Nat) : Int) = n := by omega
  have HK := hideI hk
  clear hk
  go_enter Try.func9, Try.ntmps9
  go_wp2_with (first
    | (go_at_call 18; refine hp.mono ?_; rintro y w1 ⟨rfl, ⟨lv1, hm1⟩, b1⟩; obtain ⟨z0, _⟩ := HB.out _ b1 0 _ rfl; have hu := jpush_any hm1 (trI true) hlr; rw [psh_tr] at hu; clear hp)
    | (go_at_call 17; refine (ht _).mono ?_; rintro e w3 ⟨rfl, rfl⟩)
    | (go_at_call 16; refine hu.mono ?_; rintro x w2 ⟨⟨u, rfl⟩, hm2, b2⟩; obtain ⟨z1, _⟩ := HB.out _ (b1.trans b2) 1 _ rfl)
    | fail)
  go_ret
  have hfl : flE e1 0 = e1 := by unfold flE; split <;> simp_all
  rw [hfl] at hm2
  exact ⟨n.toNat, _, _, by rw [HK.out]; rfl, hm2, (Fx.of hal (Nat.le_refl _)).trans (b1.trans b2), HD.out⟩
set_option maxRecDepth 100000 in
set_option maxHeartbeats 8000000 in
theorem jstep_w6c {w : World} {X : Nat} {lv : Value} {st vs : List Int} {va : Option Addr} {vn vc : Nat} {ok : Nat → Prop} (h : Md w X lv st 0) (hv : RdK ok w 1 rI64 vs (.slice va vn vc)) (s : ByteArray) (n : Int) (beh : Nat) (hb : beh ≤ 4000) (hl : st.length ≤ 4000) (hr : InR st) (hw : s.data.toList = [111, 114]) (hn1 : ¬ n < 0) (hn2 : ¬ n > (beh : Int)) (hx : (st.headD 0 != 0) = false) :
    Calls Try.prog 9 #[.pointer (some ⟨X, 0, none⟩), .agg #[.string s, .int .i64 n], .slice va vn vc, .int .i64 (beh : Int)] w fun x w' => ∃ (p : Nat) (st' : List Int) (e' : Int), x = .returned (.int .i64 (p : Int)) ∧ (∃ lv', Md w' X lv' st' e') ∧ Fx X w w' ∧ StD vs [111, 114] n beh st p st' e' := by
  have hal : Below w.heap.size w (w.alloc (.cells #[.string s, .int .i64 n] 26)) := (Below.refl _ _).alloc (Nat.le_refl _) _
  have hXl := h.b.lt
  have hB := Bn.new w [.string s, .int .i64 n] 26 _ rfl
  replace h := h.on hal
  replace hv : RdK (fun _ => True) _ 1 rI64 vs (.slice va vn vc) := hv.keep (fun x _ u hu => hu) (fun b _ hlt => ⟨trivial, hal.block b hlt⟩)
  have hal0 : Below X w (w.alloc (.cells #[.string s, .int .i64 n] 26)) := hal.mono (Nat.le_of_lt hXl)
  have hS := istr s
  have hp := jpop_any h hl
  have hBz : ∀ w1, Fx X (w.alloc (.cells #[.string s, .int .i64 n] 26)) w1 → Bn w1 w.heap.size [.string s, .int .i64 n] := fun w1 b => hB.fx b (Nat.ne_of_gt hXl)
  have HB := hideI hBz
  rw [hw] at hS
  have q0 : (s.toList == [112, 117, 115, 104]) = false := (hS _).trans (by decide)
  have q1 : (s.toList == [108, 111, 97, 100]) = false := (hS _).trans (by decide)
  have q2 : (s.toList == [110, 111, 116]) = false := (hS _).trans (by decide)
  have q3 : (s.toList == [110, 101, 103]) = false := (hS _).trans (by decide)
  have q4 : (s.toList == [98, 111, 111, 108]) = false := (hS _).trans (by decide)
  have q5 : (s.toList == [97, 110, 100]) = false := (hS _).trans (by decide)
  have q6 : (s.toList == [111, 114]) = true := (hS _).trans (by decide)
  obtain ⟨p0, _⟩ := hB 0 _ rfl
  obtain ⟨p1, _⟩ := hB 1 _ rfl
  have HD := hideI (stD_stay (vs := vs) (s := [111, 114]) (n := n) (beh := beh) (st := st) (o := true) rfl (by omega) (by omega) (by rw [hx]; decide))
  have hlr : st.tail.length ≤ 4000 := by rw [List.length_tail]; omega
  clear hS hw hv hr h hB hBz
  generalize st.headD 0 = x at *
  generalize popE st 0 = e1 at *
  generalize st.tail = r at *
  go_enter Try.func9, Try.ntmps9
  go_wp2_with (first
    | (go_at_call 18; refine hp.mono ?_; rintro y w1 ⟨rfl, hm1, b1⟩; obtain ⟨z0, _⟩ := HB.out _ b1 0 _ rfl; clear hp)
    | fail)
  go_ret
  exact ⟨0, _, _, rfl, hm1, (Fx.of hal (Nat.le_refl _)).trans b1, HD.out⟩
set_option maxRecDepth 100000 in
set_option maxHeartbeats 8000000 in
theorem jstep_two {w : World} {X : Nat} {lv : Value} {st vs : List Int} {va : Option Addr} {vn vc : Nat} {ok : Nat → Prop} (h : Md w X lv st 0) (hv : RdK ok w 1 rI64 vs (.slice va vn vc)) (s : ByteArray) (n : Int) (beh : Nat) (hb : beh ≤ 4000) (hl : st.length ≤ 4000) (hr : InR st) (r0 : s.data.toList ≠ [112, 117, 115, 104]) (r1 : s.data.toList ≠ [108, 111, 97, 100]) (r2 : s.data.toList ≠ [110, 111, 116]) (r3 : s.data.toList ≠ [110, 101, 103]) (r4 : s.data.toList ≠ [98, 111, 111, 108]) (r5 : s.data.toList ≠ [97, 110, 100]) (r6 : s.data.toList ≠ [111, 114]) (hi : isTwo s.data.toList = true) :
    Calls Try.prog 9 #[.pointer (some ⟨X, 0, none⟩), .agg #[.string s, .int .i64 n], .slice va vn vc, .int .i64 (beh : Int)] w fun x w' => ∃ (p : Nat) (st' : List Int) (e' : Int), x = .returned (.int .i64 (p : Int)) ∧ (∃ lv', Md w' X lv' st' e') ∧ Fx X w w' ∧ StD vs s.data.toList n beh st p st' e' := by
  have hal : Below w.heap.size w (w.alloc (.cells #[.string s, .int .i64 n] 26)) := (Below.refl _ _).alloc (Nat.le_refl _) _
  have hXl := h.b.lt
  have hB := Bn.new w [.string s, .int .i64 n] 26 _ rfl
  replace h := h.on hal
  replace hv : RdK (fun _ => True) _ 1 rI64 vs (.slice va vn vc) := hv.keep (fun x _ u hu => hu) (fun b _ hlt => ⟨trivial, hal.block b hlt⟩)
  have hal0 : Below X w (w.alloc (.cells #[.string s, .int .i64 n] 26)) := hal.mono (Nat.le_of_lt hXl)
  have hS := istr s
  have hp := jpop_any h hl
  have ho := fun w1 => jop_any s w1
  rw [hi] at ho
  have hx := headR hr
  have hy := headR (tailR hr)
  have ht := fun w1 => jtwo_any s hi (st.tail.headD 0) (st.headD 0) hy hx w1
  have hBz : ∀ w1, Fx X (w.alloc (.cells #[.string s, .int .i64 n] 26)) w1 → Bn w1 w.heap.size [.string s, .int .i64 n] := fun w1 b => hB.fx b (Nat.ne_of_gt hXl)
  have HB := hideI hBz
  have q0 : (s.toList == [112, 117, 115, 104]) = false := (hS _).trans (beq_eq_false_iff_ne.2 r0)
  have q1 : (s.toList == [108, 111, 97, 100]) = false := (hS _).trans (beq_eq_false_iff_ne.2 r1)
  have q2 : (s.toList == [110, 111, 116]) = false := (hS _).trans (beq_eq_false_iff_ne.2 r2)
  have q3 : (s.toList == [110, 101, 103]) = false := (hS _).trans (beq_eq_false_iff_ne.2 r3)
  have q4 : (s.toList == [98, 111, 111, 108]) = false := (hS _).trans (beq_eq_false_iff_ne.2 r4)
  have q5 : (s.toList == [97, 110, 100]) = false := (hS _).trans (beq_eq_false_iff_ne.2 r5)
  have q6 : (s.toList == [111, 114]) = false := (hS _).trans (beq_eq_false_iff_ne.2 r6)
  have e9 : stpI vs s.data.toList n beh st = (0, on2 s.data.toList st) := by
    unfold stpI isOne
    simp [hi, r0, r1, r2, r3, r4, r5, r6]
  have HD := hideI (stD_two e9)
  have hl1 : st.tail.length ≤ 4000 := by rw [List.length_tail]; omega
  have hl2 : st.tail.tail.length ≤ 4000 := by rw [List.length_tail]; omega
  obtain ⟨p0, _⟩ := hB 0 _ rfl
  obtain ⟨p1, _⟩ := hB 1 _ rfl
  clear hS hv hr h hB hBz e9 hx hy r0 r1 r2 r3 r4 r5 r6
  generalize wkI s.data.toList (st.tail.headD 0) (st.headD 0) = z at *
  have hp2 : ∀ lv1 w1, Md w1 X lv1 st.tail (popE st 0) → _ := fun lv1 w1 (hm : Md w1 X lv1 st.tail (popE st 0)) => jpop_any hm hl1
  generalize popE st.tail (popE st 0) = e2 at *
  generalize st.tail.headD 0 = x at *
  generalize st.headD 0 = y at *
  generalize st.tail.tail = r at *
  go_enter Try.func9, Try.ntmps9
  go_wp2_with (first
    | (go_at_call 19; refine (ho _).mono ?_; rintro e w3 ⟨rfl, rfl⟩)
    | (go_at_call 18; refine hp.mono ?_; rintro t w1 ⟨rfl, ⟨lv1, hm1⟩, b1⟩; have hq := hp2 _ _ hm1; clear hp)
    | (go_at_call 18; refine hq.mono ?_; rintro t w2 ⟨rfl, ⟨lv2, hm2⟩, b2⟩; obtain ⟨z0, _⟩ := HB.out _ (b1.trans b2) 0 _ rfl; have hu := jpush_any hm2 z hl2; clear hq)
    | (go_at_call 20; refine (ht _).mono ?_; rintro e w5 ⟨rfl, rfl⟩)
    | (go_at_call 16; refine hu.mono ?_; rintro t w4 ⟨⟨u, rfl⟩, hm4, b4⟩)
    | fail)
  go_ret
  exact ⟨0, _, _, rfl, hm4, (Fx.of hal (Nat.le_refl _)).trans ((b1.trans b2).trans b4), HD.out⟩
set_option maxRecDepth 100000 in
set_option maxHeartbeats 8000000 in
theorem jstep_no {w : World} {X : Nat} {lv : Value} {st vs : List Int} {va : Option Addr} {vn vc : Nat} {ok : Nat → Prop} (h : Md w X lv st 0) (hv : RdK ok w 1 rI64 vs (.slice va vn vc)) (s : ByteArray) (n : Int) (beh : Nat) (hb : beh ≤ 4000) (hl : st.length ≤ 4000) (hr : InR st) (r0 : s.data.toList ≠ [112, 117, 115, 104]) (r1 : s.data.toList ≠ [108, 111, 97, 100]) (r2 : s.data.toList ≠ [110, 111, 116]) (r3 : s.data.toList ≠ [110, 101, 103]) (r4 : s.data.toList ≠ [98, 111, 111, 108]) (r5 : s.data.toList ≠ [97, 110, 100]) (r6 : s.data.toList ≠ [111, 114]) (hi : isTwo s.data.toList = false) :
    Calls Try.prog 9 #[.pointer (some ⟨X, 0, none⟩), .agg #[.string s, .int .i64 n], .slice va vn vc, .int .i64 (beh : Int)] w fun x w' => ∃ (p : Nat) (st' : List Int) (e' : Int), x = .returned (.int .i64 (p : Int)) ∧ (∃ lv', Md w' X lv' st' e') ∧ Fx X w w' ∧ StD vs s.data.toList n beh st p st' e' := by
  have hal : Below w.heap.size w (w.alloc (.cells #[.string s, .int .i64 n] 26)) := (Below.refl _ _).alloc (Nat.le_refl _) _
  have hXl := h.b.lt
  have hB := Bn.new w [.string s, .int .i64 n] 26 _ rfl
  replace h := h.on hal
  replace hv : RdK (fun _ => True) _ 1 rI64 vs (.slice va vn vc) := hv.keep (fun x _ u hu => hu) (fun b _ hlt => ⟨trivial, hal.block b hlt⟩)
  have hal0 : Below X w (w.alloc (.cells #[.string s, .int .i64 n] 26)) := hal.mono (Nat.le_of_lt hXl)
  have hS := istr s
  have hf := jfail_any h 2
  have ho := fun w1 => jop_any s w1
  rw [hi] at ho
  have q0 : (s.toList == [112, 117, 115, 104]) = false := (hS _).trans (beq_eq_false_iff_ne.2 r0)
  have q1 : (s.toList == [108, 111, 97, 100]) = false := (hS _).trans (beq_eq_false_iff_ne.2 r1)
  have q2 : (s.toList == [110, 111, 116]) = false := (hS _).trans (beq_eq_false_iff_ne.2 r2)
  have q3 : (s.toList == [110, 101, 103]) = false := (hS _).trans (beq_eq_false_iff_ne.2 r3)
  have q4 : (s.toList == [98, 111, 111, 108]) = false := (hS _).trans (beq_eq_false_iff_ne.2 r4)
  have q5 : (s.toList == [97, 110, 100]) = false := (hS _).trans (beq_eq_false_iff_ne.2 r5)
  have q6 : (s.toList == [111, 114]) = false := (hS _).trans (beq_eq_false_iff_ne.2 r6)
  have e9 : stpI vs s.data.toList n beh st = (0, 2, st) := by
    unfold stpI isOne
    simp [hi, r0, r1, r2, r3, r4, r5, r6]
  obtain ⟨p0, _⟩ := hB 0 _ rfl
  obtain ⟨p1, _⟩ := hB 1 _ rfl
  clear hS hv hr h hB r0 r1 r2 r3 r4 r5 r6
  rw [flE_0] at hf
  go_enter Try.func9, Try.ntmps9
  go_wp2_with (first
    | (go_at_call 19; refine (ho _).mono ?_; rintro e w3 ⟨rfl, rfl⟩)
    | (go_at_call 10; refine hf.mono ?_; rintro x w1 ⟨⟨u, rfl⟩, hm1, b1⟩)
    | fail)
  go_ret
  exact ⟨0, _, 2, rfl, ⟨_, hm1⟩, (Fx.of hal (Nat.le_refl _)).trans b1, stD_bad (by decide) (Nat.zero_le _) (by rw [e9])⟩
theorem jstep_any {w : World} {X : Nat} {lv : Value} {st vs : List Int} {va : Option Addr} {vn vc : Nat} {ok : Nat → Prop} (h : Md w X lv st 0) (hv : RdK ok w 1 rI64 vs (.slice va vn vc)) (s : ByteArray) (n : Int) (beh : Nat) (hb : beh ≤ 4000) (hl : st.length ≤ 4000) (hr : InR st) :
    Calls Try.prog 9 #[.pointer (some ⟨X, 0, none⟩), .agg #[.string s, .int .i64 n], .slice va vn vc, .int .i64 (beh : Int)] w fun x w' => ∃ (p : Nat) (st' : List Int) (e' : Int), x = .returned (.int .i64 (p : Int)) ∧ (∃ lv', Md w' X lv' st' e') ∧ Fx X w w' ∧ StD vs s.data.toList n beh st p st' e' := by
  by_cases r0 : s.data.toList = [112, 117, 115, 104]
  · by_cases hn : n < 0
    · have hx := jstep_w0a h hv s n beh hb hl hr r0 hn
      rw [r0]; exact hx
    · have hx := jstep_w0b h hv s n beh hb hl hr r0 hn
      rw [r0]; exact hx
  by_cases r1 : s.data.toList = [108, 111, 97, 100]
  · by_cases hn : n < 0 ∨ n ≥ (vs.length : Int)
    · have hx := jstep_w1a h hv s n beh hb hl hr r1 hn
      rw [r1]; exact hx
    · have hx := jstep_w1b h hv s n beh hb hl hr r1 (fun e => hn (.inl e)) (fun e => hn (.inr e))
      rw [r1]; exact hx
  by_cases r2 : s.data.toList = [110, 111, 116]
  · have hx := jstep_w2 h hv s n beh hb hl hr r2
    rw [r2]; exact hx
  by_cases r3 : s.data.toList = [110, 101, 103]
  · have hx := jstep_w3 h hv s n beh hb hl hr r3
    rw [r3]; exact hx
  by_cases r4 : s.data.toList = [98, 111, 111, 108]
  · have hx := jstep_w4 h hv s n beh hb hl hr r4
    rw [r4]; exact hx
  by_cases r5 : s.data.toList = [97, 110, 100]
  · by_cases hn : n < 0 ∨ n > (beh : Int)
    · have hx := jstep_w5a h hv s n beh hb hl hr r5 hn
      rw [r5]; exact hx
    · cases hx : (st.headD 0 != 0) with
      | false =>
        have hx := jstep_w5b h hv s n beh hb hl hr r5 (fun e => hn (.inl e)) (fun e => hn (.inr e)) hx
        rw [r5]; exact hx
      | true =>
        have hx := jstep_w5c h hv s n beh hb hl hr r5 (fun e => hn (.inl e)) (fun e => hn (.inr e)) hx
        rw [r5]; exact hx
  by_cases r6 : s.data.toList = [111, 114]
  · by_cases hn : n < 0 ∨ n > (beh : Int)
    · have hx := jstep_w6a h hv s n beh hb hl hr r6 hn
      rw [r6]; exact hx
    · cases hx : (st.headD 0 != 0) with
      | true =>
        have hx := jstep_w6b h hv s n beh hb hl hr r6 (fun e => hn (.inl e)) (fun e => hn (.inr e)) hx
        rw [r6]; exact hx
      | false =>
        have hx := jstep_w6c h hv s n beh hb hl hr r6 (fun e => hn (.inl e)) (fun e => hn (.inr e)) hx
        rw [r6]; exact hx
  cases hi : isTwo s.data.toList with
  | true => exact jstep_two h hv s n beh hb hl hr r0 r1 r2 r3 r4 r5 r6 hi
  | false => exact jstep_no h hv s n beh hb hl hr r0 r1 r2 r3 r4 r5 r6 hi
end Go.Proofs.Ytkahphofmppnkaa
