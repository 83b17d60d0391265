/- What must answers; the walk of ExprMusts, of what is asked of the program's calls. -/
import Derived.Test.YtjbfhpgiobddoaaExP
import Derived.Test.YtjbfhpgiobddoaaExA
import Derived.Test.YtjbfhpgiobddoaaGlyB
import Derived.Defers
import Derived.Recover
import Derived.Laws.Pointers
namespace Go.Proofs.Ytjbfhpgiobddoaa
open Go.RowKit Go.Lib
set_option linter.unusedSimpArgs false
set_option linter.unusedVariables false

/-- The program's Must tells a Lit's number, and panics at all else. -/
structure MustP : Prop where
  lit : ∀ (n : Int) (w : World), Calls Try.prog 21 #[.iface 47 (.agg #[.int .i64 n])] w fun e w' => e = .returned (.int .i64 n) ∧ Below w.heap.size w w'
  none : ∀ (w : World), Calls Try.prog 21 #[.nilIface] w fun e w' => (∃ u pv, e = .panicked [{ v := .iface u pv, recovered := false }]) ∧ Below w.heap.size w w'
  other : ∀ (t : Nat) (x : Value) (w : World), t = 56 ∨ t = 40 ∨ t = 57 ∨ t = 38 → Calls Try.prog 21 #[.iface t x] w fun e w' => (∃ u pv, e = .panicked [{ v := .iface u pv, recovered := false }]) ∧ Below w.heap.size w w'

theorem catch_panicking (p : Addr) (x : Bool) (u : TypeId) (pv : Value) (older : List PanicEntry) (w : World) (hc : w.cell? p = some (.bool x)) (hz : w.frozen? p = false) :
    CallsD Try.prog 20 #[.pointer (some p)] (.panicking ({ v := .iface u pv, recovered := false } :: older)) w fun e u' w' =>
      e = .returned (.tuple #[]) ∧ u' = .panicking ({ v := .iface u pv, recovered := true } :: older) ∧ w' = w.setCell p (.bool true) := by
  refine callsD_of_wpS Try.func20 rfl fun c₀ cs hu => ?_
  apply wpS_seq
  apply wpS_region
  simp [wpOpsS, go_sem, recoverD, hu, Try.ntmps20, Exit.thenS]
  refine wpS_cond (t := true) (by simp [Act.eval, Array.replicate]) ?_
  simp only [if_true]
  apply wpS_region
  simp [wpOpsS, go_sem, hc, hz, bodyPostS, results, Try.results20]

theorem catch_idle (p : Addr) (w : World) :
    CallsD Try.prog 20 #[.pointer (some p)] .returning w fun e u' w' => e = .returned (.tuple #[]) ∧ u' = .returning ∧ w' = w := by
  refine callsD_of_wpS Try.func20 rfl fun c₀ cs hu => ?_
  apply wpS_seq
  apply wpS_region
  simp [wpOpsS, go_sem, recoverD, hu, Try.ntmps20, Exit.thenS]
  refine wpS_cond (t := false) (by simp [Act.eval, Array.replicate]) ?_
  simp only [Bool.false_eq_true, if_false]
  refine wpS_of_wp (wp_skip ?_)
  cases c₀
  simp_all [bodyPostS, results, Try.results20]

set_option maxHeartbeats 1000000 in
theorem must_panics {v : Value} {w : World} (h : ∀ w1, Calls Try.prog 21 #[v] w1 fun e w' => (∃ u pv, e = .panicked [{ v := .iface u pv, recovered := false }]) ∧ Below w1.heap.size w1 w') :
    Calls Try.prog 12 #[v] w fun e w' => e = .returned (.tuple #[.int .i64 0, .bool true]) ∧ Below w.heap.size w w' := by
  have hmf : ∀ (fn : Fn) (first cap : Array Value) (w : World), (Instr.makeFunc fn first cap).run Try.prog w = .ok (.func fn first cap) w := fun _ _ _ _ => rfl
  have s1 := h (w.alloc (.cells #[.bool false] 4))
  have hb0 := (Below.refl w.heap.size w).alloc (Nat.le_refl _) (.cells #[.bool false] 4)
  clear h
  go_enter_defers Try.func12, Try.ntmps12
  go_wp2_with (first
    | (go_at_call 21; refine s1.mono ?_; rintro e w1 ⟨⟨u, pv, rfl⟩, b1⟩))
  have hc : w1.cell? ⟨w.heap.size, 0, none⟩ = some (.bool false) := by rw [b1.cell (p := ⟨w.heap.size, 0, none⟩) (by simp)]; simp
  have hz : w1.frozen? ⟨w.heap.size, 0, none⟩ = false := by rw [b1.frozen (p := ⟨w.heap.size, 0, none⟩) (by simp)]; simp
  refine leaves_cons (f := 20) (args := #[.pointer (some ⟨w.heap.size, 0, none⟩)]) (by simp) (by simp [go_sem]) ?_
  refine (catch_panicking ⟨w.heap.size, 0, none⟩ false u pv [] _ hc hz).mono ?_
  rintro e u' w'' ⟨rfl, rfl, rfl⟩
  have hc2 := World.cell?_setCell_same' w1 ⟨w.heap.size, 0, none⟩ (.bool true) (by rw [hc]; rfl)
  simp [Leaves, settle, results, Try.results12, go_sem, hc2]
  exact (hb0.trans (b1.mono hb0.size)).setCell (by simp) _

set_option maxHeartbeats 1000000 in
theorem must_tells {v : Value} {n : Int} {w : World} (h : ∀ w1, Calls Try.prog 21 #[v] w1 fun e w' => e = .returned (.int .i64 n) ∧ Below w1.heap.size w1 w') :
    Calls Try.prog 12 #[v] w fun e w' => e = .returned (.tuple #[.int .i64 n, .bool false]) ∧ Below w.heap.size w w' := by
  have hmf : ∀ (fn : Fn) (first cap : Array Value) (w : World), (Instr.makeFunc fn first cap).run Try.prog w = .ok (.func fn first cap) w := fun _ _ _ _ => rfl
  have s1 := h (w.alloc (.cells #[.bool false] 4))
  have hb0 := (Below.refl w.heap.size w).alloc (Nat.le_refl _) (.cells #[.bool false] 4)
  clear h
  go_enter_defers Try.func12, Try.ntmps12
  go_wp2_with (first
    | (go_at_call 21; refine s1.mono ?_; rintro e w1 ⟨rfl, b1⟩; have hc : w1.cell? ⟨w.heap.size, 0, none⟩ = some (.bool false) := (by rw [b1.cell (p := ⟨w.heap.size, 0, none⟩) (by simp)]; simp); have hz : w1.frozen? ⟨w.heap.size, 0, none⟩ = false := (by rw [b1.frozen (p := ⟨w.heap.size, 0, none⟩) (by simp)]; simp)))
  refine leaves_cons (f := 20) (args := #[.pointer (some ⟨w.heap.size, 0, none⟩)]) (by simp) (by simp [go_sem]) ?_
  refine (catch_idle ⟨w.heap.size, 0, none⟩ _).mono ?_
  rintro e u' w'' ⟨rfl, rfl, rfl⟩
  have hc2 := World.cell?_setCell_same' w1 ⟨w.heap.size, 0, none⟩ (.bool false) (by rw [hc]; rfl)
  simp [Leaves, settle, results, Try.results12, go_sem, hc2]
  exact (hb0.trans (b1.mono hb0.size)).setCell (by simp) _

/-- Of anything else than a Lit. -/
theorem musts_else {d : Nat} (GM : MustP) (k n : Int) (s : ByteArray) (ps : List (T d)) (hk : k ≠ 1) (w : World) :
    Calls Try.prog 21 #[exV (d + 1) (mkT k n s ps)] w fun e w' => (∃ u pv, e = .panicked [{ v := .iface u pv, recovered := false }]) ∧ Below w.heap.size w w' := by
  rw [exV_mk, if_neg hk]
  by_cases k2 : k = 2
  · rw [if_pos k2]; exact GM.other _ _ w (.inl rfl)
  rw [if_neg k2]
  by_cases k3 : k = 3
  · rw [if_pos k3]; exact GM.other _ _ w (.inr (.inl rfl))
  rw [if_neg k3]
  by_cases k4 : k = 4
  · rw [if_pos k4]; exact GM.other _ _ w (.inr (.inr (.inl rfl)))
  rw [if_neg k4]
  by_cases k5 : k = 5
  · rw [if_pos k5]; exact GM.other _ _ w (.inr (.inr (.inr rfl)))
  rw [if_neg k5]
  exact GM.none w

set_option maxRecDepth 100000 in
set_option maxHeartbeats 2000000 in
theorem exprMusts_of (G : EvalP) (GM : MustP) {w : World} {d : Nat} {t : T d} {v : Value} (h : RdT (fun _ => True) w d t v) :
    Calls Try.prog 4 #[v] w fun r w' => r = .returned (.bool true) ∧ Below w.heap.size w w' := by
  match d, t, h with
  | 0, t, _ => exact Empty.elim t
  | d + 1, t, h =>
  obtain ⟨k, n, s, ps, rfl⟩ := T.open t
  have h0 := h
  obtain ⟨sl, rfl, _⟩ := rdT_mk.1 h
  clear h
  have bb := (Below.refl w.heap.size w).alloc (Nat.le_refl _) (.cells #[.int .i64 k, .int .i64 n, .string s, sl] 24)
  have hA := At4.new w (.int .i64 k) (.int .i64 n) (.string s) sl 24
  have h1 := fun w1 => awakeX G w1
  have h2 := fun w1 (b : Below w.heap.size w w1) => refSmallTop_any (RdT.below b (Nat.le_refl _) h0)
  by_cases hsm : 0 ≤ sml (d + 1) (mkT k n s ps) 0 200
  case neg =>
    simp only [decide_eq_false hsm] at h2
    clear hsm
    have s1 := h1 (w.alloc (.cells #[.int .i64 k, .int .i64 n, .string s, sl] 24))
    go_enter Try.func4, Try.ntmps4
    go_wp2_with (first
      | (go_at_call 6; refine s1.mono ?_; rintro r wn ⟨rfl, bn⟩; have bb := bthen bb bn; have hA := hA.on bn; obtain ⟨y0, y1, y2, y3⟩ := id hA; have s2 := h2 wn bb; clear s1)
      | (go_at_call 7; refine s2.mono ?_; rintro r wn ⟨rfl, bn⟩; have bb := bthen bb bn; have hA := hA.on bn; obtain ⟨y0, y1, y2, y3⟩ := id hA; have s3 := h1 wn; clear s2)
      | (go_at_call 6; refine s3.mono ?_; rintro r wn ⟨rfl, bn⟩; have bb := bthen bb bn; have hA := hA.on bn; obtain ⟨y0, y1, y2, y3⟩ := id hA; clear s3))
    go_ret
    exact ⟨rfl, bb⟩
  simp only [decide_eq_true hsm] at h2
  have h5 := fun w1 (b : Below w.heap.size w w1) => theirs_any (d + 1) _ _ _ w1 (RdT.below b (Nat.le_refl _) h0)
  by_cases k1 : k = 1
  · subst k1
    have h6 := fun w1 => must_tells (w := w1) (GM.lit n)
    have hex : exV (d + 1) (mkT 1 n s ps) = .iface 47 (.agg #[.int .i64 n]) := rfl
    simp only [hex] at h5
    clear hsm hex h0
    have s1 := h1 (w.alloc (.cells #[.int .i64 1, .int .i64 n, .string s, sl] 24))
    go_enter Try.func4, Try.ntmps4
    go_wp2_with (first
      | (go_at_call 6; refine s1.mono ?_; rintro r wn ⟨rfl, bn⟩; have bb := bthen bb bn; have hA := hA.on bn; obtain ⟨y0, y1, y2, y3⟩ := id hA; have s2 := h2 wn bb; clear s1)
      | (go_at_call 7; refine s2.mono ?_; rintro r wn ⟨rfl, bn⟩; have bb := bthen bb bn; have hA := hA.on bn; obtain ⟨y0, y1, y2, y3⟩ := id hA; have s3 := h5 wn bb; clear s2)
      | (go_at_call 9; refine s3.mono ?_; rintro r wn ⟨rfl, bn⟩; have bb := bthen bb bn; have hA := hA.on bn; obtain ⟨y0, y1, y2, y3⟩ := id hA; have s4 := h6 wn; clear s3)
      | (go_at_call 12; refine s4.mono ?_; rintro r wn ⟨rfl, bn⟩; have bb := bthen bb bn; have hA := hA.on bn; obtain ⟨y0, y1, y2, y3⟩ := id hA; clear s4))
    go_ret
    exact ⟨ret_bool (by simp), bb⟩
  · have h6 := fun w1 => must_panics (w := w1) (musts_else GM k n s ps k1)
    obtain ⟨ex, hex⟩ : ∃ ex, exV (d + 1) (mkT k n s ps) = ex := ⟨_, rfl⟩
    simp only [hex] at h5 h6
    have e1 : (k != 1) = true := by simpa using k1
    clear hsm hex h0 k1
    have s1 := h1 (w.alloc (.cells #[.int .i64 k, .int .i64 n, .string s, sl] 24))
    go_enter Try.func4, Try.ntmps4
    go_wp2_with (first
      | (go_at_call 6; refine s1.mono ?_; rintro r wn ⟨rfl, bn⟩; have bb := bthen bb bn; have hA := hA.on bn; obtain ⟨y0, y1, y2, y3⟩ := id hA; have s2 := h2 wn bb; clear s1)
      | (go_at_call 7; refine s2.mono ?_; rintro r wn ⟨rfl, bn⟩; have bb := bthen bb bn; have hA := hA.on bn; obtain ⟨y0, y1, y2, y3⟩ := id hA; have s3 := h5 wn bb; clear s2)
      | (go_at_call 9; refine s3.mono ?_; rintro r wn ⟨rfl, bn⟩; have bb := bthen bb bn; have hA := hA.on bn; obtain ⟨y0, y1, y2, y3⟩ := id hA; have s4 := h6 wn; clear s3)
      | (go_at_call 12; refine s4.mono ?_; rintro r wn ⟨rfl, bn⟩; have bb := bthen bb bn; have hA := hA.on bn; obtain ⟨y0, y1, y2, y3⟩ := id hA; clear s4))
    go_ret
    exact ⟨ret_bool (by simp), bb⟩
end Go.Proofs.Ytjbfhpgiobddoaa
