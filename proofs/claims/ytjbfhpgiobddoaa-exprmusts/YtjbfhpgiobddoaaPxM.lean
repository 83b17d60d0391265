/- What the program's Must does. -/
import Derived.Test.YtjbfhpgiobddoaaLXMusts
import Derived.Test.YtjbfhpgiobddoaaPxV
namespace Go.Proofs.Ytjbfhpgiobddoaa
open Go.RowKit Go.Lib
set_option linter.unusedSimpArgs false
set_option linter.unusedVariables false

theorem am_lit (v : Value) (w : World) : (Instr.typeAssert (.iface 47 v) 29 47 false).run Try.prog w = .ok v w := by kernel_rfl
theorem am_nil (w : World) : (Instr.typeAssert .nilIface 29 47 false).run Try.prog w = .halt (.panic (.iface 15 (.pointer (some ⟨w.heap.size, 0, none⟩)))) (w.alloc (.cells #[typeHandle Try.prog 29, .pointer none, typeHandle Try.prog 47, strVal ""] 79)) := by kernel_rfl
theorem must_lit (n : Int) (w : World) : Calls Try.prog 25 #[.iface 47 (.agg #[.int .i64 n])] w fun e w' => e = .returned (.agg #[.int .i64 n]) ∧ Below w.heap.size w w' := by
  have h := am_lit
  go_enter Try.func25, Try.ntmps25
  go_wp2
  exact bodyPost_ret (v := .agg #[.int .i64 n]) (by simp [results, Try.results25, go_sem]) rfl ⟨rfl, (Below.refl _ _).alloc (Nat.le_refl _) _⟩
theorem am_ref (v : Value) (w : World) : (Instr.typeAssert (.iface 56 v) 29 47 false).run Try.prog w = .halt (.panic (.iface 15 (.pointer (some ⟨w.heap.size, 0, none⟩)))) (w.alloc (.cells #[typeHandle Try.prog 29, typeHandle Try.prog 56, typeHandle Try.prog 47, strVal ""] 79)) := by kernel_rfl
theorem am_not (v : Value) (w : World) : (Instr.typeAssert (.iface 40 v) 29 47 false).run Try.prog w = .halt (.panic (.iface 15 (.pointer (some ⟨w.heap.size, 0, none⟩)))) (w.alloc (.cells #[typeHandle Try.prog 29, typeHandle Try.prog 40, typeHandle Try.prog 47, strVal ""] 79)) := by kernel_rfl
theorem am_neg (v : Value) (w : World) : (Instr.typeAssert (.iface 57 v) 29 47 false).run Try.prog w = .halt (.panic (.iface 15 (.pointer (some ⟨w.heap.size, 0, none⟩)))) (w.alloc (.cells #[typeHandle Try.prog 29, typeHandle Try.prog 57, typeHandle Try.prog 47, strVal ""] 79)) := by kernel_rfl
theorem am_bin (v : Value) (w : World) : (Instr.typeAssert (.iface 38 v) 29 47 false).run Try.prog w = .halt (.panic (.iface 15 (.pointer (some ⟨w.heap.size, 0, none⟩)))) (w.alloc (.cells #[typeHandle Try.prog 29, typeHandle Try.prog 38, typeHandle Try.prog 47, strVal ""] 79)) := by kernel_rfl
theorem must_nil (w : World) : Calls Try.prog 25 #[.nilIface] w fun e w' => (∃ u pv, e = .panicked [{ v := .iface u pv, recovered := false }]) ∧ Below w.heap.size w w' := by
  have h := am_nil
  go_enter Try.func25, Try.ntmps25
  go_wp2
  exact ⟨rfl, ⟨_, _, rfl⟩, ((Below.refl _ _).alloc (Nat.le_refl _) _).alloc (by simp) _⟩
theorem must_ref (x : Value) (w : World) : Calls Try.prog 25 #[.iface 56 x] w fun e w' => (∃ u pv, e = .panicked [{ v := .iface u pv, recovered := false }]) ∧ Below w.heap.size w w' := by
  have h := am_ref
  go_enter Try.func25, Try.ntmps25
  go_wp2
  exact ⟨rfl, ⟨_, _, rfl⟩, ((Below.refl _ _).alloc (Nat.le_refl _) _).alloc (by simp) _⟩
theorem must_not (x : Value) (w : World) : Calls Try.prog 25 #[.iface 40 x] w fun e w' => (∃ u pv, e = .panicked [{ v := .iface u pv, recovered := false }]) ∧ Below w.heap.size w w' := by
  have h := am_not
  go_enter Try.func25, Try.ntmps25
  go_wp2
  exact ⟨rfl, ⟨_, _, rfl⟩, ((Below.refl _ _).alloc (Nat.le_refl _) _).alloc (by simp) _⟩
theorem must_neg (x : Value) (w : World) : Calls Try.prog 25 #[.iface 57 x] w fun e w' => (∃ u pv, e = .panicked [{ v := .iface u pv, recovered := false }]) ∧ Below w.heap.size w w' := by
  have h := am_neg
  go_enter Try.func25, Try.ntmps25
  go_wp2
  exact ⟨rfl, ⟨_, _, rfl⟩, ((Below.refl _ _).alloc (Nat.le_refl _) _).alloc (by simp) _⟩
theorem must_bin (x : Value) (w : World) : Calls Try.prog 25 #[.iface 38 x] w fun e w' => (∃ u pv, e = .panicked [{ v := .iface u pv, recovered := false }]) ∧ Below w.heap.size w w' := by
  have h := am_bin
  go_enter Try.func25, Try.ntmps25
  go_wp2
  exact ⟨rfl, ⟨_, _, rfl⟩, ((Below.refl _ _).alloc (Nat.le_refl _) _).alloc (by simp) _⟩
theorem fld_N (a : Value) (w : World) : (Instr.field 47 (.agg #[a]) 0).run Try.prog w = .ok a w := by kernel_rfl
theorem must_falls {v : Value} {w : World} (h : Calls Try.prog 25 #[v] w fun e w' => (∃ u pv, e = .panicked [{ v := .iface u pv, recovered := false }]) ∧ Below w.heap.size w w') :
    Calls Try.prog 21 #[v] w fun e w' => (∃ u pv, e = .panicked [{ v := .iface u pv, recovered := false }]) ∧ Below w.heap.size w w' := by
  go_enter Try.func21, Try.ntmps21
  go_wp2_with (first
    | (go_at_call 25; refine h.mono ?_; rintro e w1 ⟨⟨u, pv, rfl⟩, b1⟩))
  exact ⟨rfl, ⟨_, _, rfl⟩, b1⟩
theorem mustP : MustP where
  lit := fun n w => by
    have h := must_lit n w
    have hf := fld_N
    go_enter Try.func21, Try.ntmps21
    go_wp2_with (first
      | (go_at_call 25; refine h.mono ?_; rintro e w1 ⟨rfl, b1⟩))
    go_ret
    exact ⟨rfl, b1⟩
  none := fun w => must_falls (must_nil w)
  other := fun t x w ht => by
    rcases ht with rfl | rfl | rfl | rfl
    · exact must_falls (must_ref x w)
    · exact must_falls (must_not x w)
    · exact must_falls (must_neg x w)
    · exact must_falls (must_bin x w)
theorem exprMusts_any {w : World} {d : Nat} {t : T d} {v : Value} (h : RdT (fun _ => True) w d t v) :
    Calls Try.prog 4 #[v] w fun r w' => r = .returned (.bool true) ∧ Below w.heap.size w w' := exprMusts_of evalP mustP h
end Go.Proofs.Ytjbfhpgiobddoaa
