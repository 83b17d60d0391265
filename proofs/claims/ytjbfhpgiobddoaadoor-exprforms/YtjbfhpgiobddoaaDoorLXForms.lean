/- The walk of ExprForms, of what is asked of the program's calls. -/
import Derived.Test.YtjbfhpgiobddoaaDoorExP
import Derived.Test.YtjbfhpgiobddoaaDoorExA
import Derived.Test.YtjbfhpgiobddoaaDoorExD
import Derived.Test.YtjbfhpgiobddoaaDoorExI
import Derived.Deep.RegionHeld
import Derived.Deep.DrawnRows
import Derived.BigQuiet
import Derived.Deep.QuietTactic
namespace Go.Proofs.YtjbfhpgiobddoaaDoor
open Go.RowKit Go.Lib
set_option linter.unusedSimpArgs false
set_option linter.unusedVariables false
attribute [local go_sem ↓] Go.wp_at_zero Go.wp_at_succ

/-- The program's Nodes answers as the document says. -/
def NodesP : Prop := ∀ (d : Nat) (t : T d) (w : World), Cl d t → cnt d t ≤ 2000 → Calls Tryd.prog 12 #[exV d t] w fun r w' => r = .returned (.int .i64 (ndC d t : Int)) ∧ Below w.heap.size w w'


theorem kindLit (cs : Array Value) (w : World) : Calls Tryd.prog 93 #[.agg cs] w fun r w' => r = .returned (.int .i64 1) ∧ Below w.heap.size w w' := by
  go_enter Tryd.func93, Tryd.ntmps93
  go_wp2
  go_ret
  exact ⟨rfl, (Below.refl _ _).alloc (Nat.le_refl _) _⟩
theorem kindRef (cs : Array Value) (w : World) : Calls Tryd.prog 95 #[.agg cs] w fun r w' => r = .returned (.int .i64 2) ∧ Below w.heap.size w w' := by
  go_enter Tryd.func95, Tryd.ntmps95
  go_wp2
  go_ret
  exact ⟨rfl, (Below.refl _ _).alloc (Nat.le_refl _) _⟩
theorem kindNot (cs : Array Value) (w : World) : Calls Tryd.prog 96 #[.agg cs] w fun r w' => r = .returned (.int .i64 3) ∧ Below w.heap.size w w' := by
  go_enter Tryd.func96, Tryd.ntmps96
  go_wp2
  go_ret
  exact ⟨rfl, (Below.refl _ _).alloc (Nat.le_refl _) _⟩
theorem kindNeg (cs : Array Value) (w : World) : Calls Tryd.prog 97 #[.agg cs] w fun r w' => r = .returned (.int .i64 4) ∧ Below w.heap.size w w' := by
  go_enter Tryd.func97, Tryd.ntmps97
  go_wp2
  go_ret
  exact ⟨rfl, (Below.refl _ _).alloc (Nat.le_refl _) _⟩
theorem kindBin (cs : Array Value) (w : World) : Calls Tryd.prog 94 #[.agg cs] w fun r w' => r = .returned (.int .i64 5) ∧ Below w.heap.size w w' := by
  go_enter Tryd.func94, Tryd.ntmps94
  go_wp2
  go_ret
  exact ⟨rfl, (Below.refl _ _).alloc (Nat.le_refl _) _⟩

set_option maxRecDepth 100000 in
set_option maxHeartbeats 8000000 in
theorem exprForms_of (G : EvalP) (GF : FormedP) (GN : NodesP) {w : World} (hT : Tabs w) {d : Nat} {t : T d} {v : Value} (h : RdT (fun _ => True) w d t v) :
    Calls Tryd.prog 3 #[v] w fun r w' => r = .returned (.bool true) ∧ Below w.heap.size w w' := by
  match d, t, h with
  | 0, t, _ => exact Empty.elim t
  | d + 1, t, h =>
  obtain ⟨k, n, s, ps, rfl⟩ := T.open t
  have h0 := h
  obtain ⟨sl, rfl, _⟩ := rdT_mk.1 h
  clear h
  have bb := (Below.refl w.heap.size w).alloc (Nat.le_refl _) (.cells #[.int .i64 k, .int .i64 n, .string s, sl] 24)
  have hA := At4.new w (.int .i64 k) (.int .i64 n) (.string s) sl 24
  have h1 := fun w1 => awakeX G w1
  have h2 := fun w1 (b : Below w.heap.size w w1) => refSmallTop_any (RdT.below b (Nat.le_refl _) h0)
  by_cases hsm : 0 ≤ sml (d + 1) (mkT k n s ps) 0 200
  case neg =>
    simp only [decide_eq_false hsm] at h2
    clear hsm
    have s1 := h1 (w.alloc (.cells #[.int .i64 k, .int .i64 n, .string s, sl] 24))
    go_enter Tryd.func3, Tryd.ntmps3
    go_wp2_with (first
      | (go_at_call 6; refine s1.mono ?_; rintro r wn ⟨rfl, bn⟩; have bb := bthen bb bn; have hA := hA.on bn; obtain ⟨y0, y1, y2, y3⟩ := id hA; have s2 := h2 wn bb; clear s1)
      | (go_at_call 7; refine s2.mono ?_; rintro r wn ⟨rfl, bn⟩; have bb := bthen bb bn; have hA := hA.on bn; obtain ⟨y0, y1, y2, y3⟩ := id hA; have s3 := h1 wn; clear s2)
      | (go_at_call 6; refine s3.mono ?_; rintro r wn ⟨rfl, bn⟩; have bb := bthen bb bn; have hA := hA.on bn; obtain ⟨y0, y1, y2, y3⟩ := id hA; clear s3))
    go_ret
    exact ⟨rfl, bb⟩
  simp only [decide_eq_true hsm] at h2
  obtain ⟨hc1, hc2⟩ := small_cln hsm
  have hcl := cl_cln (d + 1) (mkT k n s ps)
  have h5 := fun w1 (b : Below w.heap.size w w1) => theirs_any (d + 1) _ _ _ w1 (RdT.below b (Nat.le_refl _) h0)
  have h7 := fun w1 (b : Below w.heap.size w w1) => clean_any (d + 1) _ _ _ w1 (RdT.below b (Nat.le_refl _) h0)
  have h6 := fun w1 => GF _ _ w1 hcl (Nat.le_trans hc1 (by omega)) hc2
  have h8 := fun w1 => GN _ _ w1 hcl (Nat.le_trans hc1 (by omega))
  have h9 := fun w1 (b : Below w.heap.size w w1) (lo : Nat) (u : Value) (hu : RdT (fun b => lo ≤ b) w1 (d + 2) (cln (d + 1) (mkT k n s ps)) u) => formed_any (hT.below b (Nat.le_refl _)) hu hc1 hc2
  have h10 := fun w1 (lo : Nat) (u : Value) (hu : RdT (fun b => lo ≤ b) w1 (d + 2) (cln (d + 1) (mkT k n s ps)) u) => nodes_any (d + 2) _ _ u w1 hu hc1
  rw [exV_cln] at h6 h8
  obtain ⟨f, hf⟩ : ∃ f, fmC (d + 2) (cln (d + 1) (mkT k n s ps)) = f := ⟨_, rfl⟩
  obtain ⟨m, hm⟩ : ∃ m, ndC (d + 2) (cln (d + 1) (mkT k n s ps)) = m := ⟨_, rfl⟩
  obtain ⟨c, hcc⟩ : ∃ c, cln (d + 1) (mkT k n s ps) = c := ⟨_, rfl⟩
  simp only [hf] at h6 h9
  simp only [hm] at h8 h10
  simp only [hcc] at h7 h9 h10
  clear hsm hc1 hc2 hcl hf hm hcc hT
  rw [exV_mk] at h5 h6 h8
  by_cases k1 : k = 1
  · subst k1
    simp only [if_true] at h5 h6 h8
    have hmt : ∀ w : World, (method 231 48 (.agg #[.int .i64 n]) "Kind").run Tryd.prog w = .ok (93, .agg #[.int .i64 n]) w := fun _ => by kernel_rfl
    have hkd := fun w1 => kindLit #[.int .i64 n] w1
    clear h0
    have s1 := h1 (w.alloc (.cells #[.int .i64 1, .int .i64 n, .string s, sl] 24))
    go_enter Tryd.func3, Tryd.ntmps3
    go_wp2_with (first
      | (go_at_call 6; refine s1.mono ?_; rintro r wn ⟨rfl, bn⟩; have bb := bthen bb bn; have hA := hA.on bn; obtain ⟨y0, y1, y2, y3⟩ := id hA; have s2 := h2 wn bb; clear s1)
      | (go_at_call 7; refine s2.mono ?_; rintro r wn ⟨rfl, bn⟩; have bb := bthen bb bn; have hA := hA.on bn; obtain ⟨y0, y1, y2, y3⟩ := id hA; have s3 := h5 wn bb; clear s2)
      | (go_at_call 8; refine s3.mono ?_; rintro r wn ⟨rfl, bn⟩; have bb := bthen bb bn; have hA := hA.on bn; obtain ⟨y0, y1, y2, y3⟩ := id hA; clear s3))
    have bd : Below wn.heap.size wn wn.drew := (Below.refl _ _).drew
    have bb := bthen bb bd
    have hA := hA.on bd
    clear y0 y1 y2 y3 h1 h2 h5
    go_region_held (fun w' => w'.cell? ⟨w.heap.size, 0, none⟩ = some (.int .i64 1) ∧ w'.cell? ⟨w.heap.size, 1, none⟩ = some (.int .i64 n) ∧ w'.cell? ⟨w.heap.size, 2, none⟩ = some (.string s) ∧ w'.cell? ⟨w.heap.size, 3, none⟩ = some sl)
      (first | exact ⟨hA.1, hA.2.1, hA.2.2.1, hA.2.2.2⟩ | go_keep)
      (first
        | (go_at_call 93; refine (hkd _).mono ?_; rintro r wn ⟨rfl, bn⟩; have bb := bthen bb bn; have hA := hA.on bn))
    go_wp2
    have bd : Below wn.heap.size wn wn.drew := (Below.refl _ _).drew
    have bb := bthen bb bd
    have hA := hA.on bd
    have s1 := h6 wn.drew
    go_region_held (fun w' => w'.cell? ⟨w.heap.size, 0, none⟩ = some (.int .i64 1) ∧ w'.cell? ⟨w.heap.size, 1, none⟩ = some (.int .i64 n) ∧ w'.cell? ⟨w.heap.size, 2, none⟩ = some (.string s) ∧ w'.cell? ⟨w.heap.size, 3, none⟩ = some sl)
      (first | exact ⟨hA.1, hA.2.1, hA.2.2.1, hA.2.2.2⟩ | go_keep)
      (first
        | (go_at_call 9; refine s1.mono ?_; rintro r wn ⟨rfl, bn⟩; have bb := bthen bb bn; have hA := hA.on bn; have s2 := h7 wn bb; clear s1)
        | (go_at_call 11; refine s2.mono ?_; rintro r wn ⟨x1, rfl, hx1, bn⟩; have bb := bthen bb bn; have hA := hA.on bn; have s3 := h9 wn bb _ x1 hx1; clear s2)
        | (go_at_call 10; refine s3.mono ?_; rintro r wn ⟨rfl, bn⟩; have bb := bthen bb bn; have hA := hA.on bn; have s4 := h8 wn; clear s3)
        | (go_at_call 12; refine s4.mono ?_; rintro r wn ⟨rfl, bn⟩; have bb := bthen bb bn; have hA := hA.on bn; have s5 := h7 wn bb; clear s4)
        | (go_at_call 11; refine s5.mono ?_; rintro r wn ⟨x2, rfl, hx2, bn⟩; have bb := bthen bb bn; have hA := hA.on bn; have s6 := h10 wn _ x2 hx2; clear s5)
        | (go_at_call 13; refine s6.mono ?_; rintro r wn ⟨rfl, bn⟩; have bb := bthen bb bn; have hA := hA.on bn; clear s6))
    go_wp2
    go_ret
    exact ⟨ret_bool (by simp), bb⟩
  by_cases k2 : k = 2
  · subst k2
    simp only [if_true, if_false, show ¬ (2 : Int) = 1 by decide] at h5 h6 h8
    have hmt : ∀ w : World, (method 231 54 (.agg #[.string s]) "Kind").run Tryd.prog w = .ok (95, .agg #[.string s]) w := fun _ => by kernel_rfl
    have hkd := fun w1 => kindRef #[.string s] w1
    clear h0
    have s1 := h1 (w.alloc (.cells #[.int .i64 2, .int .i64 n, .string s, sl] 24))
    go_enter Tryd.func3, Tryd.ntmps3
    go_wp2_with (first
      | (go_at_call 6; refine s1.mono ?_; rintro r wn ⟨rfl, bn⟩; have bb := bthen bb bn; have hA := hA.on bn; obtain ⟨y0, y1, y2, y3⟩ := id hA; have s2 := h2 wn bb; clear s1)
      | (go_at_call 7; refine s2.mono ?_; rintro r wn ⟨rfl, bn⟩; have bb := bthen bb bn; have hA := hA.on bn; obtain ⟨y0, y1, y2, y3⟩ := id hA; have s3 := h5 wn bb; clear s2)
      | (go_at_call 8; refine s3.mono ?_; rintro r wn ⟨rfl, bn⟩; have bb := bthen bb bn; have hA := hA.on bn; obtain ⟨y0, y1, y2, y3⟩ := id hA; clear s3))
    have bd : Below wn.heap.size wn wn.drew := (Below.refl _ _).drew
    have bb := bthen bb bd
    have hA := hA.on bd
    clear y0 y1 y2 y3 h1 h2 h5
    go_region_held (fun w' => w'.cell? ⟨w.heap.size, 0, none⟩ = some (.int .i64 2) ∧ w'.cell? ⟨w.heap.size, 1, none⟩ = some (.int .i64 n) ∧ w'.cell? ⟨w.heap.size, 2, none⟩ = some (.string s) ∧ w'.cell? ⟨w.heap.size, 3, none⟩ = some sl)
      (first | exact ⟨hA.1, hA.2.1, hA.2.2.1, hA.2.2.2⟩ | go_keep)
      (first
        | (go_at_call 95; refine (hkd _).mono ?_; rintro r wn ⟨rfl, bn⟩; have bb := bthen bb bn; have hA := hA.on bn))
    go_wp2
    have bd : Below wn.heap.size wn wn.drew := (Below.refl _ _).drew
    have bb := bthen bb bd
    have hA := hA.on bd
    have s1 := h6 wn.drew
    go_region_held (fun w' => w'.cell? ⟨w.heap.size, 0, none⟩ = some (.int .i64 2) ∧ w'.cell? ⟨w.heap.size, 1, none⟩ = some (.int .i64 n) ∧ w'.cell? ⟨w.heap.size, 2, none⟩ = some (.string s) ∧ w'.cell? ⟨w.heap.size, 3, none⟩ = some sl)
      (first | exact ⟨hA.1, hA.2.1, hA.2.2.1, hA.2.2.2⟩ | go_keep)
      (first
        | (go_at_call 9; refine s1.mono ?_; rintro r wn ⟨rfl, bn⟩; have bb := bthen bb bn; have hA := hA.on bn; have s2 := h7 wn bb; clear s1)
        | (go_at_call 11; refine s2.mono ?_; rintro r wn ⟨x1, rfl, hx1, bn⟩; have bb := bthen bb bn; have hA := hA.on bn; have s3 := h9 wn bb _ x1 hx1; clear s2)
        | (go_at_call 10; refine s3.mono ?_; rintro r wn ⟨rfl, bn⟩; have bb := bthen bb bn; have hA := hA.on bn; have s4 := h8 wn; clear s3)
        | (go_at_call 12; refine s4.mono ?_; rintro r wn ⟨rfl, bn⟩; have bb := bthen bb bn; have hA := hA.on bn; have s5 := h7 wn bb; clear s4)
        | (go_at_call 11; refine s5.mono ?_; rintro r wn ⟨x2, rfl, hx2, bn⟩; have bb := bthen bb bn; have hA := hA.on bn; have s6 := h10 wn _ x2 hx2; clear s5)
        | (go_at_call 13; refine s6.mono ?_; rintro r wn ⟨rfl, bn⟩; have bb := bthen bb bn; have hA := hA.on bn; clear s6))
    go_wp2
    go_ret
    exact ⟨ret_bool (by simp), bb⟩
  by_cases k3 : k = 3
  · subst k3
    simp only [if_true, if_false, show ¬ (3 : Int) = 1 by decide, show ¬ (3 : Int) = 2 by decide] at h5 h6 h8
    obtain ⟨x0, hx0⟩ : ∃ x, exP ps 0 = x := ⟨_, rfl⟩
    simp only [hx0] at h5 h6 h8
    have hmt : ∀ w : World, (method 231 56 (.agg #[x0]) "Kind").run Tryd.prog w = .ok (96, .agg #[x0]) w := fun _ => by kernel_rfl
    have hkd := fun w1 => kindNot #[x0] w1
    clear hx0 h0
    have s1 := h1 (w.alloc (.cells #[.int .i64 3, .int .i64 n, .string s, sl] 24))
    go_enter Tryd.func3, Tryd.ntmps3
    go_wp2_with (first
      | (go_at_call 6; refine s1.mono ?_; rintro r wn ⟨rfl, bn⟩; have bb := bthen bb bn; have hA := hA.on bn; obtain ⟨y0, y1, y2, y3⟩ := id hA; have s2 := h2 wn bb; clear s1)
      | (go_at_call 7; refine s2.mono ?_; rintro r wn ⟨rfl, bn⟩; have bb := bthen bb bn; have hA := hA.on bn; obtain ⟨y0, y1, y2, y3⟩ := id hA; have s3 := h5 wn bb; clear s2)
      | (go_at_call 8; refine s3.mono ?_; rintro r wn ⟨rfl, bn⟩; have bb := bthen bb bn; have hA := hA.on bn; obtain ⟨y0, y1, y2, y3⟩ := id hA; clear s3))
    have bd : Below wn.heap.size wn wn.drew := (Below.refl _ _).drew
    have bb := bthen bb bd
    have hA := hA.on bd
    clear y0 y1 y2 y3 h1 h2 h5
    go_region_held (fun w' => w'.cell? ⟨w.heap.size, 0, none⟩ = some (.int .i64 3) ∧ w'.cell? ⟨w.heap.size, 1, none⟩ = some (.int .i64 n) ∧ w'.cell? ⟨w.heap.size, 2, none⟩ = some (.string s) ∧ w'.cell? ⟨w.heap.size, 3, none⟩ = some sl)
      (first | exact ⟨hA.1, hA.2.1, hA.2.2.1, hA.2.2.2⟩ | go_keep)
      (first
        | (go_at_call 96; refine (hkd _).mono ?_; rintro r wn ⟨rfl, bn⟩; have bb := bthen bb bn; have hA := hA.on bn))
    go_wp2
    have bd : Below wn.heap.size wn wn.drew := (Below.refl _ _).drew
    have bb := bthen bb bd
    have hA := hA.on bd
    have s1 := h6 wn.drew
    go_region_held (fun w' => w'.cell? ⟨w.heap.size, 0, none⟩ = some (.int .i64 3) ∧ w'.cell? ⟨w.heap.size, 1, none⟩ = some (.int .i64 n) ∧ w'.cell? ⟨w.heap.size, 2, none⟩ = some (.string s) ∧ w'.cell? ⟨w.heap.size, 3, none⟩ = some sl)
      (first | exact ⟨hA.1, hA.2.1, hA.2.2.1, hA.2.2.2⟩ | go_keep)
      (first
        | (go_at_call 9; refine s1.mono ?_; rintro r wn ⟨rfl, bn⟩; have bb := bthen bb bn; have hA := hA.on bn; have s2 := h7 wn bb; clear s1)
        | (go_at_call 11; refine s2.mono ?_; rintro r wn ⟨x1, rfl, hx1, bn⟩; have bb := bthen bb bn; have hA := hA.on bn; have s3 := h9 wn bb _ x1 hx1; clear s2)
        | (go_at_call 10; refine s3.mono ?_; rintro r wn ⟨rfl, bn⟩; have bb := bthen bb bn; have hA := hA.on bn; have s4 := h8 wn; clear s3)
        | (go_at_call 12; refine s4.mono ?_; rintro r wn ⟨rfl, bn⟩; have bb := bthen bb bn; have hA := hA.on bn; have s5 := h7 wn bb; clear s4)
        | (go_at_call 11; refine s5.mono ?_; rintro r wn ⟨x2, rfl, hx2, bn⟩; have bb := bthen bb bn; have hA := hA.on bn; have s6 := h10 wn _ x2 hx2; clear s5)
        | (go_at_call 13; refine s6.mono ?_; rintro r wn ⟨rfl, bn⟩; have bb := bthen bb bn; have hA := hA.on bn; clear s6))
    go_wp2
    go_ret
    exact ⟨ret_bool (by simp), bb⟩
  by_cases k4 : k = 4
  · subst k4
    simp only [if_true, if_false, show ¬ (4 : Int) = 1 by decide, show ¬ (4 : Int) = 2 by decide, show ¬ (4 : Int) = 3 by decide] at h5 h6 h8
    obtain ⟨x0, hx0⟩ : ∃ x, exP ps 0 = x := ⟨_, rfl⟩
    simp only [hx0] at h5 h6 h8
    have hmt : ∀ w : World, (method 231 57 (.agg #[x0]) "Kind").run Tryd.prog w = .ok (97, .agg #[x0]) w := fun _ => by kernel_rfl
    have hkd := fun w1 => kindNeg #[x0] w1
    clear hx0 h0
    have s1 := h1 (w.alloc (.cells #[.int .i64 4, .int .i64 n, .string s, sl] 24))
    go_enter Tryd.func3, Tryd.ntmps3
    go_wp2_with (first
      | (go_at_call 6; refine s1.mono ?_; rintro r wn ⟨rfl, bn⟩; have bb := bthen bb bn; have hA := hA.on bn; obtain ⟨y0, y1, y2, y3⟩ := id hA; have s2 := h2 wn bb; clear s1)
      | (go_at_call 7; refine s2.mono ?_; rintro r wn ⟨rfl, bn⟩; have bb := bthen bb bn; have hA := hA.on bn; obtain ⟨y0, y1, y2, y3⟩ := id hA; have s3 := h5 wn bb; clear s2)
      | (go_at_call 8; refine s3.mono ?_; rintro r wn ⟨rfl, bn⟩; have bb := bthen bb bn; have hA := hA.on bn; obtain ⟨y0, y1, y2, y3⟩ := id hA; clear s3))
    have bd : Below wn.heap.size wn wn.drew := (Below.refl _ _).drew
    have bb := bthen bb bd
    have hA := hA.on bd
    clear y0 y1 y2 y3 h1 h2 h5
    go_region_held (fun w' => w'.cell? ⟨w.heap.size, 0, none⟩ = some (.int .i64 4) ∧ w'.cell? ⟨w.heap.size, 1, none⟩ = some (.int .i64 n) ∧ w'.cell? ⟨w.heap.size, 2, none⟩ = some (.string s) ∧ w'.cell? ⟨w.heap.size, 3, none⟩ = some sl)
      (first | exact ⟨hA.1, hA.2.1, hA.2.2.1, hA.2.2.2⟩ | go_keep)
      (first
        | (go_at_call 97; refine (hkd _).mono ?_; rintro r wn ⟨rfl, bn⟩; have bb := bthen bb bn; have hA := hA.on bn))
    go_wp2
    have bd : Below wn.heap.size wn wn.drew := (Below.refl _ _).drew
    have bb := bthen bb bd
    have hA := hA.on bd
    have s1 := h6 wn.drew
    go_region_held (fun w' => w'.cell? ⟨w.heap.size, 0, none⟩ = some (.int .i64 4) ∧ w'.cell? ⟨w.heap.size, 1, none⟩ = some (.int .i64 n) ∧ w'.cell? ⟨w.heap.size, 2, none⟩ = some (.string s) ∧ w'.cell? ⟨w.heap.size, 3, none⟩ = some sl)
      (first | exact ⟨hA.1, hA.2.1, hA.2.2.1, hA.2.2.2⟩ | go_keep)
      (first
        | (go_at_call 9; refine s1.mono ?_; rintro r wn ⟨rfl, bn⟩; have bb := bthen bb bn; have hA := hA.on bn; have s2 := h7 wn bb; clear s1)
        | (go_at_call 11; refine s2.mono ?_; rintro r wn ⟨x1, rfl, hx1, bn⟩; have bb := bthen bb bn; have hA := hA.on bn; have s3 := h9 wn bb _ x1 hx1; clear s2)
        | (go_at_call 10; refine s3.mono ?_; rintro r wn ⟨rfl, bn⟩; have bb := bthen bb bn; have hA := hA.on bn; have s4 := h8 wn; clear s3)
        | (go_at_call 12; refine s4.mono ?_; rintro r wn ⟨rfl, bn⟩; have bb := bthen bb bn; have hA := hA.on bn; have s5 := h7 wn bb; clear s4)
        | (go_at_call 11; refine s5.mono ?_; rintro r wn ⟨x2, rfl, hx2, bn⟩; have bb := bthen bb bn; have hA := hA.on bn; have s6 := h10 wn _ x2 hx2; clear s5)
        | (go_at_call 13; refine s6.mono ?_; rintro r wn ⟨rfl, bn⟩; have bb := bthen bb bn; have hA := hA.on bn; clear s6))
    go_wp2
    go_ret
    exact ⟨ret_bool (by simp), bb⟩
  by_cases k5 : k = 5
  · subst k5
    simp only [if_true, if_false, show ¬ (5 : Int) = 1 by decide, show ¬ (5 : Int) = 2 by decide, show ¬ (5 : Int) = 3 by decide, show ¬ (5 : Int) = 4 by decide] at h5 h6 h8
    obtain ⟨x0, hx0⟩ : ∃ x, exP ps 0 = x := ⟨_, rfl⟩
    simp only [hx0] at h5 h6 h8
    obtain ⟨x1, hx1⟩ : ∃ x, exP ps 1 = x := ⟨_, rfl⟩
    simp only [hx1] at h5 h6 h8
    have hmt : ∀ w : World, (method 231 50 (.agg #[.string s, x0, x1]) "Kind").run Tryd.prog w = .ok (94, .agg #[.string s, x0, x1]) w := fun _ => by kernel_rfl
    have hkd := fun w1 => kindBin #[.string s, x0, x1] w1
    clear hx0 hx1 h0
    have s1 := h1 (w.alloc (.cells #[.int .i64 5, .int .i64 n, .string s, sl] 24))
    go_enter Tryd.func3, Tryd.ntmps3
    go_wp2_with (first
      | (go_at_call 6; refine s1.mono ?_; rintro r wn ⟨rfl, bn⟩; have bb := bthen bb bn; have hA := hA.on bn; obtain ⟨y0, y1, y2, y3⟩ := id hA; have s2 := h2 wn bb; clear s1)
      | (go_at_call 7; refine s2.mono ?_; rintro r wn ⟨rfl, bn⟩; have bb := bthen bb bn; have hA := hA.on bn; obtain ⟨y0, y1, y2, y3⟩ := id hA; have s3 := h5 wn bb; clear s2)
      | (go_at_call 8; refine s3.mono ?_; rintro r wn ⟨rfl, bn⟩; have bb := bthen bb bn; have hA := hA.on bn; obtain ⟨y0, y1, y2, y3⟩ := id hA; clear s3))
    have bd : Below wn.heap.size wn wn.drew := (Below.refl _ _).drew
    have bb := bthen bb bd
    have hA := hA.on bd
    clear y0 y1 y2 y3 h1 h2 h5
    go_region_held (fun w' => w'.cell? ⟨w.heap.size, 0, none⟩ = some (.int .i64 5) ∧ w'.cell? ⟨w.heap.size, 1, none⟩ = some (.int .i64 n) ∧ w'.cell? ⟨w.heap.size, 2, none⟩ = some (.string s) ∧ w'.cell? ⟨w.heap.size, 3, none⟩ = some sl)
      (first | exact ⟨hA.1, hA.2.1, hA.2.2.1, hA.2.2.2⟩ | go_keep)
      (first
        | (go_at_call 94; refine (hkd _).mono ?_; rintro r wn ⟨rfl, bn⟩; have bb := bthen bb bn; have hA := hA.on bn))
    go_wp2
    have bd : Below wn.heap.size wn wn.drew := (Below.refl _ _).drew
    have bb := bthen bb bd
    have hA := hA.on bd
    have s1 := h6 wn.drew
    go_region_held (fun w' => w'.cell? ⟨w.heap.size, 0, none⟩ = some (.int .i64 5) ∧ w'.cell? ⟨w.heap.size, 1, none⟩ = some (.int .i64 n) ∧ w'.cell? ⟨w.heap.size, 2, none⟩ = some (.string s) ∧ w'.cell? ⟨w.heap.size, 3, none⟩ = some sl)
      (first | exact ⟨hA.1, hA.2.1, hA.2.2.1, hA.2.2.2⟩ | go_keep)
      (first
        | (go_at_call 9; refine s1.mono ?_; rintro r wn ⟨rfl, bn⟩; have bb := bthen bb bn; have hA := hA.on bn; have s2 := h7 wn bb; clear s1)
        | (go_at_call 11; refine s2.mono ?_; rintro r wn ⟨x1, rfl, hx1, bn⟩; have bb := bthen bb bn; have hA := hA.on bn; have s3 := h9 wn bb _ x1 hx1; clear s2)
        | (go_at_call 10; refine s3.mono ?_; rintro r wn ⟨rfl, bn⟩; have bb := bthen bb bn; have hA := hA.on bn; have s4 := h8 wn; clear s3)
        | (go_at_call 12; refine s4.mono ?_; rintro r wn ⟨rfl, bn⟩; have bb := bthen bb bn; have hA := hA.on bn; have s5 := h7 wn bb; clear s4)
        | (go_at_call 11; refine s5.mono ?_; rintro r wn ⟨x2, rfl, hx2, bn⟩; have bb := bthen bb bn; have hA := hA.on bn; have s6 := h10 wn _ x2 hx2; clear s5)
        | (go_at_call 13; refine s6.mono ?_; rintro r wn ⟨rfl, bn⟩; have bb := bthen bb bn; have hA := hA.on bn; clear s6))
    go_wp2
    go_ret
    exact ⟨ret_bool (by simp), bb⟩
  simp only [if_neg k1, if_neg k2, if_neg k3, if_neg k4, if_neg k5] at h5 h6 h8
  have s1 := h1 (w.alloc (.cells #[.int .i64 k, .int .i64 n, .string s, sl] 24))
  go_enter Tryd.func3, Tryd.ntmps3
  go_wp2_with (first
    | (go_at_call 6; refine s1.mono ?_; rintro r wn ⟨rfl, bn⟩; have bb := bthen bb bn; have hA := hA.on bn; obtain ⟨y0, y1, y2, y3⟩ := id hA; have s2 := h2 wn bb; clear s1)
    | (go_at_call 7; refine s2.mono ?_; rintro r wn ⟨rfl, bn⟩; have bb := bthen bb bn; have hA := hA.on bn; obtain ⟨y0, y1, y2, y3⟩ := id hA; have s3 := h5 wn bb; clear s2)
    | (go_at_call 8; refine s3.mono ?_; rintro r wn ⟨rfl, bn⟩; have bb := bthen bb bn; have hA := hA.on bn; obtain ⟨y0, y1, y2, y3⟩ := id hA; clear s3))
  have bd : Below wn.heap.size wn wn.drew := (Below.refl _ _).drew
  have bb := bthen bb bd
  have hA := hA.on bd
  clear h1 h2 h5
  go_region
  go_wp2
  have bd : Below wn.drew.heap.size wn.drew wn.drew.drew := (Below.refl _ _).drew
  have bb := bthen bb bd
  have hA := hA.on bd
  have s1 := h6 wn.drew.drew
  go_region_held (fun w' => w'.cell? ⟨w.heap.size, 0, none⟩ = some (.int .i64 k) ∧ w'.cell? ⟨w.heap.size, 1, none⟩ = some (.int .i64 n) ∧ w'.cell? ⟨w.heap.size, 2, none⟩ = some (.string s) ∧ w'.cell? ⟨w.heap.size, 3, none⟩ = some sl)
    (first | exact ⟨hA.1, hA.2.1, hA.2.2.1, hA.2.2.2⟩ | go_keep)
    (first
      | (go_at_call 9; refine s1.mono ?_; rintro r wn ⟨rfl, bn⟩; have bb := bthen bb bn; have hA := hA.on bn; have s2 := h7 wn bb; clear s1)
      | (go_at_call 11; refine s2.mono ?_; rintro r wn ⟨x1, rfl, hx1, bn⟩; have bb := bthen bb bn; have hA := hA.on bn; have s3 := h9 wn bb _ x1 hx1; clear s2)
      | (go_at_call 10; refine s3.mono ?_; rintro r wn ⟨rfl, bn⟩; have bb := bthen bb bn; have hA := hA.on bn; have s4 := h8 wn; clear s3)
      | (go_at_call 12; refine s4.mono ?_; rintro r wn ⟨rfl, bn⟩; have bb := bthen bb bn; have hA := hA.on bn; have s5 := h7 wn bb; clear s4)
      | (go_at_call 11; refine s5.mono ?_; rintro r wn ⟨x2, rfl, hx2, bn⟩; have bb := bthen bb bn; have hA := hA.on bn; have s6 := h10 wn _ x2 hx2; clear s5)
      | (go_at_call 13; refine s6.mono ?_; rintro r wn ⟨rfl, bn⟩; have bb := bthen bb bn; have hA := hA.on bn; clear s6))
  go_wp2
  go_ret
  exact ⟨ret_bool (by simp), bb⟩
end Go.Proofs.YtjbfhpgiobddoaaDoor
