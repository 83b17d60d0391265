/- The walk of ExprSame, of what is asked of the program's calls. -/
import Derived.Test.YtjbfhpgiobddoaaExP
import Derived.Test.YtjbfhpgiobddoaaExA
import Derived.Test.YtjbfhpgiobddoaaExD
import Derived.Test.YtjbfhpgiobddoaaExN
import Derived.Deep.RegionHeld
import Derived.Deep.DrawnRows
namespace Go.Proofs.Ytjbfhpgiobddoaa
open Go.RowKit Go.Lib
set_option linter.unusedSimpArgs false
set_option linter.unusedVariables false
attribute [local go_sem ↓] Go.wp_at_zero Go.wp_at_succ

theorem samC_refl : ∀ (d : Nat) (t : T d), samC d d t t = true
  | 0, t => Empty.elim t
  | d + 1, t => by
    obtain ⟨k, n, s, ps, rfl⟩ := T.open t
    rw [samC_mk]
    have : ∀ l : List (T d), allz (samC d d) l l = true := fun l => by
      induction l with
      | nil => rfl
      | cons p r ih => show (samC d d p p && allz (samC d d) r r) = true; rw [samC_refl d p, ih]; rfl
    rw [this]
    simp

/-- The program's Same answers as the document says. -/
def SameP : Prop := ∀ (d e : Nat) (t : T d) (u : T e) (w : World), Cl d t → Cl e u → cnt d t ≤ 2000 → cnt e u ≤ 2000 →
  Calls Try.prog 8 #[exV d t, exV e u] w fun r w' => r = .returned (.bool (samC d e t u)) ∧ Below w.heap.size w w'

set_option maxRecDepth 100000 in
set_option maxHeartbeats 4000000 in
theorem exprSame_of (G : EvalP) (GS : SameP) {w : World} {d e : Nat} {t : T d} {u : T e} {v v' : Value} (h : RdT (fun _ => True) w d t v) (h' : RdT (fun _ => True) w e u v') :
    Calls Try.prog 3 #[v, v'] w fun r w' => r = .returned (.bool true) ∧ Below w.heap.size w w' := by
  match d, t, h, e, u, h' with
  | 0, t, _, _, _, _ => exact Empty.elim t
  | _ + 1, _, _, 0, u, _ => exact Empty.elim u
  | d + 1, t, h, e + 1, u, h' =>
  obtain ⟨k, n, s, ps, rfl⟩ := T.open t
  obtain ⟨k', n', s', qs, rfl⟩ := T.open u
  have h0 := h
  have h0' := h'
  obtain ⟨sl, rfl, _⟩ := rdT_mk.1 h
  obtain ⟨sl', rfl, _⟩ := rdT_mk.1 h'
  clear h h'
  have bb := ((Below.refl w.heap.size w).alloc (Nat.le_refl _) (.cells #[.int .i64 k, .int .i64 n, .string s, sl] 24)).alloc (by simp) (.cells #[.int .i64 k', .int .i64 n', .string s', sl'] 24)
  have hA := (At4.new w (.int .i64 k) (.int .i64 n) (.string s) sl 24).on ((Below.refl _ _).alloc (Nat.le_refl _) (.cells #[.int .i64 k', .int .i64 n', .string s', sl'] 24))
  have hB := At4.newAt (w.alloc (.cells #[.int .i64 k, .int .i64 n, .string s, sl] 24)) (.int .i64 k') (.int .i64 n') (.string s') sl' 24 (w.heap.size + 1) (by simp)
  have h1 := fun w1 => awakeX G w1
  have h2 := fun w1 (b : Below w.heap.size w w1) => refSmallTop_any (RdT.below b (Nat.le_refl _) h0)
  have h3 := fun w1 (b : Below w.heap.size w w1) => refSmallTop_any (RdT.below b (Nat.le_refl _) h0')
  by_cases hsm : 0 ≤ sml (d + 1) (mkT k n s ps) 0 200
  case neg =>
    simp only [decide_eq_false hsm] at h2
    clear h3 hsm
    have s1 := h1 ((w.alloc (.cells #[.int .i64 k, .int .i64 n, .string s, sl] 24)).alloc (.cells #[.int .i64 k', .int .i64 n', .string s', sl'] 24))
    go_enter Try.func3, Try.ntmps3
    go_wp2_with (first
      | (go_at_call 6; refine s1.mono ?_; rintro r wn ⟨rfl, bn⟩; have bb := bthen bb bn; have hA := hA.on bn; have hB := hB.on bn; obtain ⟨y0, y1, y2, y3⟩ := id hA; obtain ⟨z0, z1, z2, z3⟩ := id hB; have s2 := h2 wn bb; clear s1)
      | (go_at_call 7; refine s2.mono ?_; rintro r wn ⟨rfl, bn⟩; have bb := bthen bb bn; have hA := hA.on bn; have hB := hB.on bn; obtain ⟨y0, y1, y2, y3⟩ := id hA; obtain ⟨z0, z1, z2, z3⟩ := id hB; have s3 := h1 wn; clear s2)
      | (go_at_call 6; refine s3.mono ?_; rintro r wn ⟨rfl, bn⟩; have bb := bthen bb bn; have hA := hA.on bn; have hB := hB.on bn; obtain ⟨y0, y1, y2, y3⟩ := id hA; obtain ⟨z0, z1, z2, z3⟩ := id hB; clear s3))
    go_ret
    exact ⟨rfl, bb⟩
  simp only [decide_eq_true hsm] at h2
  by_cases hsm' : 0 ≤ sml (e + 1) (mkT k' n' s' qs) 0 200
  case neg =>
    simp only [decide_eq_false hsm'] at h3
    clear hsm hsm'
    have s1 := h1 ((w.alloc (.cells #[.int .i64 k, .int .i64 n, .string s, sl] 24)).alloc (.cells #[.int .i64 k', .int .i64 n', .string s', sl'] 24))
    go_enter Try.func3, Try.ntmps3
    go_wp2_with (first
      | (go_at_call 6; refine s1.mono ?_; rintro r wn ⟨rfl, bn⟩; have bb := bthen bb bn; have hA := hA.on bn; have hB := hB.on bn; obtain ⟨y0, y1, y2, y3⟩ := id hA; obtain ⟨z0, z1, z2, z3⟩ := id hB; have s2 := h2 wn bb; clear s1)
      | (go_at_call 7; refine s2.mono ?_; rintro r wn ⟨rfl, bn⟩; have bb := bthen bb bn; have hA := hA.on bn; have hB := hB.on bn; obtain ⟨y0, y1, y2, y3⟩ := id hA; obtain ⟨z0, z1, z2, z3⟩ := id hB; have s3 := h3 wn bb; clear s2)
      | (go_at_call 7; refine s3.mono ?_; rintro r wn ⟨rfl, bn⟩; have bb := bthen bb bn; have hA := hA.on bn; have hB := hB.on bn; obtain ⟨y0, y1, y2, y3⟩ := id hA; obtain ⟨z0, z1, z2, z3⟩ := id hB; have s4 := h1 wn; clear s3)
      | (go_at_call 6; refine s4.mono ?_; rintro r wn ⟨rfl, bn⟩; have bb := bthen bb bn; have hA := hA.on bn; have hB := hB.on bn; obtain ⟨y0, y1, y2, y3⟩ := id hA; obtain ⟨z0, z1, z2, z3⟩ := id hB; clear s4))
    go_ret
    exact ⟨rfl, bb⟩
  simp only [decide_eq_true hsm'] at h3
  obtain ⟨hc1, _⟩ := small_cln hsm
  obtain ⟨hc1', _⟩ := small_cln hsm'
  have hcl := cl_cln (d + 1) (mkT k n s ps)
  have hcl' := cl_cln (e + 1) (mkT k' n' s' qs)
  have h5 := fun w1 (b : Below w.heap.size w w1) => theirs_any (d + 1) _ _ _ w1 (RdT.below b (Nat.le_refl _) h0)
  have h6 := fun w1 (b : Below w.heap.size w w1) => theirs_any (e + 1) _ _ _ w1 (RdT.below b (Nat.le_refl _) h0')
  have h7 := fun w1 (b : Below w.heap.size w w1) => clean_any (d + 1) _ _ _ w1 (RdT.below b (Nat.le_refl _) h0)
  have h8 := fun w1 (b : Below w.heap.size w w1) => clean_any (e + 1) _ _ _ w1 (RdT.below b (Nat.le_refl _) h0')
  have h9 := fun w1 => GS _ _ _ _ w1 hcl hcl' (by omega) (by omega)
  have h10 := fun w1 => GS _ _ _ _ w1 hcl hcl (by omega) (by omega)
  simp only [samC_refl] at h10
  rw [exV_cln, exV_cln] at h9
  rw [exV_cln] at h10
  have h11 := fun w1 (lo lo' : Nat) (x y : Value) (hx : RdT (fun b => lo ≤ b) w1 (d + 2) (cln (d + 1) (mkT k n s ps)) x) (hy : RdT (fun b => lo' ≤ b) w1 (e + 2) (cln (e + 1) (mkT k' n' s' qs)) y) => same_any (d + 2) _ _ _ _ _ _ _ w1 hx hy
  obtain ⟨z, hz⟩ : ∃ z, samC (d + 2) (e + 2) (cln (d + 1) (mkT k n s ps)) (cln (e + 1) (mkT k' n' s' qs)) = z := ⟨_, rfl⟩
  simp only [hz] at h9 h11
  obtain ⟨ex, hex⟩ : ∃ ex, exV (d + 1) (mkT k n s ps) = ex := ⟨_, rfl⟩
  obtain ⟨ex', hex'⟩ : ∃ ex, exV (e + 1) (mkT k' n' s' qs) = ex := ⟨_, rfl⟩
  simp only [hex] at h5 h9 h10
  simp only [hex'] at h6 h9
  clear hsm hsm' hc1 hc1' hcl hcl' hz hex hex'
  have s1 := h1 ((w.alloc (.cells #[.int .i64 k, .int .i64 n, .string s, sl] 24)).alloc (.cells #[.int .i64 k', .int .i64 n', .string s', sl'] 24))
  go_enter Try.func3, Try.ntmps3
  go_wp2_with (first
    | (go_at_call 6; refine s1.mono ?_; rintro r wn ⟨rfl, bn⟩; have bb := bthen bb bn; have hA := hA.on bn; have hB := hB.on bn; obtain ⟨y0, y1, y2, y3⟩ := id hA; obtain ⟨z0, z1, z2, z3⟩ := id hB; have s2 := h2 wn bb; clear s1)
    | (go_at_call 7; refine s2.mono ?_; rintro r wn ⟨rfl, bn⟩; have bb := bthen bb bn; have hA := hA.on bn; have hB := hB.on bn; obtain ⟨y0, y1, y2, y3⟩ := id hA; obtain ⟨z0, z1, z2, z3⟩ := id hB; have s3 := h3 wn bb; clear s2)
    | (go_at_call 7; refine s3.mono ?_; rintro r wn ⟨rfl, bn⟩; have bb := bthen bb bn; have hA := hA.on bn; have hB := hB.on bn; obtain ⟨y0, y1, y2, y3⟩ := id hA; obtain ⟨z0, z1, z2, z3⟩ := id hB; clear s3))
  have bd : Below wn.heap.size wn wn.drew := (Below.refl _ _).drew
  have bb := bthen bb bd
  have hA := hA.on bd
  have hB := hB.on bd
  have s1 := h5 _ bb
  clear y0 y1 y2 y3 z0 z1 z2 z3 h1 h2 h3 h0 h0'
  go_region_held (fun w' => w'.cell? ⟨w.heap.size, 0, none⟩ = some (.int .i64 k) ∧ w'.cell? ⟨w.heap.size, 1, none⟩ = some (.int .i64 n) ∧ w'.cell? ⟨w.heap.size, 2, none⟩ = some (.string s) ∧ w'.cell? ⟨w.heap.size, 3, none⟩ = some sl ∧ w'.cell? ⟨w.heap.size + 1, 0, none⟩ = some (.int .i64 k') ∧ w'.cell? ⟨w.heap.size + 1, 1, none⟩ = some (.int .i64 n') ∧ w'.cell? ⟨w.heap.size + 1, 2, none⟩ = some (.string s') ∧ w'.cell? ⟨w.heap.size + 1, 3, none⟩ = some sl')
    (first | exact ⟨hA.1, hA.2.1, hA.2.2.1, hA.2.2.2, hB.1, hB.2.1, hB.2.2.1, hB.2.2.2⟩ | go_keep)
    (first
      | (go_at_call 9; refine s1.mono ?_; rintro r wn ⟨rfl, bn⟩; have bb := bthen bb bn; have hA := hA.on bn; have hB := hB.on bn; have s2 := h6 wn bb; clear s1)
      | (go_at_call 9; refine s2.mono ?_; rintro r wn ⟨rfl, bn⟩; have bb := bthen bb bn; have hA := hA.on bn; have hB := hB.on bn; have s3 := h9 wn; clear s2)
      | (go_at_call 8; refine s3.mono ?_; rintro r wn ⟨rfl, bn⟩; have bb := bthen bb bn; have hA := hA.on bn; have hB := hB.on bn; have s4 := h7 wn bb; clear s3)
      | (go_at_call 11; refine s4.mono ?_; rintro r wn ⟨x1, rfl, hx1, bn⟩; have bb := bthen bb bn; have hA := hA.on bn; have hB := hB.on bn; have s5 := h8 wn bb; clear s4)
      | (go_at_call 11; refine s5.mono ?_; rintro r wn ⟨x2, rfl, hx2, bn⟩; have bb := bthen bb bn; have hA := hA.on bn; have hB := hB.on bn; have hx1 := RdT.below bn (Nat.le_refl _) hx1; have s6 := h11 wn _ _ x1 x2 hx1 hx2; clear s5)
      | (go_at_call 10; refine s6.mono ?_; rintro r wn ⟨rfl, bn⟩; have bb := bthen bb bn; have hA := hA.on bn; have hB := hB.on bn; have s7 := h5 wn bb; clear s6)
      | (go_at_call 9; refine s7.mono ?_; rintro r wn ⟨rfl, bn⟩; have bb := bthen bb bn; have hA := hA.on bn; have hB := hB.on bn; have s8 := h5 wn bb; clear s7)
      | (go_at_call 9; refine s8.mono ?_; rintro r wn ⟨rfl, bn⟩; have bb := bthen bb bn; have hA := hA.on bn; have hB := hB.on bn; have s9 := h10 wn; clear s8)
      | (go_at_call 8; refine s9.mono ?_; rintro r wn ⟨rfl, bn⟩; have bb := bthen bb bn; have hA := hA.on bn; have hB := hB.on bn; clear s9))
  go_wp2
  go_ret
  exact ⟨ret_bool (by simp), bb⟩
end Go.Proofs.Ytjbfhpgiobddoaa
