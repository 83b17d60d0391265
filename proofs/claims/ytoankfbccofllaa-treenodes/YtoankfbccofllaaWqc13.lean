import Derived.Test.YtoankfbccofllaaRows
import Derived.Test.YtoankfbccofllaaWqc01
import Derived.Test.YtoankfbccofllaaWqc02
import Derived.Deep.RegionHeld
import Derived.Deep.DrawnRows
import Derived.Test.YtoankfbccofllaaWqc07

/- What Theirs makes of a tree. -/
namespace Go.Proofs.Ytoankfbccofllaa
open Go.RowKit
set_option linter.unusedSimpArgs false
set_option linter.unusedVariables false
attribute [local go_sem ↓] Go.wp_at_zero Go.wp_at_succ

def TheirsC (d : Nat) : Prop := ∀ (ok : Nat → Prop) (t : T d) (v : Value) (w : World), RdT ok w d t v → Calls Try.prog 32 #[v] w fun e w' => e = .returned (exV d t) ∧ Below w.heap.size w w'

theorem part_any {ok : Nat → Prop} {d : Nat} (IH : TheirsC d) (X i : Nat) (k n : Int) (s : ByteArray) (sl : Value) (ps : List (T d)) (w : World) (hA : At4 w X (.int .i64 k) (.int .i64 n) (.string s) sl) (hp : RdP ok w (RdT ok w d) ps sl) :
    Calls Try.prog 36 #[.int .i64 (i : Int), .pointer (some ⟨X, 0, none⟩)] w fun e w' => e = .returned (exP ps i) ∧ Below w.heap.size w w' := by
  obtain ⟨a, cap, rfl, hlc, hcm, hcell⟩ := hp.form
  obtain ⟨y0, y1, y2, y3⟩ := id hA
  by_cases hlt : i < ps.length
  · obtain ⟨b, off, c0, c1, c2, c3, rfl, hbl, hr, k0, k1, k2, k3⟩ := hcell i hlt
    have hcall := IH ok ps[i] _ w hr
    have he : exP ps i = exV d ps[i] := by unfold exP; rw [List.getD_eq_getElem?_getD, List.getElem?_map, List.getElem?_eq_getElem hlt]; rfl
    rw [he]
    have i1 : (i : Int) < (ps.length : Int) := by omega
    have i2 : (0 : Int) ≤ (i : Int) := by omega
    clear he hcell hr hp
    go_enter Try.func36, Try.ntmps36
    go_wp2_with (first
      | (go_at_call 32; refine hcall.mono ?_; rintro e w1 ⟨rfl, b1⟩))
    go_ret
    exact ⟨rfl, b1⟩
  · have he : exP ps i = .nilIface := by unfold exP; rw [List.getD_eq_getElem?_getD, List.getElem?_eq_none (by simp; omega)]; rfl
    rw [he]
    have i1 : ¬ (i : Int) < (ps.length : Int) := by omega
    clear he hcell hp
    go_enter Try.func36, Try.ntmps36
    go_wp2
    go_ret
    exact ⟨rfl, Below.refl _ _⟩

set_option maxRecDepth 100000 in
set_option maxHeartbeats 1000000 in
theorem theirs_step (d : Nat) (IH : TheirsC d) : TheirsC (d + 1) := by
  intro ok t v w h
  obtain ⟨k, n, s, ps, rfl⟩ := T.open t
  obtain ⟨sl, rfl, hp⟩ := rdT_mk.1 h
  rw [exV_mk]
  have hb0 := (Below.refl w.heap.size w).alloc (Nat.le_refl _) (.cells #[.int .i64 k, .int .i64 n, .string s, sl] 78)
  have hA := At4.new w (.int .i64 k) (.int .i64 n) (.string s) sl 78
  have hp0 : RdP ok (w.alloc (.cells #[.int .i64 k, .int .i64 n, .string s, sl] 78)) (RdT ok (w.alloc (.cells #[.int .i64 k, .int .i64 n, .string s, sl] 78)) d) ps sl := hp.below hb0 (Nat.le_refl _)
  have h0 := part_any IH w.heap.size 0 k n s sl ps _ hA hp0
  have h1 := fun w1 (b1 : Below (w.alloc (.cells #[.int .i64 k, .int .i64 n, .string s, sl] 78)).heap.size (w.alloc (.cells #[.int .i64 k, .int .i64 n, .string s, sl] 78)) w1) =>
    part_any IH w.heap.size 1 k n s sl ps w1 (hA.keepB b1 (by simp)) (hp0.below b1 (Nat.le_refl _))
  have hmf : ∀ (fn : Fn) (first cap : Array Value) (w : World), (Instr.makeFunc fn first cap).run Try.prog w = .ok (.func fn first cap) w := fun _ _ _ _ => rfl
  by_cases k1 : k = 1
  · subst k1
    rw [if_pos rfl]
    clear h0 h1 hp0 hA hp h
    go_enter Try.func32, Try.ntmps32
    go_wp2
    go_ret
    exact ⟨rfl, hb0⟩
  rw [if_neg k1]
  have e1 : (k == 1) = false := beq_eq_false_iff_ne.2 k1
  by_cases k2 : k = 2
  · subst k2
    rw [if_pos rfl]
    clear h0 h1 hp0 hA hp h k1 e1
    go_enter Try.func32, Try.ntmps32
    go_wp2
    go_ret
    exact ⟨rfl, hb0⟩
  rw [if_neg k2]
  have e2 : (k == 2) = false := beq_eq_false_iff_ne.2 k2
  by_cases k3 : k = 3
  · subst k3
    rw [if_pos rfl]
    have hf := exP_form ps 0
    obtain ⟨x0, hx0⟩ : ∃ x, exP ps 0 = x := ⟨_, rfl⟩
    rw [hx0] at h0 hf ⊢
    clear h1 hp0 hA hp h k1 k2 e1 e2 hx0
    rcases hf with rfl | ⟨u, x, rfl⟩
    · go_enter Try.func32, Try.ntmps32
      go_wp2_with (first
        | (go_at_call 36; refine h0.mono ?_; rintro e w1 ⟨rfl, b1⟩))
      go_ret
      exact ⟨rfl, hb0.trans (b1.mono hb0.size)⟩
    · go_enter Try.func32, Try.ntmps32
      go_wp2_with (first
        | (go_at_call 36; refine h0.mono ?_; rintro e w1 ⟨rfl, b1⟩))
      go_ret
      exact ⟨rfl, hb0.trans (b1.mono hb0.size)⟩
  rw [if_neg k3]
  have e3 : (k == 3) = false := beq_eq_false_iff_ne.2 k3
  by_cases k4 : k = 4
  · subst k4
    rw [if_pos rfl]
    have hf := exP_form ps 0
    obtain ⟨x0, hx0⟩ : ∃ x, exP ps 0 = x := ⟨_, rfl⟩
    rw [hx0] at h0 hf ⊢
    clear h1 hp0 hA hp h k1 k2 k3 e1 e2 e3 hx0
    rcases hf with rfl | ⟨u, x, rfl⟩
    · go_enter Try.func32, Try.ntmps32
      go_wp2_with (first
        | (go_at_call 36; refine h0.mono ?_; rintro e w1 ⟨rfl, b1⟩))
      go_ret
      exact ⟨rfl, hb0.trans (b1.mono hb0.size)⟩
    · go_enter Try.func32, Try.ntmps32
      go_wp2_with (first
        | (go_at_call 36; refine h0.mono ?_; rintro e w1 ⟨rfl, b1⟩))
      go_ret
      exact ⟨rfl, hb0.trans (b1.mono hb0.size)⟩
  rw [if_neg k4]
  have e4 : (k == 4) = false := beq_eq_false_iff_ne.2 k4
  by_cases k5 : k = 5
  · subst k5
    rw [if_pos rfl]
    have hf := exP_form ps 0
    have hg := exP_form ps 1
    have bd : Below (w.alloc (.cells #[.int .i64 5, .int .i64 n, .string s, sl] 78)).heap.size (w.alloc (.cells #[.int .i64 5, .int .i64 n, .string s, sl] 78)) (w.alloc (.cells #[.int .i64 5, .int .i64 n, .string s, sl] 78)).drew := (Below.refl _ _).drew
    have hA' := hA.keepB bd (by simp)
    have h0' := part_any IH w.heap.size 0 5 n s sl ps _ hA' (hp0.below bd (Nat.le_refl _))
    have c2 := hA'.2.2.1
    obtain ⟨x0, hx0⟩ : ∃ x, exP ps 0 = x := ⟨_, rfl⟩
    obtain ⟨x1, hx1⟩ : ∃ x, exP ps 1 = x := ⟨_, rfl⟩
    rw [hx0] at h0' hf ⊢
    rw [hx1] at hg ⊢
    simp only [hx1] at h1
    clear h0 hp0 hp h k1 k2 k3 k4 hx0 hx1 e1 e2 e3 e4
    rcases hf with rfl | ⟨u, x, rfl⟩
    · rcases hg with rfl | ⟨u', x', rfl⟩
      ·
        go_enter Try.func32, Try.ntmps32
        go_wp2
        go_region_held (fun w' => w'.cell? ⟨w.heap.size, 2, none⟩ = some (.string s)) (first | exact c2 | exact d2 | exact f2 | go_keep)
          (first
            | (go_at_call 36; refine h1'.mono ?_; rintro e w2 ⟨rfl, b2⟩; have bb := bx.trans (b2.mono bx.size); have f2 := (hA1.keepB b2 (World.block_lt_of_cell? w1 _ hA1.1)).2.2.1; clear h1')
            | (go_at_call 36; refine h0'.mono ?_; rintro e w1 ⟨rfl, b1⟩; have bx := (hb0.drew).trans (b1.mono (by simp)); have hA1 := hA'.keepB b1 (World.block_lt_of_cell? _ _ hA'.1); have d2 := hA1.2.2.1; have h1' := h1 w1 (bd.trans b1); clear h0'))
        go_wp2
        go_ret
        exact ⟨rfl, bb⟩
      ·
        go_enter Try.func32, Try.ntmps32
        go_wp2
        go_region_held (fun w' => w'.cell? ⟨w.heap.size, 2, none⟩ = some (.string s)) (first | exact c2 | exact d2 | exact f2 | go_keep)
          (first
            | (go_at_call 36; refine h1'.mono ?_; rintro e w2 ⟨rfl, b2⟩; have bb := bx.trans (b2.mono bx.size); have f2 := (hA1.keepB b2 (World.block_lt_of_cell? w1 _ hA1.1)).2.2.1; clear h1')
            | (go_at_call 36; refine h0'.mono ?_; rintro e w1 ⟨rfl, b1⟩; have bx := (hb0.drew).trans (b1.mono (by simp)); have hA1 := hA'.keepB b1 (World.block_lt_of_cell? _ _ hA'.1); have d2 := hA1.2.2.1; have h1' := h1 w1 (bd.trans b1); clear h0'))
        go_wp2
        go_ret
        exact ⟨rfl, bb⟩
    · rcases hg with rfl | ⟨u', x', rfl⟩
      ·
        go_enter Try.func32, Try.ntmps32
        go_wp2
        go_region_held (fun w' => w'.cell? ⟨w.heap.size, 2, none⟩ = some (.string s)) (first | exact c2 | exact d2 | exact f2 | go_keep)
          (first
            | (go_at_call 36; refine h1'.mono ?_; rintro e w2 ⟨rfl, b2⟩; have bb := bx.trans (b2.mono bx.size); have f2 := (hA1.keepB b2 (World.block_lt_of_cell? w1 _ hA1.1)).2.2.1; clear h1')
            | (go_at_call 36; refine h0'.mono ?_; rintro e w1 ⟨rfl, b1⟩; have bx := (hb0.drew).trans (b1.mono (by simp)); have hA1 := hA'.keepB b1 (World.block_lt_of_cell? _ _ hA'.1); have d2 := hA1.2.2.1; have h1' := h1 w1 (bd.trans b1); clear h0'))
        go_wp2
        go_ret
        exact ⟨rfl, bb⟩
      ·
        go_enter Try.func32, Try.ntmps32
        go_wp2
        go_region_held (fun w' => w'.cell? ⟨w.heap.size, 2, none⟩ = some (.string s)) (first | exact c2 | exact d2 | exact f2 | go_keep)
          (first
            | (go_at_call 36; refine h1'.mono ?_; rintro e w2 ⟨rfl, b2⟩; have bb := bx.trans (b2.mono bx.size); have f2 := (hA1.keepB b2 (World.block_lt_of_cell? w1 _ hA1.1)).2.2.1; clear h1')
            | (go_at_call 36; refine h0'.mono ?_; rintro e w1 ⟨rfl, b1⟩; have bx := (hb0.drew).trans (b1.mono (by simp)); have hA1 := hA'.keepB b1 (World.block_lt_of_cell? _ _ hA'.1); have d2 := hA1.2.2.1; have h1' := h1 w1 (bd.trans b1); clear h0'))
        go_wp2
        go_ret
        exact ⟨rfl, bb⟩
  rw [if_neg k5]
  have e5 : (k == 5) = false := beq_eq_false_iff_ne.2 k5
  clear h0 h1 hp0 hA hp h
  go_enter Try.func32, Try.ntmps32
  go_wp2
  go_ret
  exact ⟨rfl, hb0⟩
theorem theirs_any : ∀ (d : Nat), TheirsC d
  | 0 => fun _ t => Empty.elim t
  | d + 1 => theirs_step d (theirs_any d)

/-- An expression is that of its clean tree. -/
theorem exV_cln : ∀ (d : Nat) (t : T d), exV (d + 1) (cln d t) = exV d t
  | 0, t => Empty.elim t
  | d + 1, t => by
    obtain ⟨k, n, s, ps, rfl⟩ := T.open t
    have hp : ∀ i, exV (d + 1) (prt ps i) = exP ps i := fun i => by
      unfold prt exP
      rw [List.getD_eq_getElem?_getD, List.getElem?_map]
      cases ps[i]? with
      | none => rfl
      | some p => exact exV_cln d p
    rw [cln_mk, exV_mk]
    by_cases k1 : k = 1
    · rw [if_pos k1, if_pos k1]; rfl
    rw [if_neg k1, if_neg k1]
    by_cases k2 : k = 2
    · rw [if_pos k2, if_pos k2]; rfl
    rw [if_neg k2, if_neg k2]
    by_cases k3 : k = 3
    · rw [if_pos k3, if_pos k3, exV_mk, ← hp]; rfl
    rw [if_neg k3, if_neg k3]
    by_cases k4 : k = 4
    · rw [if_pos k4, if_pos k4, exV_mk, ← hp]; rfl
    rw [if_neg k4, if_neg k4]
    by_cases k5 : k = 5
    · rw [if_pos k5, if_pos k5, exV_mk, ← hp, ← hp]; rfl
    rw [if_neg k5, if_neg k5]
    rfl
end Go.Proofs.Ytoankfbccofllaa

/- The texts of ChartDeep, read; the text of awake. Math alone. -/
namespace Go.Proofs.Ytoankfbccofllaa
open Go.RowKit Go.Lib
set_option linter.unusedVariables false
end Go.Proofs.Ytoankfbccofllaa

/- What awake answers. -/
namespace Go.Proofs.Ytoankfbccofllaa
open Go.RowKit Go.Lib
set_option linter.unusedSimpArgs false
set_option linter.unusedVariables false
attribute [local go_sem ↓] Go.wp_at_zero Go.wp_at_succ

/-- A chart's six cells. -/
theorem RdC.lit {ok : Nat → Prop} {w : World} {d : Nat} {c : ChG d} {v : Value} (h : RdC ok w d c v) : ∃ nv vn ln co va vc sa sc, v = .agg #[.string nv, .int .i64 vn, .int .i64 ln, .int .i64 co, .slice va c.2.2.1.length vc, .slice sa c.2.2.2.length sc] ∧ RdK ok w 4 (rVar ok w) c.2.2.1 (.slice va c.2.2.1.length vc) ∧ RdK ok w 11 (rSt d ok w) c.2.2.2 (.slice sa c.2.2.2.length sc) := by
  obtain ⟨sv, ss, rfl, h1, h2⟩ := h
  obtain ⟨va, vc, rfl, _⟩ := h1.form
  obtain ⟨sa, sc, rfl, _⟩ := h2.form
  exact ⟨_, _, _, _, va, vc, sa, sc, rfl, h1, h2⟩
end Go.Proofs.Ytoankfbccofllaa
