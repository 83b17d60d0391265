
/- What the program's joinOne and join do. -/
import Derived.Test.YtiddccohldjjcaaDoorPgA
import Derived.BigRegion
namespace Go.Proofs.YtiddccohldjjcaaDoor
open Go.RowKit Go.Lib
set_option linter.unusedSimpArgs false
set_option linter.unusedVariables false
attribute [local go_sem ↓] Go.wp_at_zero Go.wp_at_succ

theorem addr_plain (g i : Nat) : (⟨g, 0, none⟩ : Addr).add i = ⟨g, i, none⟩ := by unfold Addr.add; split <;> simp_all
/-- The last operand, in memory. -/
theorem own_last1 {w : World} {base e : Nat} {v : Value} {x : Sx} {V : List Sx} (h : w.ownsRow base e 1 v (x :: V).length ((x :: V).reverse.map exX)) : ∃ g cap, v = .slice (some ⟨g, 0, none⟩) (V.length + 1) cap ∧ V.length + 1 ≤ cap ∧ cap ≤ maxLen ∧ base ≤ g ∧ g < w.heap.size ∧
    w.cell? ⟨g, V.length, none⟩ = some (exX x) ∧ (∀ j, w.frozen? ⟨g, j, none⟩ = false) ∧ w.ownsRow base e 1 (.slice (some ⟨g, 0, none⟩) (V.length + 1) cap) (V.length + 1) (V.reverse.map exX ++ [exX x]) := by
  rw [List.length_cons, List.reverse_cons, List.map_append] at h
  have hl : (V.reverse.map exX).length = V.length := by simp
  have hc := fun g => World.ownsRow.cells h (g := g)
  have h' := h
  rcases h.2 with ⟨_, h2⟩ | ⟨g, cap, cur, rfl, hb, hg, hnc, hcm, hcs, htake⟩
  · omega
  · have c0 := hc g rfl V.length (exX x) (by rw [List.getElem?_append_right (by omega), hl, Nat.sub_self]; rfl)
    rw [addr_plain] at c0
    exact ⟨g, cap, rfl, hnc, hcm, hb, (Array.getElem?_eq_some_iff.1 hg).1, c0, fun j => World.ownsRow.frozenAt h' j, h'⟩
/-- The last operand written anew. -/
theorem own_set1 {w : World} {base e g cap n : Nat} {xs : List Value} {a u : Value} (hn : xs.length = n) (h : w.ownsRow base e 1 (.slice (some ⟨g, 0, none⟩) (n + 1) cap) (n + 1) (xs ++ [a])) : (w.setCell ⟨g, n, none⟩ u).ownsRow base e 1 (.slice (some ⟨g, 0, none⟩) (n + 1) cap) (n + 1) (xs ++ [u]) := by
  have := (World.ownsRow.stored h n u).1
  subst hn
  rw [List.set_append_right _ _ (Nat.le_refl _), Nat.sub_self] at this
  exact this
theorem rdr_far {w : World} {X g i : Nat} {y : Yd} {vv ww : Value} (h : w.ownsRow (X + 1) 108 2 ww y.W.length (cels2 y.W.reverse)) (ha : ww.ownBlock ≠ some g) (u : Value) : (w.setCell ⟨g, i, none⟩ u).ownsRow (X + 1) 108 2 ww y.W.length (cels2 y.W.reverse) :=
  own_keep h (fun k hk => Below.heap_setCell _ _ _ _ (fun e => ha (by rw [hk]; exact congrArg some e)))

set_option maxRecDepth 100000 in
set_option maxHeartbeats 4000000 in
theorem joinOne_bin {w : World} {X : Nat} {x z : Sx} {V : List Sx} {W : List Sg2} {o : Nat} {b : Bool} {vv ww : Value} (h : Rdr w X ⟨x :: z :: V, W, o, b⟩ vv ww) (s : Sg2) (hs : ¬ s.2 = 6) (hl : V.length ≤ 4000) :
    Calls Tryd.prog 62 #[.pointer (some ⟨X, 0, none⟩), .agg #[.string ⟨s.1.toArray⟩, .int .i64 (s.2 : Int)]] w fun e w' => (∃ u, e = .returned u) ∧ (∃ vv', Rdr w' X ⟨mk2 ⟨s.1.toArray⟩ z x :: V, W, o, b⟩ vv' ww ∧ Fr2 X vv ww w w' vv' ww) ∧ Below X w w' := by
  have hb := h.b
  have hw := h.w
  have ha := h.a
  obtain ⟨g, cap, rfl, h1, h2, h3, h4, c1, fz, ho⟩ := own_last1 h.v
  simp only [List.length_cons] at h1 c1 ho hb ha
  have ho2 : w.ownsRow (X + 1) 24 1 (.slice (some ⟨g, 0, none⟩) (V.length + 1) cap) (V.length + 1) ((z :: V).reverse.map exX) := ownsRow_pop (by simp) ho
  have c0 : w.cell? ⟨g, V.length, none⟩ = some (exX z) := by
    have := World.ownsRow.cells ho2 (g := g) rfl V.length (exX z) (by rw [List.reverse_cons, List.map_append, List.getElem?_append_right (by simp)]; simp)
    rwa [addr_plain] at this
  obtain ⟨q, hq⟩ : ∃ q, exX x = q := ⟨_, rfl⟩
  obtain ⟨r, hr⟩ : ∃ r, exX z = r := ⟨_, rfl⟩
  have hqf := exX_form x
  have hrf := exX_form z
  rw [hq] at c1 hqf
  rw [hr] at c0 hrf
  have l1 : ((s.2 : Int) != 6) = true := by simp; omega
  have i2 : IntKind.i64.wrap ((V.length : Int) + 1 + 1 - 1) = (V.length : Int) + 1 := by rw [IntKind.wrap_i64]; omega
  have i3 : IntKind.i64.wrap ((V.length : Int) + 1 - 1) = (V.length : Int) := by rw [IntKind.wrap_i64]; omega
  have i4 : IntKind.i64.wrap ((V.length : Int) + 1) = (V.length : Int) + 1 := by rw [IntKind.wrap_i64]; omega
  have hbel : Below w.heap.size w (w.alloc (.cells #[.string ⟨s.1.toArray⟩, .int .i64 (s.2 : Int)] 108)) := (Below.refl _ w).alloc (Nat.le_refl _) _
  have hA := hb.keep hbel
  have c1' := (hbel.cell (p := ⟨g, V.length + 1, none⟩) h4).trans c1
  have c0' := (hbel.cell (p := ⟨g, V.length, none⟩) h4).trans c0
  have z1 := (hbel.frozen (p := ⟨g, V.length, none⟩) h4).trans (fz _)
  have ho3 := World.ownsRow.alloc ho2 (.cells #[.string ⟨s.1.toArray⟩, .int .i64 (s.2 : Int)] 108)
  have hw3 := World.ownsRow.alloc hw (.cells #[.string ⟨s.1.toArray⟩, .int .i64 (s.2 : Int)] 108)
  have p1 : (w.alloc (.cells #[.string ⟨s.1.toArray⟩, .int .i64 (s.2 : Int)] 108)).cell? ⟨w.heap.size, 0, none⟩ = some (.string ⟨s.1.toArray⟩) := by simp
  have p2 : (w.alloc (.cells #[.string ⟨s.1.toArray⟩, .int .i64 (s.2 : Int)] 108)).cell? ⟨w.heap.size, 1, none⟩ = some (.int .i64 (s.2 : Int)) := by simp
  obtain ⟨y0, y1, y2, y3, f0, f1, f2, f3⟩ := id hA
  have j1 : (V.length : Int) < (V.length : Int) + 1 + 1 := by omega
  have j2 : (V.length : Int) + 1 < (V.length : Int) + 1 + 1 := by omega
  have j3 : (0 : Int) ≤ (V.length : Int) := by omega
  have j4 : (0 : Int) ≤ (V.length : Int) + 1 := by omega
  have j5 : (V.length : Int) + 1 ≤ (cap : Int) := by omega
  have hu : exX (mk2 ⟨s.1.toArray⟩ z x) = .iface 53 (.agg #[.string ⟨s.1.toArray⟩, r, q]) := by rw [exX_mk2, hr, hq]
  have hXg : g ≠ X := by omega
  have haw : ww.ownBlock ≠ some g := ha g rfl
  have ho4 : (w.alloc (.cells #[.string ⟨s.1.toArray⟩, .int .i64 (s.2 : Int)] 108)).ownsRow (X + 1) 24 1 (.slice (some ⟨g, 0, none⟩) (V.length + 1) cap) (V.length + 1) (V.reverse.map exX ++ [exX z]) := by rw [List.reverse_cons, List.map_append] at ho3; exact ho3
  clear h hb ha hw ho ho2 ho3 c0 c1 fz hq hr
  rcases hqf with rfl | ⟨qu, qy, rfl⟩ <;> rcases hrf with rfl | ⟨ru, ry, rfl⟩
  all_goals (
    go_enter Tryd.func62, Tryd.ntmps62
    go_wp2
    generalize w.alloc (.cells #[.string ⟨s.1.toArray⟩, .int .i64 (s.2 : Int)] 108) = wa at *
    go_region
    have ho5 := own_set1 (u := exX (mk2 ⟨s.1.toArray⟩ z x)) (by simp) ho4
    have hB := hA.far hXg (i := V.length) (exX (mk2 ⟨s.1.toArray⟩ z x))
    have hw4 := rdr_far (y := ⟨mk2 ⟨s.1.toArray⟩ z x :: V, W, o, b⟩) hw3 haw (exX (mk2 ⟨s.1.toArray⟩ z x)) (vv := .nilIface) (i := V.length)
    have hF := (((Fr2.refl X (.slice (some ⟨g, 0, none⟩) (V.length + 1 + 1) cap) ww w).on hbel).setV (g := g) rfl V.length (exX (mk2 ⟨s.1.toArray⟩ z x)))
    have hbel2 : Below X w (wa.setCell ⟨g, V.length, none⟩ (exX (mk2 ⟨s.1.toArray⟩ z x))) := (hbel.mono (by omega)).setCell (by show X ≤ g; omega) _
    rw [hu] at ho5 hB hw4 hbel2 hF
    clear hA y0 y1 y2 y3 f0 f1 f2 f3 ho4 hw3 hbel c0' c1' z1 p1 p2
    obtain ⟨y0, y1, y2, y3, f0, f1, f2, f3⟩ := id hB
    generalize wa.setCell ⟨g, V.length, none⟩ _ = wb at *
    go_wp2
    go_end0
    refine ⟨⟨_, rfl⟩, ⟨_, Rdr.drew ⟨hB.set0 _, ?_, ownsRow_setCell_below hw4 (Nat.lt_succ_self X) _, fun k hk => ?_⟩, ((hF.setX 0 _).on ((Below.refl _ _).drew)).rows rfl rfl⟩, ((hbel2.setCell (Nat.le_refl _) _).drew)⟩
    · show World.ownsRow _ _ _ _ _ (V.length + 1) ((mk2 ⟨s.1.toArray⟩ z x :: V).reverse.map exX)
      rw [List.reverse_cons, List.map_append, List.map_singleton, hu]
      exact ownsRow_setCell_below ho5 (Nat.lt_succ_self X) _
    · simp only [Value.ownBlock, Option.some.injEq] at hk
      rw [← hk]; exact haw)
end Go.Proofs.YtiddccohldjjcaaDoor
