
/- What the program's joinOne does with a sign ahead. -/
import Derived.Test.YtiddccohldjjcaaDoorPgB
import Derived.BigRegion
namespace Go.Proofs.YtiddccohldjjcaaDoor
open Go.RowKit Go.Lib
set_option linter.unusedSimpArgs false
set_option linter.unusedVariables false
attribute [local go_sem ↓] Go.wp_at_zero Go.wp_at_succ


set_option maxRecDepth 100000 in
set_option maxHeartbeats 4000000 in
theorem joinOne_un {w : World} {X : Nat} {x : Sx} {V : List Sx} {W : List Sg2} {o : Nat} {b : Bool} {vv ww : Value} (h : Rdr w X ⟨x :: V, W, o, b⟩ vv ww) (t : List UInt8) (hl : V.length ≤ 4000) :
    Calls Tryd.prog 62 #[.pointer (some ⟨X, 0, none⟩), .agg #[.string ⟨t.toArray⟩, .int .i64 6]] w fun e w' => (∃ u, e = .returned u) ∧ (∃ vv', Rdr w' X ⟨mk1 (if t = [33] then 3 else 4) x :: V, W, o, b⟩ vv' ww ∧ Fr2 X vv ww w w' vv' ww) ∧ Below X w w' := by
  have hb := h.b
  have hw := h.w
  have ha := h.a
  obtain ⟨g, cap, rfl, h1, h2, h3, h4, c1, fz, ho⟩ := own_last1 h.v
  obtain ⟨q, hq⟩ : ∃ q, exX x = q := ⟨_, rfl⟩
  have hqf := exX_form x
  rw [hq] at c1 hqf
  have i2 : IntKind.i64.wrap ((V.length : Int) + 1 - 1) = (V.length : Int) := by rw [IntKind.wrap_i64]; omega
  have i4 : IntKind.i64.wrap ((V.length : Int) + 1) = (V.length : Int) + 1 := by rw [IntKind.wrap_i64]; omega
  have hbel : Below w.heap.size w (w.alloc (.cells #[.string ⟨t.toArray⟩, .int .i64 6] 108)) := (Below.refl _ w).alloc (Nat.le_refl _) _
  have hA := hb.keep hbel
  have c1' := (hbel.cell (p := ⟨g, V.length, none⟩) h4).trans c1
  have z1 := (hbel.frozen (p := ⟨g, V.length, none⟩) h4).trans (fz _)
  have ho4 := World.ownsRow.alloc ho (.cells #[.string ⟨t.toArray⟩, .int .i64 6] 108)
  have hw3 := World.ownsRow.alloc hw (.cells #[.string ⟨t.toArray⟩, .int .i64 6] 108)
  have p1 : (w.alloc (.cells #[.string ⟨t.toArray⟩, .int .i64 6] 108)).cell? ⟨w.heap.size, 0, none⟩ = some (.string ⟨t.toArray⟩) := by simp
  have p2 : (w.alloc (.cells #[.string ⟨t.toArray⟩, .int .i64 6] 108)).cell? ⟨w.heap.size, 1, none⟩ = some (.int .i64 6) := by simp
  obtain ⟨y0, y1, y2, y3, f0, f1, f2, f3⟩ := id hA
  have j2 : (V.length : Int) < (V.length : Int) + 1 := by omega
  have j3 : (0 : Int) ≤ (V.length : Int) := by omega
  have j4 : (0 : Int) ≤ (V.length : Int) + 1 := by omega
  have j5 : (V.length : Int) + 1 ≤ (cap : Int) := by omega
  have hXg : g ≠ X := by omega
  have haw : ww.ownBlock ≠ some g := ha g rfl
  obtain ⟨k, hk⟩ : ∃ k : Int, (if t = [33] then (3 : Int) else 4) = k := ⟨_, rfl⟩
  rw [hk]
  have hkk : (t == [33]) = true ∧ exX (mk1 k x) = .iface 59 (.agg #[q]) ∨ (t == [33]) = false ∧ exX (mk1 k x) = .iface 60 (.agg #[q]) := by
    rw [← hk, ← hq]
    by_cases e : t = [33]
    · left; rw [if_pos e]; exact ⟨by rw [e]; rfl, exX_not x⟩
    · right; rw [if_neg e]; exact ⟨beq_eq_false_iff_ne.2 e, exX_neg x⟩
  clear h ha c1 fz hq hk
  have hob : ∀ u : Value, (w.setCell ⟨g, V.length, none⟩ u).ownsRow (X + 1) 24 1 (.slice (some ⟨g, 0, none⟩) (V.length + 1) cap) (V.length + 1) (V.reverse.map exX ++ [u]) := fun u => own_set1 (by simp) ho
  have hwb : ∀ u : Value, (w.setCell ⟨g, V.length, none⟩ u).ownsRow (X + 1) 108 2 ww W.length (cels2 W.reverse) := fun u => rdr_far (y := ⟨V, W, o, b⟩) hw haw u (vv := .nilIface)
  have hbb : ∀ u : Value, B4 (w.setCell ⟨g, V.length, none⟩ u) X (.slice (some ⟨g, 0, none⟩) (V.length + 1) cap) ww (.int .i64 (o : Int)) (.bool b) := fun u => hb.far hXg u
  have hbl : ∀ u : Value, Below X w (w.setCell ⟨g, V.length, none⟩ u) := fun u => (Below.refl _ _).setCell (by show X ≤ g; omega) _
  have hfr : ∀ u : Value, Fr2 X (.slice (some ⟨g, 0, none⟩) (V.length + 1) cap) ww w (w.setCell ⟨g, V.length, none⟩ u) (.slice (some ⟨g, 0, none⟩) (V.length + 1) cap) ww := fun u => (Fr2.refl X _ ww w).setV (g := g) rfl V.length u
  have hal : ∀ wx : World, Below wx.heap.size wx (wx.alloc (.cells #[.string ⟨t.toArray⟩, .int .i64 6] 108)) := fun wx => (Below.refl _ _).alloc (Nat.le_refl _) _
  have hX := hb.lt
  clear hb hw ho ho4 hw3 hbel hA
  rcases hqf with rfl | ⟨qu, qy, rfl⟩ <;> rcases hkk with ⟨e1, hu⟩ | ⟨e1, hu⟩
  all_goals (
    have hB := hbb (exX (mk1 k x))
    have ho5 := hob (exX (mk1 k x))
    have hw4 := hwb (exX (mk1 k x))
    have hb2 := hbl (exX (mk1 k x))
    have hF := hfr (exX (mk1 k x))
    rw [hu] at hB ho5 hw4 hb2 hF
    obtain ⟨q0, q1, q2, q3, g0, g1, g2, g3⟩ := id (hB.keep (hal _))
    clear hob hwb hbb hbl hfr
    go_enter Tryd.func62, Tryd.ntmps62
    go_wp2
    go_end0
    refine ⟨⟨_, rfl⟩, ⟨_, ⟨(hB.set0 _).keep (hal _), ?_, World.ownsRow.alloc (ownsRow_setCell_below hw4 (Nat.lt_succ_self X) _) _, fun k hk => ?_⟩, (hF.setX 0 _).on (hal _)⟩, ((hb2.setCell (Nat.le_refl X) _).alloc (by simp; omega) _)⟩
    · show World.ownsRow _ _ _ _ _ (V.length + 1) ((mk1 k x :: V).reverse.map exX)
      rw [List.reverse_cons, List.map_append, List.map_singleton, hu]
      exact World.ownsRow.alloc (ownsRow_setCell_below ho5 (Nat.lt_succ_self X) _) _
    · simp only [Value.ownBlock, Option.some.injEq] at hk
      rw [← hk]; exact haw)
theorem joinOne_any {w : World} {X : Nat} {V : List Sx} {W : List Sg2} {o : Nat} {b : Bool} {vv ww : Value} (h : Rdr w X ⟨V, W, o, b⟩ vv ww) (s : Sg2) (h6 : s.2 = 6 → 1 ≤ V.length) (h2 : s.2 ≠ 6 → 2 ≤ V.length) (hl : V.length ≤ 4000) :
    Calls Tryd.prog 62 #[.pointer (some ⟨X, 0, none⟩), .agg #[.string ⟨s.1.toArray⟩, .int .i64 (s.2 : Int)]] w fun e w' => (∃ u, e = .returned u) ∧ (∃ vv', Rdr w' X ⟨jn1 V s, W, o, b⟩ vv' ww ∧ Fr2 X vv ww w w' vv' ww) ∧ Below X w w' := by
  by_cases hs : s.2 = 6
  · match V, h6 hs, h, hl with
    | x :: V, _, h, hl =>
      have e : jn1 (x :: V) s = mk1 (if s.1 = [33] then 3 else 4) x :: V := by unfold jn1; rw [if_pos hs]
      rw [e, hs]
      exact joinOne_un h s.1 (by rw [List.length_cons] at hl; omega)
  · match V, h2 hs, h, hl with
    | x :: z :: V, _, h, hl =>
      have e : jn1 (x :: z :: V) s = mk2 ⟨s.1.toArray⟩ z x :: V := by unfold jn1; rw [if_neg hs]
      rw [e]
      exact joinOne_bin h s hs (by rw [List.length_cons, List.length_cons] at hl; omega)
end Go.Proofs.YtiddccohldjjcaaDoor
