
/- What the program's takesAhead does. -/
import Derived.Test.YtiddccohldjjcaaDoorPgF
namespace Go.Proofs.YtiddccohldjjcaaDoor
open Go.RowKit Go.Lib
set_option linter.unusedSimpArgs false
set_option linter.unusedVariables false
attribute [local go_sem ↓] Go.wp_at_zero Go.wp_at_succ

/-- A word in memory, as a value. -/
abbrev wdV (K : Nat) (seg : List Ru) (ln co : Int) : Value := .agg #[.int .i64 (K : Int), .string (txt seg), .int .i64 ln, .int .i64 co]
theorem src_expr {P : Program} {t e : TypeId} (ht : P.underlying t = some (.slice e)) (w : World) (v : Value) (hv : v = .nilIface ∨ ∃ u y, v = .iface u y) :
    Src P 1 t (.slice (some ⟨w.heap.size, 0, none⟩) 1 1) 1 [v] (w.alloc (.cells #[v] e)) := by
  have h := World.ownsRow_lit (base := w.heap.size) (e := e) (size := 1) w #[v] 1 (Nat.le_refl _) (by simp [maxLen]) (by simp)
  refine Src.ofSlice _ ht _ 1 1 _ (by simp) (by simpa using h.cells (g := w.heap.size) rfl) (fun u hu => ?_)
  simp only [List.mem_singleton] at hu
  rcases hv with rfl | ⟨u', y', rfl⟩ <;> subst hu <;> rfl
theorem leaf_form {w : Tk} {x : Sx} (h : leafY (valB 0) rsvB w = some x) : ∃ u y, exX x = .iface u y := by
  unfold leafY at h
  split at h
  · obtain rfl := Option.some.inj h; exact ⟨_, _, exX_lit _⟩
  · split at h
    · obtain rfl := Option.some.inj h; exact ⟨_, _, exX_ref _⟩
    · cases h
set_option maxRecDepth 100000 in
set_option maxHeartbeats 4000000 in
theorem ahead_leaf {w : World} {X K : Nat} {seg : List Ru} {V : List Sx} {W : List Sg2} {o : Nat} {vv ww : Value} (h : Rdr w X ⟨V, W, o, false⟩ vv ww) (h1 : OneW K seg) (ln co : Int) (hK : K ≠ 3) (hl : V.length ≤ 3001) {x : Sx} (hx : leafY (valB 0) rsvB (K, byt seg) = some x) :
    Calls Tryd.prog 38 #[.pointer (some ⟨X, 0, none⟩), wdV K seg ln co] w fun e w' => e = .returned (.bool true) ∧ (∃ vv' ww', Rdr w' X ⟨x :: V, W, o, true⟩ vv' ww') ∧ Below X w w' := by
  obtain ⟨i0, hi, hz0, hz1, hz2⟩ := info_parts Tryd.infoE
  have hL := fun w1 => leafOf_any h1 ln co w1 hK
  rw [hx] at hL
  simp only at hL
  have hxf : ∃ u y, exX x = .iface u y := leaf_form hx
  obtain ⟨xv, hxv⟩ : ∃ xv, exX x = xv := ⟨_, rfl⟩
  simp only [hxv] at hL hxf
  obtain ⟨a, cap, rfl, hcap⟩ := own_form h.v
  simp only at h
  obtain ⟨tx, htx⟩ : ∃ tx, txt seg = tx := ⟨_, rfl⟩
  unfold wdV
  simp only [htx] at hL ⊢
  have hq0 : Below w.heap.size w (w.alloc (.cells #[.int .i64 (K : Int), .string tx, .int .i64 ln, .int .i64 co] 43)) := (Below.refl _ _).alloc (Nat.le_refl _) _
  have hA0 := At4.new w (.int .i64 (K : Int)) (.string tx) (.int .i64 ln) (.int .i64 co) 43
  obtain ⟨y0, y1, y2, y3⟩ := id hA0
  have k3 : ((K : Int) != 3) = true := by simp; omega
  clear h1 hx htx
  obtain ⟨xu, xy, rfl⟩ := hxf
  · go_enter Tryd.func38, Tryd.ntmps38
    go_wp2_with (first
      | (go_at_call 61; refine (hL _).mono ?_; rintro e w1 ⟨rfl, b1⟩; have hb1 := hq0.trans (b1.mono hq0.size); have hr1 := h.on hb1; obtain ⟨z0, z1, z2, z3, g0, g1, g2, g3⟩ := id hr1.b)
      | (at_builtin; refine wpList_append_at _ rfl (.tmp 20) (.tmp 22) 65 65 rfl (X + 1) 24 i0 .nilIface 1 16 Tryd.underlying65 hi hz0 hz1 hz2 rfl _ V.length _ rfl (World.ownsRow.alloc hr1.v _) _ 1 [.iface xu xy] rfl (src_expr Tryd.underlying65 w1 _ (.inr ⟨_, _, rfl⟩)) 1 (.inr (by omega)) (Nat.le_refl _) (by unfold maxLen; omega) (by simp; have := hr1.lt; omega) ?_; intro v4 w4 ho6 hg4 hat; obtain ⟨a4, cap4, rfl, hc4⟩ := own_form ho6; have hr4 := hr1.on ((Below.refl _ w1).alloc (Nat.le_refl _) (.cells #[.iface xu xy] 24)); have hb4 : Below (X + 1) (w1.alloc (.cells #[.iface xu xy] 24)) w4 := (Below.refl _ _).grown hg4 (by simp; have := hr1.lt; omega) (fun k hk => (World.ownsRow.lt hr1.v k hk).1); have hB4 := hr4.b.keepB hb4 (Nat.lt_succ_self X); clear z0 z1 z2 z3 g0 g1 g2 g3; obtain ⟨z0, z1, z2, z3, g0, g1, g2, g3⟩ := id hB4))
    go_ret
    have hne : ww.ownBlock = none ∨ ww.ownBlock ≠ (Value.slice a V.length cap).ownBlock := by
      cases hq : ww.ownBlock with
      | none => exact .inl rfl
      | some g => exact .inr (fun e => h.a g e.symm hq)
    have hw4 := World.ownsRow.kept hr4.w hg4 hne
    have hbb : Below X w w4 := ((hb1.mono (Nat.le_of_lt h.lt)).alloc (Nat.le_of_lt hr1.lt) _).trans (hb4.mono (Nat.le_succ X))
    refine ⟨rfl, ⟨_, _, (hB4.set0 _).set3 _, ?_, ownsRow_setCell_below (ownsRow_setCell_below hw4 (Nat.lt_succ_self X) _) (Nat.lt_succ_self X) _, fun g hg e => ?_⟩, (hbb.setCell (Nat.le_refl X) _).setCell (Nat.le_refl X) _⟩
    · refine ownsRow_setCell_below (ownsRow_setCell_below ?_ (Nat.lt_succ_self X) _) (Nat.lt_succ_self X) _
      show World.ownsRow _ _ _ _ _ (V.length + 1) ((x :: V).reverse.map exX)
      rw [List.reverse_cons, List.map_append, List.map_singleton, hxv]
      exact ho6
    · rcases hat with q | q
      · exact h.a g (q.symm.trans hg) e
      · have hlt := (World.ownsRow.lt hr1.w g e).2
        have : some g = some (w1.alloc (.cells #[.iface xu xy] 24)).heap.size := hg.symm.trans q
        simp at this
        omega
set_option maxRecDepth 100000 in
set_option maxHeartbeats 4000000 in
theorem ahead_no {w : World} {X K : Nat} {seg : List Ru} {V : List Sx} {W : List Sg2} {o : Nat} {vv ww : Value} (h : Rdr w X ⟨V, W, o, false⟩ vv ww) (h1 : OneW K seg) (ln co : Int) (hK : K ≠ 3) (hx : leafY (valB 0) rsvB (K, byt seg) = none) :
    Calls Tryd.prog 38 #[.pointer (some ⟨X, 0, none⟩), wdV K seg ln co] w fun e w' => e = .returned (.bool false) ∧ (∃ vv' ww', Rdr w' X ⟨V, W, o, false⟩ vv' ww') ∧ Below X w w' := by
  have hL := fun w1 => leafOf_any h1 ln co w1 hK
  rw [hx] at hL
  simp only at hL
  obtain ⟨tx, htx⟩ : ∃ tx, txt seg = tx := ⟨_, rfl⟩
  unfold wdV
  simp only [htx] at hL ⊢
  have hq0 : Below w.heap.size w (w.alloc (.cells #[.int .i64 (K : Int), .string tx, .int .i64 ln, .int .i64 co] 43)) := (Below.refl _ _).alloc (Nat.le_refl _) _
  have hA0 := At4.new w (.int .i64 (K : Int)) (.string tx) (.int .i64 ln) (.int .i64 co) 43
  obtain ⟨y0, y1, y2, y3⟩ := id hA0
  have k3 : ((K : Int) != 3) = true := by simp; omega
  clear h1 hx htx
  go_enter Tryd.func38, Tryd.ntmps38
  go_wp2_with (first
    | (go_at_call 61; refine (hL _).mono ?_; rintro e w1 ⟨rfl, b1⟩; have hb1 := hq0.trans (b1.mono hq0.size); have hr1 := h.on hb1))
  go_ret
  exact ⟨rfl, ⟨_, _, hr1⟩, hb1.mono (Nat.le_of_lt h.lt)⟩
end Go.Proofs.YtiddccohldjjcaaDoor
