
/- What the program's wait and closes do. -/
import Derived.Test.YtiddccohldjjcaaDoorPgC
import Derived.Test.YtiddccohldjjcaaDoorGlyK
import Derived.Deep.RegionLaw
namespace Go.Proofs.YtiddccohldjjcaaDoor
open Go.RowKit Go.Lib
set_option linter.unusedSimpArgs false
set_option linter.unusedVariables false
attribute [local go_sem ↓] Go.wp_at_zero Go.wp_at_succ

theorem Tryd.infoSg : (Tryd.prog.info? 108).map (fun i => (i.zero, i.size, i.bytes)) = some (some (.agg #[.string ⟨#[]⟩, .int .i64 0]), 2, 24) := by kernel_rfl
theorem src_sign {P : Program} {t e : TypeId} (ht : P.underlying t = some (.slice e)) (w : World) (s : Sg2) :
    Src P 2 t (.slice (some ⟨w.heap.size, 0, none⟩) 1 1) 1 (cel2 s) (w.alloc (.cells #[.string ⟨s.1.toArray⟩, .int .i64 (s.2 : Int)] e)) := by
  have h := World.ownsRow_lit (base := w.heap.size) (e := e) (size := 2) w #[.string ⟨s.1.toArray⟩, .int .i64 (s.2 : Int)] 1 (Nat.le_refl _) (by simp [maxLen]) (by simp)
  exact Src.ofSlice _ ht _ 1 1 _ (by simp [cel2]) (by simpa [cel2] using h.cells (g := w.heap.size) rfl) (by simp [cel2, Value.oneCell'])
set_option maxRecDepth 100000 in
set_option maxHeartbeats 4000000 in
theorem wait_any {w : World} {X : Nat} {V : List Sx} {W : List Sg2} {o : Nat} {b : Bool} {vv ww : Value} (h : Rdr w X ⟨V, W, o, b⟩ vv ww) (t : List UInt8) (k : Nat) (hk : k ≤ 6) (hl : W.length ≤ 3001) (ht : t.length ≤ 12000) :
    Calls Tryd.prog 60 #[.pointer (some ⟨X, 0, none⟩), .string ⟨t.toArray⟩, .int .i64 (k : Int)] w fun e w' => (∃ u, e = .returned u) ∧ (∃ ww', Rdr w' X ⟨V, (t, k) :: W, o, b⟩ vv ww') ∧ Below X w w' := by
  obtain ⟨i0, hi, hz0, hz1, hz2⟩ := info_parts Tryd.infoSg
  obtain ⟨a, cap, rfl, hcap⟩ := own_form h.w
  simp only at h
  have hC := fun w1 => pClone_any ⟨t.toArray⟩ w1 (by show t.toArray.size ≤ _; simp; omega)
  obtain ⟨y0, y1, y2, y3, f0, f1, f2, f3⟩ := id h.b
  go_enter Tryd.func60, Tryd.ntmps60
  go_wp2
  go_region_law (first
      | (refine step_append_at _ (by rfl) (.tmp 10) (.tmp 15) 66 66 (by rfl) (X + 1) 108 i0 (.agg #[.string ⟨#[]⟩, .int .i64 0]) 2 24 Tryd.underlying66 hi hz0 hz1 hz2 rfl _ W.length _ (by rfl) (World.ownsRow.alloc hr3.w _) _ 1 (cel2 (t, k)) (by rfl) (src_sign Tryd.underlying66 w3 (t, k)) 1 (.inr (by omega)) (Nat.le_refl _) (by unfold maxLen; omega) (by simp; have := hr3.lt; omega) ?_; intro v4 w4 ho6 hg4 hat; obtain ⟨a4, cap4, rfl, hc4⟩ := own_form ho6; have hb4 : Below (X + 1) (w3.alloc (.cells #[.string ⟨t.toArray⟩, .int .i64 (k : Int)] 108)) w4 := (Below.refl _ _).grown hg4 (by simp; have := hr3.lt; omega) (fun k hk => (World.ownsRow.lt hr3.w k hk).1); have hB4 := hr4.b.keepB hb4 (Nat.lt_succ_self X); have p1 := hB4.c1; have r1 := hB4.f1)
      | (go_simp; refine (hC _).mono ?_; rintro e w3 ⟨rfl, b3⟩; have b3' : Below w.heap.size w w3 := ((Below.refl _ w).drew).trans b3; have hr3 := h.on b3'; have c1 := hr3.b.c1; have d1 := hr3.b.f1; have hr4 := hr3.on (((Below.refl _ w3).alloc (Nat.le_refl _) (.cells #[.string ⟨t.toArray⟩, .int .i64 (k : Int)] 108))); have c2 := hr4.b.c1; have d2 := hr4.b.f1))
  all_goals (
    have hne : vv.ownBlock = none ∨ vv.ownBlock ≠ (Value.slice a W.length cap).ownBlock := by
      cases hq : vv.ownBlock with
      | none => exact .inl rfl
      | some g => exact .inr (fun e => h.a g hq e.symm)
    have hv4 := World.ownsRow.kept hr4.v hg4 hne
    have hbb : Below X w w4 := ((b3'.mono (Nat.le_of_lt h.lt)).alloc (Nat.le_of_lt hr3.lt) _).trans (hb4.mono (Nat.le_succ X))
    go_end0
    refine ⟨⟨_, rfl⟩, ⟨_, hB4.set1 _, ownsRow_setCell_below hv4 (Nat.lt_succ_self X) _, ?_, fun g hg e => ?_⟩, hbb.setCell (Nat.le_refl X) _⟩
    · refine ownsRow_setCell_below ?_ (Nat.lt_succ_self X) _
      rw [List.reverse_cons, cels2_app]
      have e : cels2 [(t, k)] = cel2 (t, k) := by simp [cels2]
      rw [e]
      exact ho6
    · rcases hat with q | q
      · exact h.a g hg (q.symm.trans e)
      · have hlt := (World.ownsRow.lt hr3.v g hg).2
        have : some g = some (w3.alloc (.cells #[.string ⟨t.toArray⟩, .int .i64 (k : Int)] 108)).heap.size := e.symm.trans q
        simp at this
        omega)
end Go.Proofs.YtiddccohldjjcaaDoor
