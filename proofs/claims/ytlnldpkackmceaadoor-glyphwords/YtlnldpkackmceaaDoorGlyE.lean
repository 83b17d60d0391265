/- What the document's End does. -/
import Derived.Test.YtlnldpkackmceaaDoorGlyG
namespace Go.Proofs.YtlnldpkackmceaaDoor
open Go.RowKit Go.Lib
set_option linter.unusedSimpArgs false
set_option linter.unusedVariables false

set_option maxHeartbeats 1000000 in
theorem refEnd_any (s : ByteArray) (w : World) (hT : Tabs w) (hs : s.size ≤ 140737488351232) :
    Calls Tryd.prog 14 #[.string s] w fun e w' => e = .returned (.agg #[.int .i64 (endR (runes (bl s)) 1 1).1, .int .i64 (endR (runes (bl s)) 1 1).2]) ∧ Below w.heap.size w w' := by
  obtain ⟨⟨eL, eC⟩, hE⟩ : ∃ x, endR (runes (bl s)) 1 1 = x := ⟨_, rfl⟩
  rw [hE]
  have HE : Hid (endR (runes (bl s)) 1 1 = (eL, eC)) := hE
  clear hE
  go_enter Tryd.func14, Tryd.ntmps14
  go_wp2
  go_loopw [0] (fun u wr => ∃ (s' : ByteArray) (ln co : Int), u = .string s' ∧ s'.size ≤ s.size ∧ Hid (endR (runes (bl s')) ln co = (eL, eC)) ∧ 1 ≤ ln ∧ 1 ≤ co ∧ ln + s'.size ≤ 1 + s.size ∧ co + s'.size ≤ 1 + s.size ∧
    At wr (w.heap.size + 1) (.int .i64 ln) (.int .i64 co) ∧ (∃ a b, At wr w.heap.size a b) ∧ Below w.heap.size w wr) (fun u _ => szOf u)
  case atStart =>
    exact ⟨s, 1, 1, rfl, by omega, HE, by omega, by omega, by omega, by omega, At.new _ _ _ _ _ (by simp), ⟨_, _, (At.new w (.int .i64 0) (.int .i64 0) 28 _ rfl).keep ((Below.refl _ _).alloc (Nat.le_refl _) _)⟩, ((Below.refl _ _).alloc (Nat.le_refl _) _).alloc (by simp) _⟩
  case round =>
    obtain ⟨s', ln, co, rfl, hsz, hv, hl1, hc1, hl2, hc2, hA, ⟨a, b, hR⟩, hb⟩ := hrel
    have hTr := hT.below hb (Nat.le_refl _)
    by_cases hz : 0 < s'.size
    · have e1 : (s'.size : Int) > 0 := by omega
      have hne : bl s' ≠ [] := by intro e; have := bl_length s'; rw [e] at this; simp at this; omega
      have hc := runes_cons hne
      have h20 := refNext_any s' _ hTr
      have hps := nx_pos hne
      have hnl := nx_le hne
      rw [bl_length] at hnl
      have hfr := bl_from s' (nx (bl s')).2
      obtain ⟨r, hr⟩ : ∃ r, (nx (bl s')).1 = r := ⟨_, rfl⟩
      obtain ⟨q, hq⟩ : ∃ q, (nx (bl s')).2 = q := ⟨_, rfl⟩
      rw [hr, hq] at h20 hc
      rw [hq] at hps hnl hfr
      have hq0 : (0 : Int) ≤ (q : Int) := by omega
      have hq1 : (q : Int) ≤ (s'.size : Int) := by omega
      have hsx : (s'.extract q s'.size).size = s'.size - q := by rw [ByteArray.size_extract]; omega
      have hvv := hv.out
      rw [hc] at hvv
      by_cases h10 : r = 10
      · subst h10
        have hn : Hid (endR (runes (bl (s'.extract q s'.size))) (ln + 1) 1 = (eL, eC)) := by rw [hfr]; exact hvv
        clear hvv hc hr hq hne hT hTr hfr
        go_wp2_with (first
          | (go_at_call 16; refine h20.mono ?_; rintro e w1 ⟨rfl, b1⟩; have hA1 := hA.keep b1; have hR1 := hR.keep b1; obtain ⟨y0, y1, y2, y3⟩ := id hA1; have b2 := hb.trans (b1.mono hb.size); clear h20 hA hR hb))
        go_roundw
        case rel =>
          exact ⟨_, ln + 1, 1, rfl, by omega, hn, by omega, by omega, by omega, by omega, ((hA1.set1 _).set0 _).set1 _, ⟨a, b, ((hR1.far (by omega) _).far (by omega) _).far (by omega) _⟩, ((b2.setCell (by simp) _).setCell (by simp) _).setCell (by simp) _⟩
        case measure => simp [szOf]; omega
      · have h10' : (r == 10) = false := beq_eq_false_iff_ne.2 h10
        have hn : Hid (endR (runes (bl (s'.extract q s'.size))) ln (co + 1) = (eL, eC)) := by rw [hfr]; rw [endR, if_neg h10] at hvv; exact hvv
        clear hvv hc hr hq hne hT hTr hfr h10
        go_wp2_with (first
          | (go_at_call 16; refine h20.mono ?_; rintro e w1 ⟨rfl, b1⟩; have hA1 := hA.keep b1; have hR1 := hR.keep b1; obtain ⟨y0, y1, y2, y3⟩ := id hA1; have b2 := hb.trans (b1.mono hb.size); clear h20 hA hR hb))
        go_roundw
        case rel =>
          exact ⟨_, ln, co + 1, rfl, by omega, hn, by omega, by omega, by omega, by omega, hA1.set1 _, ⟨a, b, hR1.far (by omega) _⟩, b2.setCell (by simp) _⟩
        case measure => simp [szOf]; omega
    · have e1 : ¬ (s'.size : Int) > 0 := by omega
      have hnil : bl s' = [] := List.eq_nil_of_length_eq_zero (by rw [bl_length]; omega)
      have hvv := hv.out
      rw [hnil] at hvv
      have h2 : (ln, co) = (eL, eC) := hvv
      obtain ⟨rfl, rfl⟩ := Prod.mk.inj h2
      obtain ⟨y0, y1, y2, y3⟩ := id hA
      obtain ⟨z0, z1, z2, z3⟩ := id hR
      have r0 := (hR.set0 (.int .i64 ln)).set1 (.int .i64 co)
      obtain ⟨u0, u1, u2, u3⟩ := id r0
      have b2 : Below w.heap.size w ((wr.setCell ⟨w.heap.size, 0, none⟩ (.int .i64 ln)).setCell ⟨w.heap.size, 1, none⟩ (.int .i64 co)) := (hb.setCell (by simp) _).setCell (by simp) _
      clear hvv hnil h2 hT hTr hA hR
      go_wp2
      exact bodyPost_ret (v := .agg #[.int .i64 ln, .int .i64 co]) (by simp [results, Tryd.results14, go_sem, u0, u1]) rfl ⟨rfl, b2⟩
end Go.Proofs.YtlnldpkackmceaaDoor
