
/- GuardBack: the walk. -/
import Derived.Test.YtiddccohldjjcaaGreatDoorLgA
import Derived.Test.YtiddccohldjjcaaGreatDoorPrC
import Derived.Test.YtiddccohldjjcaaGreatDoorExA
import Derived.Test.YtiddccohldjjcaaGreatDoorExB
import Derived.Deep.RegionHeld
namespace Go.Proofs.YtiddccohldjjcaaGreatDoor
open Go.RowKit Go.Lib
set_option linter.unusedSimpArgs false
set_option linter.unusedVariables false
attribute [local go_sem ↓] Go.wp_at_zero Go.wp_at_succ
theorem bl_arr (l : List UInt8) : bl ⟨l.toArray⟩ = l := rfl
set_option maxRecDepth 100000 in
set_option maxHeartbeats 4000000 in
theorem guardBack_walk {w : World} (hw : Pow w) {d : Nat} {t : T d} {v : Value} (h : RdT (fun _ => True) w d t v) :
    Calls Tryz.prog 4 #[v] w fun r w' => r = .returned (.bool true) ∧ Below w.heap.size w w' := by
  match d, t, h with
  | 0, t, _ => exact Empty.elim t
  | d + 1, t, h =>
  obtain ⟨k, n, s, ps, rfl⟩ := T.open t
  have h0 := h
  obtain ⟨sl, rfl, _⟩ := rdT_mk.1 h
  clear h
  have bb := (Below.refl w.heap.size w).alloc (Nat.le_refl _) (.cells #[.int .i64 k, .int .i64 n, .string s, sl] 24)
  have hA := At4.new w (.int .i64 k) (.int .i64 n) (.string s) sl 24
  have h1 := fun w1 => awakeG w1
  have h2 := fun w1 (b : Below w.heap.size w w1) => refSmallTop_any (RdT.below b (Nat.le_refl _) h0)
  by_cases hsm : 0 ≤ sml (d + 1) (mkT k n s ps) 0 200
  case neg =>
    simp only [decide_eq_false hsm] at h2
    clear hsm
    have s1 := h1 (w.alloc (.cells #[.int .i64 k, .int .i64 n, .string s, sl] 24))
    go_enter Tryz.func4, Tryz.ntmps4
    go_wp2_with (first
      | (go_at_call 6; refine s1.mono ?_; rintro r wn ⟨rfl, bn⟩; have bb := bthen bb bn; have hA := hA.on bn; obtain ⟨y0, y1, y2, y3⟩ := id hA; have s2 := h2 wn bb; clear s1)
      | (go_at_call 7; refine s2.mono ?_; rintro r wn ⟨rfl, bn⟩; have bb := bthen bb bn; have hA := hA.on bn; obtain ⟨y0, y1, y2, y3⟩ := id hA; have s3 := h1 wn; clear s2)
      | (go_at_call 6; refine s3.mono ?_; rintro r wn ⟨rfl, bn⟩; have bb := bthen bb bn; clear s3))
    go_ret
    exact ⟨rfl, bb⟩
  simp only [decide_eq_true hsm] at h2
  obtain ⟨hc1, hsh⟩ := small_cln hsm
  have hcl := cl_cln (d + 1) (mkT k n s ps)
  have h5 := fun w1 (b : Below w.heap.size w w1) => theirs_any (d + 1) _ _ _ w1 (RdT.below b (Nat.le_refl _) h0)
  have h6 := fun w1 hp => printP w1 hcl hc1 hsh hp
  rw [exV_cln] at h6
  obtain ⟨ex, hex⟩ : ∃ ex, exV (d + 1) (mkT k n s ps) = ex := ⟨_, rfl⟩
  have hfo : ex = .nilIface ∨ ∃ u y, ex = .iface u y := by rw [← hex]; exact exV_form _ _
  have e0 := exV_cln (d + 1) (mkT k n s ps)
  simp only [hex] at h5 h6 e0
  clear hex
  by_cases hfp : fmC (d + 2) (cln (d + 1) (mkT k n s ps)) = true ∧ plC (d + 2) (cln (d + 1) (mkT k n s ps)) = true
  case neg =>
    unfold prC at h6
    simp only [if_neg hfp] at h6
    have s1 := h1 (w.alloc (.cells #[.int .i64 k, .int .i64 n, .string s, sl] 24))
    clear hsm hfp e0 hcl hc1 hsh
    rcases hfo with rfl | ⟨u, y, rfl⟩
    all_goals
      go_enter Tryz.func4, Tryz.ntmps4
      go_wp2_with (first
        | (go_at_call 6; refine s1.mono ?_; rintro r wn ⟨rfl, bn⟩; have bb := bthen bb bn; have hA := hA.on bn; obtain ⟨y0, y1, y2, y3⟩ := id hA; have s2 := h2 wn bb; clear s1)
        | (go_at_call 7; refine s2.mono ?_; rintro r wn ⟨rfl, bn⟩; have bb := bthen bb bn; have hA := hA.on bn; obtain ⟨y0, y1, y2, y3⟩ := id hA; have s3 := h5 wn bb; clear s2)
        | (go_at_call 9; refine s3.mono ?_; rintro r wn ⟨rfl, bn⟩; have bb := bthen bb bn; have hA := hA.on bn; obtain ⟨y0, y1, y2, y3⟩ := id hA; have s4 := h6 wn (hw.below bb); clear s3)
        | (go_at_call 8; refine s4.mono ?_; rintro r wn ⟨rfl, bn⟩; have bb := bthen bb bn; have hA := hA.on bn; clear s4))
      go_ret
      exact ⟨rfl, bb⟩
  obtain ⟨x, hx, ha⟩ := parse_printed hcl hfp.1 hfp.2
  have hln := txt_len hcl hfp.1 hfp.2
  unfold prC at h6
  simp only [if_pos hfp] at h6
  have h7 := fun w1 => pParse_any ⟨(txtC (d + 2) (cln (d + 1) (mkT k n s ps))).toArray⟩ w1 (Nat.le_trans hln (by decide))
  simp only [bl_arr, hx] at h7
  have hsame : samC x.1 (d + 2) x.2 (cln (d + 1) (mkT k n s ps)) = true := sam_of (y := ⟨d + 2, cln (d + 1) (mkT k n s ps)⟩) (ha.1 _ _)
  have hxp := parse_fine (s := txtC (d + 2) (cln (d + 1) (mkT k n s ps))) (by rw [hx])
  rw [hx] at hxp
  have h8 := fun w1 => sameP x.1 (d + 2) x.2 (cln (d + 1) (mkT k n s ps)) w1 hxp.1.cl hcl (Nat.le_trans (fm_parts hxp.2).1 (by decide)) (Nat.le_trans hc1 (by decide))
  simp only [hsame, e0] at h8
  generalize (⟨(txtC (d + 2) (cln (d + 1) (mkT k n s ps))).toArray⟩ : ByteArray) = tx at *
  have hfx := exX_form x
  simp only [show exV x.1 x.2 = exX x from rfl] at h8
  generalize exX x = xv at *
  have s1 := h1 (w.alloc (.cells #[.int .i64 k, .int .i64 n, .string s, sl] 24))
  clear hsm hfp e0 hcl hc1 hsh hsame hxp ha hx hln
  rcases hfo with rfl | ⟨u, y, rfl⟩ <;> rcases hfx with rfl | ⟨u', y', rfl⟩
  all_goals
    go_enter Tryz.func4, Tryz.ntmps4
    go_wp2_with (first
      | (go_at_call 6; refine s1.mono ?_; rintro r wn ⟨rfl, bn⟩; have bb := bthen bb bn; have hA := hA.on bn; obtain ⟨y0, y1, y2, y3⟩ := id hA; have s2 := h2 wn bb; clear s1)
      | (go_at_call 7; refine s2.mono ?_; rintro r wn ⟨rfl, bn⟩; have bb := bthen bb bn; have hA := hA.on bn; obtain ⟨y0, y1, y2, y3⟩ := id hA; have s3 := h5 wn bb; clear s2)
      | (go_at_call 9; refine s3.mono ?_; rintro r wn ⟨rfl, bn⟩; have bb := bthen bb bn; have hA := hA.on bn; obtain ⟨y0, y1, y2, y3⟩ := id hA; have s4 := h6 wn (hw.below bb); clear s3)
      | (go_at_call 8; refine s4.mono ?_; rintro r wn ⟨rfl, bn⟩; have bb := bthen bb bn; have hA := hA.on bn; obtain ⟨y0, y1, y2, y3⟩ := id hA; have s5 := h7 wn; clear s4)
      | (go_at_call 14; refine s5.mono ?_; rintro r wn ⟨rfl, bn⟩; have bb := bthen bb bn; have hA := hA.on bn; obtain ⟨y0, y1, y2, y3⟩ := id hA; have s6 := h5 wn bb; clear s5)
      | (go_at_call 9; refine s6.mono ?_; rintro r wn ⟨rfl, bn⟩; have bb := bthen bb bn; have hA := hA.on bn; obtain ⟨y0, y1, y2, y3⟩ := id hA; have s7 := h8 wn; clear s6)
      | (go_at_call 15; refine s7.mono ?_; rintro r wn ⟨rfl, bn⟩; have bb := bthen bb bn; clear s7))
    go_ret
    exact ⟨rfl, bb⟩
end Go.Proofs.YtiddccohldjjcaaGreatDoor
