
/- GuardAgain: the walk. -/
import Derived.Test.YtiddccohldjjcaaGreatDoorLgA
import Derived.Test.YtiddccohldjjcaaGreatDoorPrC
import Derived.Deep.RegionHeld
namespace Go.Proofs.YtiddccohldjjcaaGreatDoor
open Go.RowKit Go.Lib
set_option linter.unusedSimpArgs false
set_option linter.unusedVariables false
attribute [local go_sem ↓] Go.wp_at_zero Go.wp_at_succ
set_option maxRecDepth 100000 in
set_option maxHeartbeats 4000000 in
theorem few_anyG (s : ByteArray) (w : World) : Calls Tryz.prog 16 #[.string s] w fun e w' => e = .returned (.bool (decide (s.size ≤ 12000))) ∧ w' = w := by
  by_cases h : s.size ≤ 12000
  · have h' : ((s.size : Nat) : Int) ≤ 12000 := by omega
    rw [decide_eq_true h]
    go_enter Tryz.func16, Tryz.ntmps16
    go_wp2
    go_ret
    simp [h']
  · have h' : ¬ ((s.size : Nat) : Int) ≤ 12000 := by omega
    rw [decide_eq_false h]
    go_enter Tryz.func16, Tryz.ntmps16
    go_wp2
    go_ret
    simp [h']
theorem bl_arrG (l : List UInt8) : bl ⟨l.toArray⟩ = l := rfl
set_option maxRecDepth 100000 in
set_option maxHeartbeats 4000000 in
theorem guardAgain_walk {w : World} (hw : Pow w) (s : ByteArray) (hs : s.size ≤ 140737488351232) :
    Calls Tryz.prog 5 #[.string s] w fun r w' => r = .returned (.bool true) ∧ Below w.heap.size w w' := by
  have h1 := fun w1 => awakeG w1
  have h0 := fun w1 => few_anyG s w1
  have h2 := fun w1 => pParse_any s w1 hs
  have s1 := h1 w
  by_cases hfew : s.size ≤ 12000
  case neg =>
    simp only [decide_eq_false hfew] at h0
    clear hfew
    go_enter Tryz.func5, Tryz.ntmps5
    go_wp2_with (first
      | (go_at_call 6; refine s1.mono ?_; rintro e w1 ⟨rfl, b1⟩; have s2 := h1 w1; clear s1)
      | (go_at_call 16; refine (h0 _).mono ?_; rintro e w2 ⟨rfl, rfl⟩)
      | (go_at_call 6; refine s2.mono ?_; rintro e w3 ⟨rfl, b3⟩; clear s2))
    go_ret
    exact ⟨rfl, bthen b1 b3⟩
  simp only [decide_eq_true hfew] at h0
  by_cases her : (parseC (bl s)).2 = 0
  case neg =>
    have hno := parse_no her
    rw [hno] at h2
    have e0 : exX noX = .nilIface := rfl
    simp only [e0] at h2
    generalize (parseC (bl s)).2 = er at *
    clear hno e0
    go_enter Tryz.func5, Tryz.ntmps5
    go_wp2_with (first
      | (go_at_call 6; refine s1.mono ?_; rintro e w1 ⟨rfl, b1⟩; clear s1)
      | (go_at_call 16; refine (h0 _).mono ?_; rintro e w2 ⟨rfl, rfl⟩)
      | (go_at_call 14; refine (h2 _).mono ?_; rintro e w3 ⟨rfl, b3⟩; have b3' := bthen b1 b3))
    go_ret
    exact ⟨rfl, b3'⟩
  obtain ⟨hfi, hfm⟩ := parse_fine her
  obtain ⟨X, hX⟩ : ∃ X, parseC (bl s) = X := ⟨_, rfl⟩
  rw [hX] at her hfi hfm
  simp only [hX, her] at h2
  clear hX her
  obtain ⟨⟨d, t⟩, no⟩ := X
  have hcl : Cl d t := hfi.cl
  have hpl : plC d t = true := hfi.pl
  have hfm : fmC d t = true := hfm
  have hsh : shrt 1000 d t = true := hfi.sh
  have h40 := (fm_parts hfm).1
  have h3 := fun w1 hp => printP w1 hcl (by omega) hsh hp
  unfold prC at h3
  simp only [if_pos (show fmC d t = true ∧ plC d t = true from ⟨hfm, hpl⟩)] at h3
  have hln := txt_len hcl hfm hpl
  obtain ⟨y, hy, hya⟩ := parse_printed hcl hfm hpl
  obtain ⟨z, hz, hza⟩ := parse_par hcl hfm hpl
  have h4 := fun w1 => pParse_any ⟨(txtC d t).toArray⟩ w1 (Nat.le_trans hln (by decide))
  have h5 := fun w1 => pParse_any ⟨(40 :: (txtC d t ++ [41])).toArray⟩ w1 (by show (40 :: (txtC d t ++ [41])).length ≤ _; simp only [List.length_cons, List.length_append, List.length_nil]; omega)
  simp only [bl_arrG, hy] at h4
  simp only [bl_arrG, hz] at h5
  have a1 := add_ok ⟨#[40]⟩ ⟨(txtC d t).toArray⟩ ⟨(40 :: txtC d t).toArray⟩ (by show 1 + (txtC d t).length ≤ _; omega) rfl
  have a2 := add_ok ⟨(40 :: txtC d t).toArray⟩ ⟨#[41]⟩ ⟨(40 :: (txtC d t ++ [41])).toArray⟩ (by show (txtC d t).length + 1 + 1 ≤ _; omega) rfl
  have hyp := parse_fine (s := txtC d t) (by rw [hy])
  rw [hy] at hyp
  have hzp := parse_fine (s := 40 :: (txtC d t ++ [41])) (by rw [hz])
  rw [hz] at hzp
  have sy : samC d y.1 t y.2 = true := sam_of (x := ⟨d, t⟩) (hya.1 _ _).symm
  have sz : samC d z.1 t z.2 = true := sam_of (x := ⟨d, t⟩) (hza.1 _ _).symm
  have h6 := fun w1 => sameP d y.1 t y.2 w1 hcl hyp.1.cl (Nat.le_trans h40 (by decide)) (Nat.le_trans (fm_parts hyp.2).1 (by decide))
  have h7 := fun w1 => sameP d z.1 t z.2 w1 hcl hzp.1.cl (Nat.le_trans h40 (by decide)) (Nat.le_trans (fm_parts hzp.2).1 (by decide))
  simp only [sy] at h6
  simp only [sz] at h7
  have fx := exV_form d t
  have fy := exX_form y
  have fz := exX_form z
  simp only [show exV y.1 y.2 = exX y from rfl] at h6
  simp only [show exV z.1 z.2 = exX z from rfl] at h7
  simp only [show exX ⟨d, t⟩ = exV d t from rfl] at h2
  generalize exX y = yv at *
  generalize exX z = zv at *
  generalize exV d t = xv at *
  generalize (⟨(40 :: (txtC d t ++ [41])).toArray⟩ : ByteArray) = tz at *
  generalize (⟨(40 :: txtC d t).toArray⟩ : ByteArray) = ty at *
  generalize (⟨(txtC d t).toArray⟩ : ByteArray) = tx at *
  clear hfi hcl hpl hfm hsh h40 hln hy hz hya hza hyp hzp sy sz hfew hs
  rcases fx with rfl | ⟨u1, x1, rfl⟩ <;> rcases fy with rfl | ⟨u2, x2, rfl⟩ <;> rcases fz with rfl | ⟨u3, x3, rfl⟩
  all_goals
    go_enter Tryz.func5, Tryz.ntmps5
    go_wp2_with (first
      | (go_at_call 6; refine s1.mono ?_; rintro e w1 ⟨rfl, b1⟩; clear s1)
      | (go_at_call 16; refine (h0 _).mono ?_; rintro e w2 ⟨rfl, rfl⟩; have s2 := h2 w2)
      | (go_at_call 14; refine s2.mono ?_; rintro e wn ⟨rfl, bn⟩; have bb := bthen b1 bn; have s3 := h3 wn (hw.below bb); clear s2)
      | (go_at_call 8; refine s3.mono ?_; rintro e wn ⟨rfl, bn⟩; have bb := bthen bb bn; have s4 := h4 wn; clear s3)
      | (go_at_call 14; refine s4.mono ?_; rintro e wn ⟨rfl, bn⟩; have bb := bthen bb bn; have s5 := h5 wn; clear s4)
      | (go_at_call 14; refine s5.mono ?_; rintro e wn ⟨rfl, bn⟩; have bb := bthen bb bn; have s6 := h6 wn; clear s5)
      | (go_at_call 15; refine s6.mono ?_; rintro e wn ⟨rfl, bn⟩; have bb := bthen bb bn; have s7 := h7 wn; clear s6)
      | (go_at_call 15; refine s7.mono ?_; rintro e wn ⟨rfl, bn⟩; have bb := bthen bb bn; clear s7))
    go_ret
    exact ⟨rfl, bb⟩
end Go.Proofs.YtiddccohldjjcaaGreatDoor
