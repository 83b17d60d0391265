
/- GuardPrints: the walk. -/
import Derived.Test.YtiddccohldjjcaaGreatDoorLgA
import Derived.Test.YtiddccohldjjcaaGreatDoorRpC
import Derived.Test.YtiddccohldjjcaaGreatDoorExA
import Derived.Test.YtiddccohldjjcaaGreatDoorExB
import Derived.Test.YtiddccohldjjcaaGreatDoorExD
import Derived.Deep.RegionHeld
namespace Go.Proofs.YtiddccohldjjcaaGreatDoor
open Go.RowKit Go.Lib
set_option linter.unusedSimpArgs false
set_option linter.unusedVariables false
attribute [local go_sem ↓] Go.wp_at_zero Go.wp_at_succ
set_option maxRecDepth 100000 in
set_option maxHeartbeats 4000000 in
theorem guardPrints_walk {w : World} (hT : Tabs w) (hw : Pow w) {d : Nat} {t : T d} {v : Value} (h : RdT (fun _ => True) w d t v) (q : ByteArray) (hq : q.size ≤ 140737488351232) :
    Calls Tryz.prog 3 #[v, .string q] w fun r w' => r = .returned (.bool true) ∧ Below w.heap.size w w' := by
  match d, t, h with
  | 0, t, _ => exact Empty.elim t
  | d + 1, t, h =>
  obtain ⟨k, n, s, ps, rfl⟩ := T.open t
  have h0 := h
  obtain ⟨sl, rfl, _⟩ := rdT_mk.1 h
  clear h
  have bb := (Below.refl w.heap.size w).alloc (Nat.le_refl _) (.cells #[.int .i64 k, .int .i64 n, .string s, sl] 24)
  have hA := At4.new w (.int .i64 k) (.int .i64 n) (.string s) sl 24
  have h1 := fun w1 => awakeG w1
  have h2 := fun w1 (b : Below w.heap.size w w1) => refSmallTop_any (RdT.below b (Nat.le_refl _) h0)
  have s1 := h1 (w.alloc (.cells #[.int .i64 k, .int .i64 n, .string s, sl] 24))
  by_cases hsm : 0 ≤ sml (d + 1) (mkT k n s ps) 0 200
  case neg =>
    simp only [decide_eq_false hsm] at h2
    clear hsm
    go_enter Tryz.func3, Tryz.ntmps3
    go_wp2_with (first
      | (go_at_call 6; refine s1.mono ?_; rintro r wn ⟨rfl, bn⟩; have bb := bthen bb bn; have hA := hA.on bn; obtain ⟨y0, y1, y2, y3⟩ := id hA; have s2 := h2 wn bb; clear s1)
      | (go_at_call 7; refine s2.mono ?_; rintro r wn ⟨rfl, bn⟩; have bb := bthen bb bn; have hA := hA.on bn; obtain ⟨y0, y1, y2, y3⟩ := id hA; have s3 := h1 wn; clear s2)
      | (go_at_call 6; refine s3.mono ?_; rintro r wn ⟨rfl, bn⟩; have bb := bthen bb bn; clear s3))
    go_ret
    exact ⟨rfl, bb⟩
  simp only [decide_eq_true hsm] at h2
  obtain ⟨hc1, hsh⟩ := small_cln hsm
  have hcl := cl_cln (d + 1) (mkT k n s ps)
  have h5 := fun w1 (b : Below w.heap.size w w1) => theirs_any (d + 1) _ _ _ w1 (RdT.below b (Nat.le_refl _) h0)
  have h6 := fun w1 hp => printP w1 hcl hc1 hsh hp
  rw [exV_cln] at h6
  have h7 := fun w1 (b : Below w.heap.size w w1) => clean_any (d + 1) _ _ _ w1 (RdT.below b (Nat.le_refl _) h0)
  have h8 := fun w1 (lo : Nat) (x : Value) (b : Below w.heap.size w w1) (hx : RdT (fun b => lo ≤ b) w1 (d + 2) (cln (d + 1) (mkT k n s ps)) x) => printR (hT.below b (Nat.le_refl _)) (hw.below b) hx hcl hc1 hsh
  have h9 := fun w1 => pReserved_any q w1
  have h10 := fun w1 => rReserved_any q w1
  obtain ⟨ex, hex⟩ : ∃ ex, exV (d + 1) (mkT k n s ps) = ex := ⟨_, rfl⟩
  have hfo : ex = .nilIface ∨ ∃ u y, ex = .iface u y := by rw [← hex]; exact exV_form _ _
  simp only [hex] at h5 h6
  generalize (⟨(prC (d + 2) (cln (d + 1) (mkT k n s ps))).1.toArray⟩ : ByteArray) = tx at *
  generalize (prC (d + 2) (cln (d + 1) (mkT k n s ps))).2 = no at *
  generalize rsvB (bl q) = zq at *
  clear hex hsm hcl hc1 hsh
  rcases hfo with rfl | ⟨u, y, rfl⟩
  all_goals
    go_enter Tryz.func3, Tryz.ntmps3
    go_wp2_with (first
      | (go_at_call 6; refine s1.mono ?_; rintro r wn ⟨rfl, bn⟩; have bb := bthen bb bn; have hA := hA.on bn; obtain ⟨y0, y1, y2, y3⟩ := id hA; have s2 := h2 wn bb; clear s1)
      | (go_at_call 7; refine s2.mono ?_; rintro r wn ⟨rfl, bn⟩; have bb := bthen bb bn; have hA := hA.on bn; obtain ⟨y0, y1, y2, y3⟩ := id hA; have s3 := h5 wn bb; clear s2)
      | (go_at_call 9; refine s3.mono ?_; rintro r wn ⟨rfl, bn⟩; have bb := bthen bb bn; have hA := hA.on bn; obtain ⟨y0, y1, y2, y3⟩ := id hA; have s4 := h6 wn (hw.below bb); clear s3)
      | (go_at_call 8; refine s4.mono ?_; rintro r wn ⟨rfl, bn⟩; have bb := bthen bb bn; have hA := hA.on bn; obtain ⟨y0, y1, y2, y3⟩ := id hA; have s5 := h7 wn bb; clear s4)
      | (go_at_call 11; refine s5.mono ?_; rintro r wn ⟨x1, rfl, hx1, bn⟩; have bb := bthen bb bn; have hA := hA.on bn; obtain ⟨y0, y1, y2, y3⟩ := id hA; have s6 := h8 wn _ x1 bb hx1; clear s5)
      | (go_at_call 10; refine s6.mono ?_; rintro r wn ⟨rfl, bn⟩; have bb := bthen bb bn; clear s6)
      | (go_at_call 12; refine (h9 _).mono ?_; rintro r wm ⟨rfl, rfl⟩)
      | (go_at_call 13; refine (h10 _).mono ?_; rintro r wm ⟨rfl, rfl⟩))
    go_ret
    exact ⟨rfl, bb⟩
end Go.Proofs.YtiddccohldjjcaaGreatDoor
