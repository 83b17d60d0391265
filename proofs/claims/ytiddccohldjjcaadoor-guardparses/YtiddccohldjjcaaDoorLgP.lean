
/- GuardParses: the walk. -/
import Derived.Test.YtiddccohldjjcaaDoorLgA
import Derived.Test.YtiddccohldjjcaaDoorRgG
import Derived.Test.YtiddccohldjjcaaDoorRgO
import Derived.Test.YtiddccohldjjcaaDoorExN
import Derived.Test.YtiddccohldjjcaaDoorExPf
import Derived.Deep.RegionHeld
namespace Go.Proofs.YtiddccohldjjcaaDoor
open Go.RowKit Go.Lib
set_option linter.unusedSimpArgs false
set_option linter.unusedVariables false
attribute [local go_sem ↓] Go.wp_at_zero Go.wp_at_succ
set_option maxRecDepth 100000 in
set_option maxHeartbeats 4000000 in
theorem guardParses_walk {w : World} (hT : Tabs w) (s : ByteArray) (hs : s.size ≤ 140737488351232) :
    Calls Tryd.prog 3 #[.string s] w fun e w' => e = .returned (.bool true) ∧ Below w.heap.size w w' := by
  have h1 := awakeG w
  have h2 := fun w1 => pParse_any s w1 hs
  have h3 := fun w1 hT => rParse_any s w1 hT hs
  obtain ⟨hc, _⟩ := parse_cl (bl s)
  obtain ⟨X, hX⟩ : ∃ X, parseC (bl s) = X := ⟨_, rfl⟩
  rw [hX] at hc
  simp only [hX] at h2 h3
  clear hX
  obtain ⟨⟨d, t⟩, no⟩ := X
  have h4 := fun w1 => ours_any d t w1 hc
  have h5 := fun w1 (ok ok' : Nat → Prop) v v' (ha : RdT ok w1 d t v) (hb : RdT ok' w1 d t v') => same_any d ok ok' d t t v v' w1 ha hb
  simp only [samC_refl] at h5
  simp only [show exX ⟨d, t⟩ = exV d t from rfl] at h2
  have hf := exV_form d t
  obtain ⟨ev, hev⟩ : ∃ ev, exV d t = ev := ⟨_, rfl⟩
  simp only [hev] at h2 h4 hf
  clear hev
  rcases hf with rfl | ⟨eu, ey, rfl⟩
  all_goals
    go_enter Tryd.func3, Tryd.ntmps3
    go_wp2_with (first
      | (go_at_call 5; refine h1.mono ?_; rintro e w1 ⟨rfl, b1⟩)
      | (go_at_call 6; refine (h2 _).mono ?_; rintro e w2 ⟨rfl, b2⟩; have b2 := b1.trans (b2.mono b1.size))
      | (go_at_call 7; refine (h3 _ (hT.below b2 (Nat.le_refl _))).mono ?_; rintro e w3 ⟨u, rfl, hu, b3⟩; obtain ⟨xk, xm, xs, xa, xl, xc, rfl⟩ := rdT_form (show RdT _ w3 d t u from hu); have b3' := b2.trans (b3.mono b2.size)))
    have hA := At4.newAt w3 (.int .i64 xk) (.int .i64 xm) (.string xs) (.slice xa xl xc) 30 _ rfl
    have b4 := b3'.alloc b3'.size (.cells #[.int .i64 xk, .int .i64 xm, .string xs, .slice xa xl xc] 30)
    have hu : RdT (fun _ => True) (w3.alloc (.cells #[.int .i64 xk, .int .i64 xm, .string xs, .slice xa xl xc] 30)) d t (.agg #[.int .i64 xk, .int .i64 xm, .string xs, .slice xa xl xc]) := RdT.keep (ok' := fun _ => True) (fun b _ hl => ⟨trivial, ((Below.refl w3.heap.size w3).alloc (Nat.le_refl _) _).block b hl⟩) (show RdT _ w3 d t _ from hu)
    obtain ⟨N, hN⟩ : ∃ N, w3.heap.size = N := ⟨_, rfl⟩
    rw [hN] at hA ⊢
    clear h1 h2 h3 b3 hN
    generalize w3.alloc (.cells #[.int .i64 xk, .int .i64 xm, .string xs, .slice xa xl xc] 30) = wn at *
    have bd : Below wn.heap.size wn wn.drew := (Below.refl _ _).drew
    have bb := bthen b4 bd
    have hA := hA.on bd
    have hu := RdT.below bd (Nat.le_refl _) hu
    have s1 := h4 wn.drew
    go_region_held (fun w' => w'.cell? ⟨N, 0, none⟩ = some (.int .i64 xk) ∧ w'.cell? ⟨N, 1, none⟩ = some (.int .i64 xm) ∧ w'.cell? ⟨N, 2, none⟩ = some (.string xs) ∧ w'.cell? ⟨N, 3, none⟩ = some (.slice xa xl xc))
      (first | exact ⟨hA.1, hA.2.1, hA.2.2.1, hA.2.2.2⟩ | go_keep)
      (first
        | (go_at_call 9; refine s1.mono ?_; rintro e wn ⟨u, rfl, hu4, bn⟩; obtain ⟨yk, ym, ys, ya, yl, yc, rfl⟩ := rdT_form hu4; have bb := bthen bb bn; have hA := hA.on bn; have s2 := h5 wn _ _ _ _ hu4 (RdT.below bn (Nat.le_refl _) hu); clear s1)
        | (go_at_call 8; refine s2.mono ?_; rintro e wn ⟨rfl, bn⟩; have bb := bthen bb bn; have hA := hA.on bn; clear s2))
    go_wp2
    go_ret
    exact ⟨rfl, bb⟩
end Go.Proofs.YtiddccohldjjcaaDoor
