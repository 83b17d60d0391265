
/- What the document's Readable and Print do. -/
import Derived.Test.YtiddccohldjjcaaGreatDoorRpA
import Derived.Test.YtiddccohldjjcaaGreatDoorRpB
import Derived.Test.YtiddccohldjjcaaGreatDoorPrC
namespace Go.Proofs.YtiddccohldjjcaaGreatDoor
open Go.RowKit Go.Lib
set_option linter.unusedSimpArgs false
set_option linter.unusedVariables false
attribute [local go_sem ↓] Go.wp_at_zero Go.wp_at_succ
set_option maxRecDepth 100000 in
set_option maxHeartbeats 4000000 in
theorem readable_any {ok : Nat → Prop} {d : Nat} {t : T d} {v : Value} {w : World} (hT : Tabs w) (h : RdT ok w d t v) (hn : cnt d t ≤ 1000) (hsh : shrt 1000 d t = true) :
    Calls Tryz.prog 23 #[v] w fun e w' => e = .returned (.bool (fmC d t && plC d t)) ∧ Below w.heap.size w w' := by
  have hF := fun w1 (b : Below w.heap.size w w1) => formed_any (hT.below b (Nat.le_refl _)) (RdT.below b (Nat.le_refl _) h) (by omega) hsh
  have hP := fun w1 (b : Below w.heap.size w w1) => plain_any d ok t v w1 (RdT.below b (Nat.le_refl _) h)
  generalize fmC d t = zf at *
  generalize plC d t = zp at *
  match d, t, h with
  | 0, t, _ => exact Empty.elim t
  | d + 1, t, h =>
  obtain ⟨k, n, s, ps, rfl⟩ := T.open t
  obtain ⟨sl, rfl, hp⟩ := rdT_mk.1 h
  obtain ⟨a, cap, rfl, hlc, hcm, hcell⟩ := hp.form
  have hA := At4.new w (.int .i64 k) (.int .i64 n) (.string s) (.slice a ps.length cap) 24
  have b0 := (Below.refl w.heap.size w).alloc (Nat.le_refl _) (.cells #[.int .i64 k, .int .i64 n, .string s, .slice a ps.length cap] 24)
  have s1 := hF _ b0
  clear hcell hp h hF hn hsh
  cases zf with
  | false =>
    go_enter Tryz.func23, Tryz.ntmps23
    go_wp2_with (first | (go_at_call 39; refine s1.mono ?_; rintro e w1 ⟨rfl, b1⟩; have bb := bthen b0 b1))
    go_ret
    exact ⟨rfl, bb⟩
  | true =>
    go_enter Tryz.func23, Tryz.ntmps23
    go_wp2_with (first
      | (go_at_call 39; refine s1.mono ?_; rintro e w1 ⟨rfl, b1⟩; have bb := bthen b0 b1; obtain ⟨y0, y1, y2, y3⟩ := hA.on b1; have s2 := hP w1 bb; clear s1)
      | (go_at_call 40; refine s2.mono ?_; rintro e w2 ⟨rfl, b2⟩; have bb := bthen bb b2; clear s2))
    go_ret
    exact ⟨rfl, bb⟩
set_option maxRecDepth 100000 in
set_option maxHeartbeats 4000000 in
theorem printR {ok : Nat → Prop} {d : Nat} {t : T d} {v : Value} {w : World} (hT : Tabs w) (hw : Pow w) (h : RdT ok w d t v) (hc : Cl d t) (hn : cnt d t ≤ 1000) (hsh : shrt 1000 d t = true) :
    Calls Tryz.prog 10 #[v] w fun e w' => e = .returned (.tuple #[.string ⟨(prC d t).1.toArray⟩, .int .i64 (prC d t).2]) ∧ Below w.heap.size w w' := by
  have hR := fun w1 (b : Below w.heap.size w w1) => readable_any (hT.below b (Nat.le_refl _)) (RdT.below b (Nat.le_refl _) h) hn hsh
  have hX := fun (hf : fmC d t = true) (hp : plC d t = true) w1 (b : Below w.heap.size w w1) => textR_any d ok t v w1 (RdT.below b (Nat.le_refl _) h) hc (fm_parts hf).2 (by have := txt_len hc hf hp; omega) (hw.below b)
  unfold prC
  by_cases hfp : fmC d t = true ∧ plC d t = true
  · rw [if_pos hfp]
    replace hX := hX hfp.1 hfp.2
    simp only [hfp.1, hfp.2, Bool.and_true] at hR
    generalize txtC d t = X at *
    clear hfp
    match d, t, h with
    | 0, t, _ => exact Empty.elim t
    | d + 1, t, h =>
    obtain ⟨k, n, s, ps, rfl⟩ := T.open t
    obtain ⟨sl, rfl, hp⟩ := rdT_mk.1 h
    obtain ⟨a, cap, rfl, hlc, hcm, hcell⟩ := hp.form
    have hA := At4.new w (.int .i64 k) (.int .i64 n) (.string s) (.slice a ps.length cap) 24
    have b0 := (Below.refl w.heap.size w).alloc (Nat.le_refl _) (.cells #[.int .i64 k, .int .i64 n, .string s, .slice a ps.length cap] 24)
    have s1 := hR _ b0
    clear hcell hp h hR hn hsh hc
    go_enter Tryz.func10, Tryz.ntmps10
    go_wp2_with (first
      | (go_at_call 23; refine s1.mono ?_; rintro e w1 ⟨rfl, b1⟩; have bb := bthen b0 b1; obtain ⟨y0, y1, y2, y3⟩ := hA.on b1; have s2 := hX w1 bb; clear s1)
      | (go_at_call 24; refine s2.mono ?_; rintro e w2 ⟨rfl, b2⟩; have bb := bthen bb b2; clear s2))
    go_ret2
    exact ⟨rfl, bb⟩
  · rw [if_neg hfp]
    have hz : (fmC d t && plC d t) = false := by
      cases h1 : fmC d t with
      | false => rfl
      | true => cases h2 : plC d t with
        | false => rfl
        | true => exact absurd ⟨h1, h2⟩ hfp
    simp only [hz] at hR
    clear hfp hz hX
    match d, t, h with
    | 0, t, _ => exact Empty.elim t
    | d + 1, t, h =>
    obtain ⟨k, n, s, ps, rfl⟩ := T.open t
    obtain ⟨sl, rfl, hp⟩ := rdT_mk.1 h
    obtain ⟨a, cap, rfl, hlc, hcm, hcell⟩ := hp.form
    have b0 := (Below.refl w.heap.size w).alloc (Nat.le_refl _) (.cells #[.int .i64 k, .int .i64 n, .string s, .slice a ps.length cap] 24)
    have s1 := hR _ b0
    clear hcell hp h hR hn hsh hc
    go_enter Tryz.func10, Tryz.ntmps10
    go_wp2_with (first
      | (go_at_call 23; refine s1.mono ?_; rintro e w1 ⟨rfl, b1⟩; have bb := bthen b0 b1))
    go_ret2
    exact ⟨rfl, bb⟩
end Go.Proofs.YtiddccohldjjcaaGreatDoor
