/- The walk of GlyphRemarks, of what is asked of the program's calls. -/
import Derived.Test.YtlnldpkackmceaaGlyL
namespace Go.Proofs.Ytlnldpkackmceaa
open Go.RowKit Go.Lib
set_option linter.unusedSimpArgs false
set_option linter.unusedVariables false

set_option maxRecDepth 100000 in
set_option maxHeartbeats 4000000 in
theorem glyphRemarks_of (G : GC) {w : World} (s : ByteArray) (hs : s.size ≤ 140737488351232) (m : ByteArray) (hm : m.size ≤ 140737488351232) (b : ByteArray) (hb : b.size ≤ 140737488351232) :
    Calls Try.prog 5 #[.string s, .string m, .string b] w fun e w' => e = .returned (.bool true) ∧ Below w.heap.size w w' := by
  have h1 := awake_any G w
  have h1b := fun w1 (bb : Below w.heap.size w w1) => awake_any G w1
  by_cases hbig : 3000 < s.size ∨ 3000 < b.size ∨ 3000 < m.size
  · clear hs hm hb
    rcases Nat.lt_or_ge 3000 s.size with k1 | k1
    · have q1 : (s.size : Int) > 3000 := by omega
      go_enter Try.func5, Try.ntmps5
      go_wp2_with (first
        | (go_at_call 6; refine h1.mono ?_; rintro e w1 ⟨rfl, b1⟩; have h1' := h1b w1 b1; clear h1 h1b)
        | (go_at_call 6; refine h1'.mono ?_; rintro e w2 ⟨rfl, b2⟩; have b3 := b1.trans (b2.mono b1.size); clear h1'))
      go_ret
      exact ⟨rfl, b3⟩
    have q1 : ¬ (s.size : Int) > 3000 := by omega
    rcases Nat.lt_or_ge 3000 b.size with k2 | k2
    · have q2 : (b.size : Int) > 3000 := by omega
      go_enter Try.func5, Try.ntmps5
      go_wp2_with (first
        | (go_at_call 6; refine h1.mono ?_; rintro e w1 ⟨rfl, b1⟩; have h1' := h1b w1 b1; clear h1 h1b)
        | (go_at_call 6; refine h1'.mono ?_; rintro e w2 ⟨rfl, b2⟩; have b3 := b1.trans (b2.mono b1.size); clear h1'))
      go_ret
      exact ⟨rfl, b3⟩
    have q2 : ¬ (b.size : Int) > 3000 := by omega
    have q3 : (m.size : Int) > 3000 := by omega
    go_enter Try.func5, Try.ntmps5
    go_wp2_with (first
      | (go_at_call 6; refine h1.mono ?_; rintro e w1 ⟨rfl, b1⟩; have h1' := h1b w1 b1; clear h1 h1b)
      | (go_at_call 6; refine h1'.mono ?_; rintro e w2 ⟨rfl, b2⟩; have b3 := b1.trans (b2.mono b1.size); clear h1'))
    go_ret
    exact ⟨rfl, b3⟩
  have q1 : ¬ (s.size : Int) > 3000 := by omega
  have q2 : ¬ (b.size : Int) > 3000 := by omega
  have q3 : ¬ (m.size : Int) > 3000 := by omega
  have k1 : s.size ≤ 3000 := by omega
  have k2 : b.size ≤ 3000 := by omega
  have k3 : m.size ≤ 3000 := by omega
  have hlenm : (bl m).length = m.size := rfl
  clear h1b hs hm hb hbig
  go_enter Try.func5, Try.ntmps5
  go_wp2_with (first
    | (go_at_call 6; refine h1.mono ?_; rintro e w1 ⟨rfl, b1⟩; clear h1))
  go_loop [7] (fun a => ∃ (k : Nat), k ≤ m.size ∧ a = .int .i64 (k : Int) ∧ Hid (∀ (i : Nat) (hi : i < (bl m).length), i < k → ((bl m)[i]).toNat ≠ 10)) (fun a => m.size - (RowKit.intOf a).toNat)
  case atStart => exact ⟨0, by omega, rfl, fun i hi h => by omega⟩
  case round =>
    obtain ⟨k, hk, rfl, hno⟩ := hrel
    by_cases hlt : k < m.size
    · have e5 : (k : Int) < (m.size : Int) := by omega
      have e6 : (0 : Int) ≤ (k : Int) := by omega
      obtain ⟨d, hd⟩ : ∃ d, m[k] = d := ⟨_, rfl⟩
      have hdl : (bl m)[k]'(by rw [hlenm]; exact hlt) = d := by rw [← get_bl]; exact hd
      by_cases h10 : d.toNat = 10
      · have e7 : ((d.toNat : Int) == 10) = true := by simp; omega
        clear hdl h10
        go_wp2
        go_ret
        exact ⟨rfl, b1⟩
      · have e7 : ((d.toNat : Int) == 10) = false := beq_eq_false_iff_ne.2 (by omega)
        have hn : Hid (∀ (i : Nat) (hi : i < (bl m).length), i < k + 1 → ((bl m)[i]).toNat ≠ 10) := fun i hi h => by
          rcases Nat.lt_or_ge i k with h2 | h2
          · exact hno.out i hi h2
          · have : i = k := by omega
            subst this
            rw [hdl]; exact h10
        clear hdl h10
        go_wp2
        go_round
        case rel => exact ⟨k + 1, by omega, by go_num, hn⟩
        case measure => simp [RowKit.intOf]; omega
    · have e5 : ¬ (k : Int) < (m.size : Int) := by omega
      have hnf : (10 : UInt8) ∉ bl m := feed_not (fun i hi => hno.out i hi (by rw [hlenm] at hi; omega))
      have hrk := words_remark (l := bl s) (rem := bl m) (beh := bl b) k1 k3 k2 hnf
      have ht1 : bl (s ++ ⟨#[10]⟩ ++ b) = bl s ++ 10 :: bl b := by rw [bl_cat, bl_cat, List.append_assoc]; rfl
      have ht2 : bl (s ++ ⟨#[10, 35]⟩ ++ m ++ ⟨#[10]⟩ ++ b) = bl s ++ 10 :: 35 :: (bl m ++ 10 :: bl b) := by rw [bl_cat, bl_cat, bl_cat, bl_cat]; simp [List.append_assoc, bl]
      rw [← ht1, ← ht2] at hrk
      have z1 : (s ++ ⟨#[10]⟩ ++ b : ByteArray).size ≤ 140737488351232 := by rw [ByteArray.size_append, ByteArray.size_append]; show s.size + 1 + b.size ≤ _; omega
      have z2 : (s ++ ⟨#[10, 35]⟩ ++ m ++ ⟨#[10]⟩ ++ b : ByteArray).size ≤ 140737488351232 := by rw [ByteArray.size_append, ByteArray.size_append, ByteArray.size_append, ByteArray.size_append]; show s.size + 2 + m.size + 1 + b.size ≤ _; omega
      have hw2 := G.words (s ++ ⟨#[10]⟩ ++ b) w1 z1
      have hw3 := fun w2 (bb : Below w.heap.size w w2) => G.words (s ++ ⟨#[10, 35]⟩ ++ m ++ ⟨#[10]⟩ ++ b) w2 z2
      obtain ⟨⟨X, ⟨pL, pC⟩, e1⟩, hx⟩ : ∃ y, wordsS (bl (s ++ ⟨#[10]⟩ ++ b)) = y := ⟨_, rfl⟩
      obtain ⟨⟨Y, ⟨qL, qC⟩, e2⟩, hy⟩ : ∃ y, wordsS (bl (s ++ ⟨#[10, 35]⟩ ++ m ++ ⟨#[10]⟩ ++ b)) = y := ⟨_, rfl⟩
      have hfew := words_few (bl (s ++ ⟨#[10]⟩ ++ b))
      rw [hx, hy] at hrk
      rw [hx] at hw2 hfew
      simp only [hy] at hw3
      have hmap : X.map (fun w => (w.1, w.2.1)) = Y.map (fun w => (w.1, w.2.1)) := congrArg Prod.fst hrk
      have he2 : e1 = e2 := congrArg Prod.snd hrk
      subst he2
      have hYX : Y.length = X.length := by have := congrArg List.length hmap; simpa using this.symm
      have HY : Hid (∀ (i : Nat) (hi : i < Y.length) (hj : i < X.length), (Y[i]).1 = (X[i]).1 ∧ (Y[i]).2.1 = (X[i]).2.1) := fun i hi hj => by
        have h1 : (Y.map (fun w => (w.1, w.2.1)))[i]? = (X.map (fun w => (w.1, w.2.1)))[i]? := by rw [hmap]
        rw [List.getElem?_map, List.getElem?_map, List.getElem?_eq_getElem hi, List.getElem?_eq_getElem hj] at h1
        simp only [Option.map_some, Option.some.injEq, Prod.mk.injEq] at h1
        exact h1
      have l2 : ((Y.length : Int) != (X.length : Int)) = false := by rw [hYX]; simp
      have r1 : s.size + 1 ≤ 9223372036854775807 := by omega
      have r2 : s.size + 1 + b.size ≤ 9223372036854775807 := by omega
      have r3 : s.size + 2 + m.size ≤ 9223372036854775807 := by omega
      have r4 : s.size + 2 + m.size + 1 ≤ 9223372036854775807 := by omega
      have r5 : s.size + 2 + m.size + 1 + b.size ≤ 9223372036854775807 := by omega
      clear hrk hx hy hmap ht1 ht2 hnf hno z1 z2 hlenm
      go_wp2_with (first
        | (go_at_call 7; refine hw2.mono ?_; rintro e w2 ⟨u2, rfl, o2, hb2⟩; have b2 := b1.trans (hb2.mono b1.size); obtain ⟨a2, cap2, hu2, hcap2, HC⟩ := formW (o2.below ((Below.refl _ _).alloc (Nat.le_refl _) (.cells #[.int .i64 pL, .int .i64 pC] 25)) (Nat.le_refl _)); subst hu2; have b2' := b2.alloc b2.size (.cells #[.int .i64 pL, .int .i64 pC] 25); have HCC : Hid (∀ (i : Nat) (hi : i < X.length), ∃ g, a2 = some ⟨g, 0, none⟩ ∧ g < (w2.alloc (.cells #[.int .i64 pL, .int .i64 pC] 25)).heap.size ∧ (w2.alloc (.cells #[.int .i64 pL, .int .i64 pC] 25)).cell? ⟨g, i * 4, none⟩ = some (.int .i64 ((X[i]).1 : Int)) ∧ (w2.alloc (.cells #[.int .i64 pL, .int .i64 pC] 25)).cell? ⟨g, i * 4 + 1, none⟩ = some (.string (txt (X[i]).2.1)) ∧ (w2.alloc (.cells #[.int .i64 pL, .int .i64 pC] 25)).cell? ⟨g, i * 4 + 2, none⟩ = some (.int .i64 (X[i]).2.2.1) ∧ (w2.alloc (.cells #[.int .i64 pL, .int .i64 pC] 25)).cell? ⟨g, i * 4 + 3, none⟩ = some (.int .i64 (X[i]).2.2.2)) := HC; have hw3' := hw3 _ b2'; clear hw2 hw3 b1 hb2 o2 b2 HC)
        | (go_at_call 7; refine hw3'.mono ?_; rintro e w3 ⟨u3, rfl, o3, hb3⟩; have b3 := b2'.trans (hb3.mono b2'.size); obtain ⟨a3, cap3, hu3, hcap3, HD⟩ := formW (o3.below ((Below.refl _ _).alloc (Nat.le_refl _) (.cells #[.int .i64 qL, .int .i64 qC] 25)) (Nat.le_refl _)); subst hu3; have b4 := b3.alloc b3.size (.cells #[.int .i64 qL, .int .i64 qC] 25); have b5 := hb3.alloc hb3.size (.cells #[.int .i64 qL, .int .i64 qC] 25); have HDD : Hid (∀ (i : Nat) (hi : i < Y.length), ∃ g, a3 = some ⟨g, 0, none⟩ ∧ g < (w3.alloc (.cells #[.int .i64 qL, .int .i64 qC] 25)).heap.size ∧ (w3.alloc (.cells #[.int .i64 qL, .int .i64 qC] 25)).cell? ⟨g, i * 4, none⟩ = some (.int .i64 ((Y[i]).1 : Int)) ∧ (w3.alloc (.cells #[.int .i64 qL, .int .i64 qC] 25)).cell? ⟨g, i * 4 + 1, none⟩ = some (.string (txt (Y[i]).2.1)) ∧ (w3.alloc (.cells #[.int .i64 qL, .int .i64 qC] 25)).cell? ⟨g, i * 4 + 2, none⟩ = some (.int .i64 (Y[i]).2.2.1) ∧ (w3.alloc (.cells #[.int .i64 qL, .int .i64 qC] 25)).cell? ⟨g, i * 4 + 3, none⟩ = some (.int .i64 (Y[i]).2.2.2)) := HD; clear hw3' HD o3 b3 hb3))
      go_loopw [76] (fun i wr => ∃ j : Nat, j ≤ X.length ∧ i = .int .i64 (j : Int) ∧ Below (w3.alloc (.cells #[.int .i64 qL, .int .i64 qC] 25)).heap.size (w3.alloc (.cells #[.int .i64 qL, .int .i64 qC] 25)) wr) (fun i _ => X.length - (RowKit.intOf i).toNat)
      case atStart => exact ⟨0, Nat.zero_le _, rfl, Below.refl _ _⟩
      case round =>
        obtain ⟨j, hj, rfl, hbel⟩ := hrel
        by_cases hjl : j < X.length
        · obtain ⟨g3, hg3, hgl3, d0, d1, _, _⟩ := HDD.out j (by omega)
          obtain ⟨g2, hg2, hgl2, c0, c1, _, _⟩ := HCC.out j hjl
          obtain ⟨q1, q2⟩ := HY.out j (by omega) hjl
          rw [q1] at d0
          rw [q2] at d1
          subst hg3
          subst hg2
          have hgl4 := Nat.lt_of_lt_of_le hgl2 b5.size
          have C0 := (hbel.cell (p := ⟨g2, j * 4, none⟩) hgl4).trans ((b5.cell (p := ⟨g2, j * 4, none⟩) hgl2).trans c0)
          have C1 := (hbel.cell (p := ⟨g2, j * 4 + 1, none⟩) hgl4).trans ((b5.cell (p := ⟨g2, j * 4 + 1, none⟩) hgl2).trans c1)
          have D0 := (hbel.cell (p := ⟨g3, j * 4, none⟩) hgl3).trans d0
          have D1 := (hbel.cell (p := ⟨g3, j * 4 + 1, none⟩) hgl3).trans d1
          obtain ⟨xk, hxk⟩ : ∃ x, (((X[j]).1 : Nat) : Int) = x := ⟨_, rfl⟩
          obtain ⟨xt, hxt⟩ : ∃ x, txt (X[j]).2.1 = x := ⟨_, rfl⟩
          rw [hxk] at C0 D0
          rw [hxt] at C1 D1
          have i1 : (j : Int) < (Y.length : Int) := by omega
          have i3 : (j : Int) < (X.length : Int) := by omega
          have i2 : (0 : Int) ≤ (j : Int) := by omega
          clear c0 c1 d0 d1 hxk hxt q1 q2 hgl2 hgl3 hgl4
          go_wp2
          go_quiet (fail)
          go_wp2
          go_roundw
          case rel => exact ⟨j + 1, hjl, by go_num, hbel.trans ⟨rfl, rfl, rfl, Nat.le_refl _, fun _ _ => rfl⟩⟩
          case measure => simp [RowKit.intOf]; omega
        · have i1 : ¬ (j : Int) < (X.length : Int) := by omega
          go_wp2
          go_ret
          exact ⟨rfl, b4.trans (hbel.mono b4.size)⟩
end Go.Proofs.Ytlnldpkackmceaa
