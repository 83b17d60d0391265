/- The walk of GlyphAgain, of what is asked of the program's calls. -/
import Derived.Test.YtlnldpkackmceaaGlyL
namespace Go.Proofs.Ytlnldpkackmceaa
open Go.RowKit Go.Lib
set_option linter.unusedSimpArgs false
set_option linter.unusedVariables false

set_option maxRecDepth 100000 in
set_option maxHeartbeats 2000000 in
theorem glyphAgain_of (G : GC) {w : World} (s : ByteArray) (hs : s.size ≤ 140737488351232) :
    Calls Try.prog 3 #[.string s] w fun e w' => e = .returned (.bool true) ∧ Below w.heap.size w w' := by
  have h1 := awake_any G w
  have h2 := fun w1 (b : Below w.heap.size w w1) => G.words s w1 hs
  have hfew := words_few (bl s)
  obtain ⟨⟨X, ⟨pL, pC⟩, er⟩, hx⟩ : ∃ x, wordsS (bl s) = x := ⟨_, rfl⟩
  by_cases he : er = 0
  case neg =>
    have hX : X = [] := by have := words_err (l := bl s) (by rw [hx]; exact he); rw [hx] at this; exact this
    subst hX
    simp only [hx] at h2
    have he' : (er != 0) = true := by simpa using he
    clear hx
    go_enter Try.func3, Try.ntmps3
    go_wp2_with (first
      | (go_at_call 6; refine h1.mono ?_; rintro e w1 ⟨rfl, b1⟩; have h2' := h2 w1 b1; clear h1 h2)
      | (go_at_call 7; refine h2'.mono ?_; rintro e w2 ⟨u2, rfl, o2, hb2⟩; have b2 := b1.trans (hb2.mono b1.size); obtain ⟨a2, cap2, hu2, _, _⟩ := formW o2; have hu2' : u2 = .slice a2 0 cap2 := hu2; subst hu2'; have b2' := b2.alloc b2.size (.cells #[.int .i64 pL, .int .i64 pC] 25); clear h2' b1 hb2 o2))
    go_ret
    exact ⟨rfl, b2'⟩
  subst he
  have hLong : ∀ t : ByteArray, bl t = text X → 12000 < t.size → wordsS (bl t) = ([], (1, 1), 4) := fun t ht hl => words_long (show 12000 < (bl t).length from hl)
  have hShort : ∀ t : ByteArray, bl t = text X → ¬ 12000 < t.size → er (wordsS (bl t)) = (X.map (fun w => (w.1, w.2.1)), 0) := fun t ht hl => by
    have e1 : (wordsS (bl s)).2.2 = 0 := by rw [hx]
    have e2 : (wordsS (bl s)).1 = X := by rw [hx]
    have := words_again (l := bl s) e1 (by rw [e2, ← ht]; exact hl)
    rw [e2, ← ht] at this
    rw [this, hx]; rfl
  have HL : Hid (∀ t : ByteArray, bl t = text X → 12000 < t.size → wordsS (bl t) = ([], (1, 1), 4)) := hLong
  have HS : Hid (∀ t : ByteArray, bl t = text X → ¬ 12000 < t.size → er (wordsS (bl t)) = (X.map (fun w => (w.1, w.2.1)), 0)) := hShort
  have hTX : Hid ((text X).length ≤ 15000) := by
    have hl : (bl s).length ≤ 12000 := by
      rcases Nat.lt_or_ge 12000 (bl s).length with h | h
      · have := words_long h; rw [hx] at this; simp at this
      · exact h
    have := words_size (bl s) hl
    rw [hx] at this
    exact this
  simp only [hx] at h2 hfew
  clear hx hLong hShort
  go_enter Try.func3, Try.ntmps3
  go_wp2_with (first
    | (go_at_call 6; refine h1.mono ?_; rintro e w1 ⟨rfl, b1⟩; have h2' := h2 w1 b1; clear h1 h2)
    | (go_at_call 7; refine h2'.mono ?_; rintro e w2 ⟨u2, rfl, o2, hb2⟩; have b2 := b1.trans (hb2.mono b1.size); obtain ⟨a2, cap2, hu2, hcap2, HC⟩ := formW (o2.below ((Below.refl _ _).alloc (Nat.le_refl _) (.cells #[.int .i64 pL, .int .i64 pC] 25)) (Nat.le_refl _)); subst hu2; have b2' := b2.alloc b2.size (.cells #[.int .i64 pL, .int .i64 pC] 25); clear h2' b1 hb2 o2 b2))
  have HCC : Hid (∀ (i : Nat) (hi : i < X.length), ∃ g, a2 = some ⟨g, 0, none⟩ ∧ g < (w2.alloc (.cells #[.int .i64 pL, .int .i64 pC] 25)).heap.size ∧ (w2.alloc (.cells #[.int .i64 pL, .int .i64 pC] 25)).cell? ⟨g, i * 4, none⟩ = some (.int .i64 ((X[i]).1 : Int)) ∧ (w2.alloc (.cells #[.int .i64 pL, .int .i64 pC] 25)).cell? ⟨g, i * 4 + 1, none⟩ = some (.string (txt (X[i]).2.1)) ∧ (w2.alloc (.cells #[.int .i64 pL, .int .i64 pC] 25)).cell? ⟨g, i * 4 + 2, none⟩ = some (.int .i64 (X[i]).2.2.1) ∧ (w2.alloc (.cells #[.int .i64 pL, .int .i64 pC] 25)).cell? ⟨g, i * 4 + 3, none⟩ = some (.int .i64 (X[i]).2.2.2)) := HC
  clear HC
  have h2b := fun w1 (b : Below w.heap.size w w1) (t : ByteArray) (ht : t.size ≤ 140737488351232) => G.words t w1 ht
  go_loop [6, 27] (fun a b => ∃ (k : Nat) (t : ByteArray), k ≤ X.length ∧ a = .string t ∧ b = .int .i64 (k : Int) ∧ Hid (bl t = text (X.take k))) (fun _ b => X.length - (RowKit.intOf b).toNat)
  case atStart => exact ⟨0, ⟨#[]⟩, by omega, rfl, rfl, rfl⟩
  case round =>
    obtain ⟨k, t, hk, rfl, rfl, ht⟩ := hrel
    by_cases hlt : k < X.length
    · obtain ⟨g, hg, _, c0, c1, c2, c3⟩ := HCC.out k hlt
      subst hg
      have i1 : (k : Int) < (X.length : Int) := by omega
      have i2 : (0 : Int) ≤ (k : Int) := by omega
      have hn : Hid (bl (t ++ txt (X[k]).2.1 ++ ⟨#[32]⟩) = text (X.take (k + 1))) := by show bl _ = _; rw [bl_cat, bl_cat, bl_txt, ht.out, text_snoc X k hlt, List.append_assoc]
      obtain ⟨tx, htx⟩ : ∃ tx, txt (X[k]).2.1 = tx := ⟨_, rfl⟩
      rw [htx] at c1 hn
      have hts : (t ++ tx ++ ⟨#[32]⟩ : ByteArray).size ≤ 15000 := by
        have h1 := text_take X (k + 1)
        have h2 := hTX.out
        rw [← bl_length, hn.out]
        omega
      rw [ByteArray.size_append, ByteArray.size_append] at hts
      have hts1 : t.size + tx.size ≤ 15000 := by omega
      have hts2 : t.size + tx.size + 1 ≤ 9223372036854775807 := by omega
      clear htx c0 c2 c3 hts
      go_wp2
      go_round
      case rel => exact ⟨k + 1, _, hlt, rfl, by go_num, hn⟩
      case measure => simp [RowKit.intOf]; omega
    · have hE : bl t = text X := by have := ht.out; rw [List.take_of_length_le (by omega)] at this; exact this
      have i1 : ¬ (k : Int) < (X.length : Int) := by omega
      have hts : t.size ≤ 15000 := by rw [← bl_length, hE]; exact hTX.out
      have hw3 := h2b _ b2' t (by omega)
      by_cases hlong : 12000 < t.size
      · rw [HL.out t hE hlong] at hw3
        have l1 : (t.size : Int) > 12000 := by omega
        clear hE ht HCC h2b
        go_wp2_with (first
          | (go_at_call 7; refine hw3.mono ?_; rintro e w3 ⟨u3, rfl, _, hb3⟩; have b3 := b2'.trans (hb3.mono b2'.size); clear hw3))
        go_ret
        exact ⟨rfl, b3.alloc b3.size _⟩
      · have hsh := HS.out t hE hlong
        obtain ⟨⟨Y, ⟨qL, qC⟩, e2⟩, hy⟩ : ∃ y, wordsS (bl t) = y := ⟨_, rfl⟩
        rw [hy] at hsh hw3
        have hmap : Y.map (fun w => (w.1, w.2.1)) = X.map (fun w => (w.1, w.2.1)) := congrArg Prod.fst hsh
        have he2 : e2 = 0 := congrArg Prod.snd hsh
        subst he2
        have hYX : Y.length = X.length := by have := congrArg List.length hmap; simpa using this
        have HY : Hid (∀ (i : Nat) (hi : i < Y.length) (hj : i < X.length), (Y[i]).1 = (X[i]).1 ∧ (Y[i]).2.1 = (X[i]).2.1) := fun i hi hj => by
          have h1 : (Y.map (fun w => (w.1, w.2.1)))[i]? = (X.map (fun w => (w.1, w.2.1)))[i]? := by rw [hmap]
          rw [List.getElem?_map, List.getElem?_map, List.getElem?_eq_getElem hi, List.getElem?_eq_getElem hj] at h1
          simp only [Option.map_some, Option.some.injEq, Prod.mk.injEq] at h1
          exact h1
        have l1 : ¬ (t.size : Int) > 12000 := by omega
        have l2 : ((Y.length : Int) != (X.length : Int)) = false := by rw [hYX]; simp
        clear hE ht h2b hsh hy hmap
        go_wp2_with (first
          | (go_at_call 7; refine hw3.mono ?_; rintro e w3 ⟨u3, rfl, o3, hb3⟩; have b3 := b2'.trans (hb3.mono b2'.size); obtain ⟨a3, cap3, hu3, hcap3, HD⟩ := formW (o3.below ((Below.refl _ _).alloc (Nat.le_refl _) (.cells #[.int .i64 qL, .int .i64 qC] 25)) (Nat.le_refl _)); subst hu3; have b4 := b3.alloc b3.size (.cells #[.int .i64 qL, .int .i64 qC] 25); have b5 := hb3.alloc hb3.size (.cells #[.int .i64 qL, .int .i64 qC] 25); obtain ⟨W4, hW4⟩ : ∃ W4, w3.alloc (.cells #[.int .i64 qL, .int .i64 qC] 25) = W4 := ⟨_, rfl⟩; have HDD : Hid (∀ (i : Nat) (hi : i < Y.length), ∃ g, a3 = some ⟨g, 0, none⟩ ∧ g < W4.heap.size ∧ W4.cell? ⟨g, i * 4, none⟩ = some (.int .i64 ((Y[i]).1 : Int)) ∧ W4.cell? ⟨g, i * 4 + 1, none⟩ = some (.string (txt (Y[i]).2.1)) ∧ W4.cell? ⟨g, i * 4 + 2, none⟩ = some (.int .i64 (Y[i]).2.2.1) ∧ W4.cell? ⟨g, i * 4 + 3, none⟩ = some (.int .i64 (Y[i]).2.2.2)) := (by rw [← hW4]; exact HD); rw [hW4] at b4 b5; clear hw3 HD o3 b3 hb3))
        subst hW4
        go_loopw [61] (fun i wr => ∃ j : Nat, j ≤ Y.length ∧ i = .int .i64 (j : Int) ∧ Below (w3.alloc (.cells #[.int .i64 qL, .int .i64 qC] 25)).heap.size (w3.alloc (.cells #[.int .i64 qL, .int .i64 qC] 25)) wr) (fun i _ => Y.length - (RowKit.intOf i).toNat)
        case atStart => exact ⟨0, Nat.zero_le _, rfl, Below.refl _ _⟩
        case round =>
          obtain ⟨j, hj, rfl, hbel⟩ := hrel
          by_cases hjl : j < Y.length
          · obtain ⟨g3, hg3, hgl3, d0, d1, _, _⟩ := HDD.out j hjl
            obtain ⟨g2, hg2, hgl2, c0, c1, _, _⟩ := HCC.out j (by omega)
            obtain ⟨q1, q2⟩ := HY.out j hjl (by omega)
            rw [q1] at d0
            rw [q2] at d1
            subst hg3
            subst hg2
            have hgl4 := Nat.lt_of_lt_of_le hgl2 b5.size
            have C0 := (hbel.cell (p := ⟨g2, j * 4, none⟩) hgl4).trans ((b5.cell (p := ⟨g2, j * 4, none⟩) hgl2).trans c0)
            have C1 := (hbel.cell (p := ⟨g2, j * 4 + 1, none⟩) hgl4).trans ((b5.cell (p := ⟨g2, j * 4 + 1, none⟩) hgl2).trans c1)
            have D0 := (hbel.cell (p := ⟨g3, j * 4, none⟩) hgl3).trans d0
            have D1 := (hbel.cell (p := ⟨g3, j * 4 + 1, none⟩) hgl3).trans d1
            obtain ⟨xk, hxk⟩ : ∃ x, (((X[j]).1 : Nat) : Int) = x := ⟨_, rfl⟩
            obtain ⟨xt, hxt⟩ : ∃ x, txt (X[j]).2.1 = x := ⟨_, rfl⟩
            rw [hxk] at C0 D0
            rw [hxt] at C1 D1
            have i1 : (j : Int) < (Y.length : Int) := by omega
            have i3 : (j : Int) < (X.length : Int) := by omega
            have i2 : (0 : Int) ≤ (j : Int) := by omega
            clear c0 c1 d0 d1 hxk hxt q1 q2 hgl2 hgl3 hgl4
            go_wp2
            go_quiet (fail)
            go_wp2
            go_roundw
            case rel => exact ⟨j + 1, hjl, by go_num, hbel.trans ⟨rfl, rfl, rfl, Nat.le_refl _, fun _ _ => rfl⟩⟩
            case measure => simp [RowKit.intOf]; omega
          · have i1 : ¬ (j : Int) < (Y.length : Int) := by omega
            go_wp2
            go_ret
            exact ⟨rfl, b4.trans (hbel.mono b4.size)⟩
end Go.Proofs.Ytlnldpkackmceaa
