/- The walk of GlyphLines, of what is asked of the program's calls. -/
import Derived.Test.YtlnldpkackmceaaGlyL
namespace Go.Proofs.Ytlnldpkackmceaa
open Go.RowKit Go.Lib
set_option linter.unusedSimpArgs false
set_option linter.unusedVariables false

theorem runesF_len : ∀ (f : Nat) (l : List UInt8), (runesF f l).length ≤ f
  | 0, l => by simp [runesF]
  | f + 1, l => by
    unfold runesF
    split
    · simp
    · have := runesF_len f (l.drop (nx l).2); simp; omega
theorem runes_len (l : List UInt8) : (runes l).length ≤ l.length := runesF_len _ _
theorem endR_up : ∀ (rs : List Ru) (ln co : Int), endR rs (ln + 1) co = ((endR rs ln co).1 + 1, (endR rs ln co).2)
  | [], ln, co => rfl
  | v :: t, ln, co => by
    unfold endR
    by_cases h : v.1 = 10
    · rw [if_pos h, if_pos h, endR_up t]
    · rw [if_neg h, if_neg h, endR_up t]
theorem endR_le : ∀ (rs : List Ru) (ln co : Int), ln ≤ (endR rs ln co).1 ∧ (endR rs ln co).1 ≤ ln + rs.length
  | [], ln, co => by simp [endR]
  | v :: t, ln, co => by
    unfold endR
    by_cases h : v.1 = 10
    · rw [if_pos h]; have := endR_le t (ln + 1) 1; simp; omega
    · rw [if_neg h]; have := endR_le t ln (co + 1); simp; omega
theorem end_down (l : List UInt8) : endR (runes (10 :: l)) 1 1 = ((endR (runes l) 1 1).1 + 1, (endR (runes l) 1 1).2) := by
  rw [runes_ascii (by decide), ← endR_up]
  rfl

/-- Places lie within the text's lines. -/
def InL (lo hi : Int) (r : Rs) : Prop := (∀ w ∈ r.1, lo ≤ w.2.2.1 ∧ w.2.2.1 ≤ hi) ∧ (r.2.2 ≠ 0 → lo ≤ r.2.1.1 ∧ r.2.1.1 ≤ hi)
theorem InL.more {lo hi lo' hi' : Int} {r : Rs} (h : InL lo hi r) (h1 : lo' ≤ lo) (h2 : hi ≤ hi') : InL lo' hi' r :=
  ⟨fun w hw => by have := h.1 w hw; omega, fun e => by have := h.2 e; omega⟩
theorem InL.pre {lo hi : Int} {w : Wd} {r : Rs} (h : InL lo hi r) (h1 : lo ≤ w.2.2.1 ∧ w.2.2.1 ≤ hi) : InL lo hi (pre w r) := by
  unfold Go.Proofs.Ytlnldpkackmceaa.pre
  split
  · refine ⟨fun x hx => ?_, fun e => h.2 e⟩
    rcases List.mem_cons.1 hx with rfl | hx
    · exact h1
    · exact h.1 x hx
  · exact h
theorem wrds_inl : ∀ (f : Nat) (rs : List Ru), rs.length ≤ f → ∀ (ln co : Int) (n : Nat), InL ln (ln + rs.length) (wrds rs ln co n)
  | 0, rs, h, ln, co, n => by
    have : rs = [] := List.eq_nil_of_length_eq_zero (by omega)
    subst this; exact ⟨fun w hw => (by cases hw), fun e => absurd rfl e⟩
  | f + 1, [], h, _, _, n => ⟨fun w hw => (by cases hw), fun e => absurd rfl e⟩
  | f + 1, v :: t, h, ln, co, n => by
    have ht : t.length ≤ f := by simp at h; omega
    rw [wrds_cons]
    by_cases c1 : v.1 = 10
    · simp only [if_pos c1]; exact (wrds_inl f t ht _ _ _).more (by omega) (by simp; omega)
    simp only [if_neg c1]
    by_cases c2 : v.1 = 32 ∨ v.1 = 9
    · simp only [if_pos c2]; exact (wrds_inl f t ht _ _ _).more (by omega) (by simp; omega)
    simp only [if_neg c2]
    by_cases c3 : v.1 = 35
    · simp only [if_pos c3]
      have hp := rest_pos (t := t) c1
      exact (wrds_inl f _ (by rw [List.length_drop]; simp; omega) _ _ _).more (by omega) (by rw [List.length_drop]; omega)
    simp only [if_neg c3]
    by_cases c4 : (fst1 (v :: t)).1 = 0
    · simp only [if_pos c4]; exact ⟨fun w hw => (by cases hw), fun _ => (by simp only; omega)⟩
    simp only [if_neg c4]
    by_cases c5 : n = 3000
    · simp only [if_pos c5]; exact ⟨fun w hw => (by cases hw), fun _ => (by simp only; omega)⟩
    simp only [if_neg c5]
    have hm := (fst1_le v t c4).1
    exact ((wrds_inl f ((v :: t).drop (fst1 (v :: t)).2) (by rw [List.length_drop]; simp; omega) ln (co + (fst1 (v :: t)).2) (n + 1)).more (by omega) (by rw [List.length_drop]; omega)).pre (by simp only; omega)
theorem words_inl {l : List UInt8} (h : l.length ≤ 8000) : InL 1 8001 (wordsS l) := by
  unfold wordsS
  rw [if_neg (by omega)]
  have := runes_len l
  exact (wrds_inl _ _ (Nat.le_refl _) 1 1 0).more (by omega) (by omega)

set_option maxRecDepth 100000 in
set_option maxHeartbeats 4000000 in
theorem glyphLines_of (G : GC) {w : World} (s : ByteArray) (hs : s.size ≤ 140737488351232) :
    Calls Try.prog 4 #[.string s] w fun e w' => e = .returned (.bool true) ∧ Below w.heap.size w w' := by
  have h1 := awake_any G w
  by_cases hbig : 8000 < s.size
  · have h1b := fun w1 => awake_any G w1
    have q1 : (s.size : Int) > 8000 := by omega
    go_enter Try.func4, Try.ntmps4
    go_wp2_with (first
      | (go_at_call 6; refine h1.mono ?_; rintro e w1 ⟨rfl, b1⟩; have h1' := h1b w1; clear h1 h1b)
      | (go_at_call 6; refine h1'.mono ?_; rintro e w2 ⟨rfl, b2⟩; have b3 := b1.trans (b2.mono b1.size); clear h1'))
    go_ret
    exact ⟨rfl, b3⟩
  have q1 : ¬ (s.size : Int) > 8000 := by omega
  have hsl : (bl s).length ≤ 8000 := by rw [bl_length]; omega
  have hd1 : bl (⟨#[10]⟩ ++ s) = 10 :: bl s := by rw [bl_cat]; rfl
  have hz : (⟨#[10]⟩ ++ s : ByteArray).size ≤ 140737488351232 := by rw [ByteArray.size_append]; show 1 + s.size ≤ _; omega
  have hr1 : 1 + s.size ≤ 9223372036854775807 := by omega
  have hw2 := fun w1 => G.words s w1 hs
  have hw3 := fun w1 => G.words (⟨#[10]⟩ ++ s) w1 hz
  have he4 := fun w1 => G.ends s w1 hs
  have he5 := fun w1 => G.ends (⟨#[10]⟩ ++ s) w1 hz
  have hdn := words_down hsl
  have hin := words_inl hsl
  have hfew := words_few (bl s)
  have herr := words_err (l := bl s)
  have hel := endR_le (runes (bl s)) 1 1
  have hrl := runes_len (bl s)
  rw [hd1, hdn] at hw3
  rw [hd1, end_down] at he5
  obtain ⟨⟨X, ⟨pL, pC⟩, er⟩, hx⟩ : ∃ y, wordsS (bl s) = y := ⟨_, rfl⟩
  obtain ⟨⟨eL, eC⟩, hy⟩ : ∃ y, endR (runes (bl s)) 1 1 = y := ⟨_, rfl⟩
  simp only [hx] at hw2 hw3 hin hfew herr
  simp only [hy] at he4 he5 hel
  have heL : 1 ≤ eL ∧ eL ≤ 8001 := by omega
  clear hx hy hdn hd1 hz hel hrl hsl hbig
  by_cases he : er = 0
  case neg =>
    have hX := herr he
    subst hX
    obtain ⟨hp1, hp2⟩ := hin.2 he
    have hp1' : 1 ≤ pL := hp1
    have hp2' : pL ≤ 8001 := hp2
    have hup : up (([], (pL, pC), er) : Rs) = ([], (pL + 1, pC), er) := by unfold up; rw [if_neg he]; rfl
    simp only [hup] at hw3
    have he' : (er != 0) = true := by simpa using he
    have hwl : IntKind.i64.wrap (pL + 1) = pL + 1 := by rw [IntKind.wrap_i64]; omega
    clear hup herr hin hp1 hp2 he
    go_enter Try.func4, Try.ntmps4
    go_wp2_with (first
      | (go_at_call 6; refine h1.mono ?_; rintro e w1 ⟨rfl, b1⟩; have hw2' := hw2 w1; clear h1 hw2)
      | (go_at_call 7; refine hw2'.mono ?_; rintro e w2 ⟨u2, rfl, o2, hb2⟩; have b2 := b1.trans (hb2.mono b1.size); obtain ⟨a2, cap2, hu2, hcap2, _⟩ := formW o2; have hu2' : u2 = .slice a2 0 cap2 := hu2; subst hu2'; have b2' := b2.alloc b2.size (.cells #[.int .i64 pL, .int .i64 pC] 25); have hA2 := At.new w2 (.int .i64 pL) (.int .i64 pC) 25 _ rfl; have hw3' := hw3 (w2.alloc (.cells #[.int .i64 pL, .int .i64 pC] 25)); clear hw2' hw3 b1 hb2 o2 b2 hu2)
      | (go_at_call 7; refine hw3'.mono ?_; rintro e w3 ⟨u3, rfl, o3, hb3⟩; have b3 := b2'.trans (hb3.mono b2'.size); obtain ⟨a3, cap3, hu3, hcap3, _⟩ := formW o3; have hu3' : u3 = .slice a3 0 cap3 := hu3; subst hu3'; have bz := (Below.refl w3.heap.size w3).alloc (Nat.le_refl _) (.cells #[.int .i64 (pL + 1), .int .i64 pC] 25); obtain ⟨y0, y1, y2, y3⟩ := (hA2.keep hb3).keep bz; obtain ⟨z0, z1, z2, z3⟩ := At.new w3 (.int .i64 (pL + 1)) (.int .i64 pC) 25 _ rfl; have b4 := b3.alloc b3.size (.cells #[.int .i64 (pL + 1), .int .i64 pC] 25); clear hw3' o3 b3 hb3 b2' hA2 bz hu3))
    refine wp_loop_rounds 1 ?_
    rw [rounds_succ]
    clear hfew hcap2 hcap3 y0 y1 y2 y3 z0 z1 z2 z3
    have he4' := he4 (w3.alloc (.cells #[.int .i64 (pL + 1), .int .i64 pC] 25))
    go_wp2_with (first
      | (go_at_call 8; refine he4'.mono ?_; rintro e w5 ⟨rfl, hb5⟩; have b5 := b4.trans (hb5.mono b4.size); have he5' := he5 w5; clear he4' he5 he4 b4 hb5)
      | (go_at_call 8; refine he5'.mono ?_; rintro e w6 ⟨rfl, hb6⟩; have b6 := b5.trans (hb6.mono b5.size); clear he5' b5 hb6))
    go_ret
    exact ⟨rfl, (b6.alloc b6.size _).alloc (by have := b6.size; simp; omega) _⟩
  subst he
  have hup : up ((X, (pL, pC), 0) : Rs) = (X.map (fun w => (w.1, w.2.1, w.2.2.1 + 1, w.2.2.2)), (pL, pC), 0) := rfl
  simp only [hup] at hw3
  obtain ⟨Y, hY⟩ : ∃ Y, X.map (fun w => ((w.1, w.2.1, w.2.2.1 + 1, w.2.2.2) : Wd)) = Y := ⟨_, rfl⟩
  simp only [hY] at hw3
  have hYX : Y.length = X.length := by rw [← hY]; simp
  have HY : Hid (∀ (i : Nat) (hi : i < Y.length) (hj : i < X.length), Y[i] = ((X[i]).1, (X[i]).2.1, (X[i]).2.2.1 + 1, (X[i]).2.2.2)) := fun i hi hj => by subst hY; simp
  have HI : Hid (∀ (i : Nat) (hj : i < X.length), 1 ≤ (X[i]).2.2.1 ∧ (X[i]).2.2.1 ≤ 8001) := fun i hj => hin.1 _ (List.getElem_mem hj)
  have l2 : ((X.length : Int) != (Y.length : Int)) = false := by rw [hYX]; simp
  have HE4 : Hid (∀ w1, Calls Try.prog 8 #[.string s] w1 fun e w' => e = .returned (.agg #[.int .i64 eL, .int .i64 eC]) ∧ Below w1.heap.size w1 w') := he4
  clear hup hY herr hin he4
  go_enter Try.func4, Try.ntmps4
  go_wp2_with (first
    | (go_at_call 6; refine h1.mono ?_; rintro e w1 ⟨rfl, b1⟩; have hw2' := hw2 w1; clear h1 hw2)
    | (go_at_call 7; refine hw2'.mono ?_; rintro e w2 ⟨u2, rfl, o2, hb2⟩; have b2 := b1.trans (hb2.mono b1.size); obtain ⟨a2, cap2, hu2, hcap2, HC⟩ := formW (o2.below ((Below.refl _ _).alloc (Nat.le_refl _) (.cells #[.int .i64 pL, .int .i64 pC] 25)) (Nat.le_refl _)); subst hu2; have b2' := b2.alloc b2.size (.cells #[.int .i64 pL, .int .i64 pC] 25); have HCC : Hid (∀ (i : Nat) (hi : i < X.length), ∃ g, a2 = some ⟨g, 0, none⟩ ∧ g < (w2.alloc (.cells #[.int .i64 pL, .int .i64 pC] 25)).heap.size ∧ (w2.alloc (.cells #[.int .i64 pL, .int .i64 pC] 25)).cell? ⟨g, i * 4, none⟩ = some (.int .i64 ((X[i]).1 : Int)) ∧ (w2.alloc (.cells #[.int .i64 pL, .int .i64 pC] 25)).cell? ⟨g, i * 4 + 1, none⟩ = some (.string (txt (X[i]).2.1)) ∧ (w2.alloc (.cells #[.int .i64 pL, .int .i64 pC] 25)).cell? ⟨g, i * 4 + 2, none⟩ = some (.int .i64 (X[i]).2.2.1) ∧ (w2.alloc (.cells #[.int .i64 pL, .int .i64 pC] 25)).cell? ⟨g, i * 4 + 3, none⟩ = some (.int .i64 (X[i]).2.2.2)) := HC; have hw3' := hw3 (w2.alloc (.cells #[.int .i64 pL, .int .i64 pC] 25)); clear hw2' hw3 b1 hb2 o2 b2 HC)
    | (go_at_call 7; refine hw3'.mono ?_; rintro e w3 ⟨u3, rfl, o3, hb3⟩; have b3 := b2'.trans (hb3.mono b2'.size); obtain ⟨a3, cap3, hu3, hcap3, HD⟩ := formW (o3.below ((Below.refl _ _).alloc (Nat.le_refl _) (.cells #[.int .i64 pL, .int .i64 pC] 25)) (Nat.le_refl _)); subst hu3; have b4 := b3.alloc b3.size (.cells #[.int .i64 pL, .int .i64 pC] 25); have b5 := hb3.alloc hb3.size (.cells #[.int .i64 pL, .int .i64 pC] 25); have HDD : Hid (∀ (i : Nat) (hi : i < Y.length), ∃ g, a3 = some ⟨g, 0, none⟩ ∧ g < (w3.alloc (.cells #[.int .i64 pL, .int .i64 pC] 25)).heap.size ∧ (w3.alloc (.cells #[.int .i64 pL, .int .i64 pC] 25)).cell? ⟨g, i * 4, none⟩ = some (.int .i64 ((Y[i]).1 : Int)) ∧ (w3.alloc (.cells #[.int .i64 pL, .int .i64 pC] 25)).cell? ⟨g, i * 4 + 1, none⟩ = some (.string (txt (Y[i]).2.1)) ∧ (w3.alloc (.cells #[.int .i64 pL, .int .i64 pC] 25)).cell? ⟨g, i * 4 + 2, none⟩ = some (.int .i64 (Y[i]).2.2.1) ∧ (w3.alloc (.cells #[.int .i64 pL, .int .i64 pC] 25)).cell? ⟨g, i * 4 + 3, none⟩ = some (.int .i64 (Y[i]).2.2.2)) := HD; clear hw3' HD o3 b3 hb3))
  go_loopw [64] (fun i wr => ∃ j : Nat, j ≤ X.length ∧ i = .int .i64 (j : Int) ∧ Below (w3.alloc (.cells #[.int .i64 pL, .int .i64 pC] 25)).heap.size (w3.alloc (.cells #[.int .i64 pL, .int .i64 pC] 25)) wr) (fun i _ => X.length - (RowKit.intOf i).toNat)
  case atStart => exact ⟨0, Nat.zero_le _, rfl, Below.refl _ _⟩
  case round =>
    obtain ⟨j, hj, rfl, hbel⟩ := hrel
    by_cases hjl : j < X.length
    · obtain ⟨g3, hg3, hgl3, d0, d1, d2, d3⟩ := HDD.out j (by omega)
      obtain ⟨g2, hg2, hgl2, c0, c1, c2, c3⟩ := HCC.out j hjl
      have qq := HY.out j (by omega) hjl
      have hb1 := HI.out j hjl
      rw [qq] at d0 d1 d2 d3
      simp only at d0 d1 d2 d3
      subst hg3
      subst hg2
      have hgl4 := Nat.lt_of_lt_of_le hgl2 b5.size
      have C0 := (hbel.cell (p := ⟨g2, j * 4, none⟩) hgl4).trans ((b5.cell (p := ⟨g2, j * 4, none⟩) hgl2).trans c0)
      have C1 := (hbel.cell (p := ⟨g2, j * 4 + 1, none⟩) hgl4).trans ((b5.cell (p := ⟨g2, j * 4 + 1, none⟩) hgl2).trans c1)
      have C2 := (hbel.cell (p := ⟨g2, j * 4 + 2, none⟩) hgl4).trans ((b5.cell (p := ⟨g2, j * 4 + 2, none⟩) hgl2).trans c2)
      have C3 := (hbel.cell (p := ⟨g2, j * 4 + 3, none⟩) hgl4).trans ((b5.cell (p := ⟨g2, j * 4 + 3, none⟩) hgl2).trans c3)
      have D0 := (hbel.cell (p := ⟨g3, j * 4, none⟩) hgl3).trans d0
      have D1 := (hbel.cell (p := ⟨g3, j * 4 + 1, none⟩) hgl3).trans d1
      have D2 := (hbel.cell (p := ⟨g3, j * 4 + 2, none⟩) hgl3).trans d2
      have D3 := (hbel.cell (p := ⟨g3, j * 4 + 3, none⟩) hgl3).trans d3
      obtain ⟨xk, hxk⟩ : ∃ x, (((X[j]).1 : Nat) : Int) = x := ⟨_, rfl⟩
      obtain ⟨xt, hxt⟩ : ∃ x, txt (X[j]).2.1 = x := ⟨_, rfl⟩
      obtain ⟨xl, hxl⟩ : ∃ x, (X[j]).2.2.1 = x := ⟨_, rfl⟩
      obtain ⟨xc, hxc⟩ : ∃ x, (X[j]).2.2.2 = x := ⟨_, rfl⟩
      rw [hxk] at C0 D0
      rw [hxt] at C1 D1
      rw [hxl] at C2 D2 hb1
      rw [hxc] at C3 D3
      have i1 : (j : Int) < (Y.length : Int) := by omega
      have i3 : (j : Int) < (X.length : Int) := by omega
      have i2 : (0 : Int) ≤ (j : Int) := by omega
      have hwl : IntKind.i64.wrap (xl + 1) = xl + 1 := by rw [IntKind.wrap_i64]; omega
      clear c0 c1 c2 c3 d0 d1 d2 d3 hxk hxt hxl hxc qq hgl2 hgl3 hgl4 he5
      go_wp2
      go_quiet (fail)
      go_wp2
      go_roundw
      case rel => exact ⟨j + 1, hjl, by go_num, hbel.trans ⟨rfl, rfl, rfl, Nat.le_refl _, fun _ _ => rfl⟩⟩
      case measure => simp [RowKit.intOf]; omega
    · have i1 : ¬ (j : Int) < (X.length : Int) := by omega
      have b6 := b4.trans (hbel.mono b4.size)
      have he4' := HE4.out wr
      clear HE4 HY HI HCC HDD hYX l2 hbel b4 b5 b2' hcap2 hcap3
      go_wp2_with (first
        | (go_at_call 8; refine he4'.mono ?_; rintro e w7 ⟨rfl, hb7⟩; have b7 := b6.trans (hb7.mono b6.size); have he5' := he5 w7; clear he4' he5 b6 hb7)
        | (go_at_call 8; refine he5'.mono ?_; rintro e w8 ⟨rfl, hb8⟩; have b8 := b7.trans (hb8.mono b7.size); clear he5' b7 hb8))
      go_ret
      exact ⟨rfl, (b8.alloc b8.size _).alloc (by have := b8.size; simp; omega) _⟩
end Go.Proofs.Ytlnldpkackmceaa
