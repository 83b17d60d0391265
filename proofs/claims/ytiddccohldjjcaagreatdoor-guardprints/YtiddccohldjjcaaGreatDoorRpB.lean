
/- What the document's strength, around and text do. -/
import Derived.Test.YtiddccohldjjcaaGreatDoorPrB
import Derived.Test.YtiddccohldjjcaaGreatDoorExC
import Derived.Test.YtiddccohldjjcaaGreatDoorRgS
namespace Go.Proofs.YtiddccohldjjcaaGreatDoor
open Go.RowKit Go.Lib
set_option linter.unusedSimpArgs false
set_option linter.unusedVariables false
attribute [local go_sem ↓] Go.wp_at_zero Go.wp_at_succ
set_option maxRecDepth 100000 in
set_option maxHeartbeats 4000000 in
theorem strength_any {ok : Nat → Prop} {d : Nat} {t : T d} {v : Value} {w : World} (h : RdT ok w d t v) :
    Calls Tryz.prog 58 #[v] w fun e w' => e = .returned (.int .i64 ((pcs dcN d t).1 : Int)) ∧ Below w.heap.size w w' := by
  match d, t, h with
  | 0, t, _ => exact Empty.elim t
  | d + 1, t, h =>
  obtain ⟨k, n, s, ps, rfl⟩ := T.open t
  obtain ⟨sl, rfl, hp⟩ := rdT_mk.1 h
  obtain ⟨a, cap, rfl, hlc, hcm, hcell⟩ := hp.form
  have e : (pcs dcN (d + 1) (mkT k n s ps)).1 = if k = 5 then lv (bl s) else 6 := rfl
  rw [e]
  have hlv := fun w1 => rLevel_any s w1
  have hb0 := (Below.refl w.heap.size w).alloc (Nat.le_refl _) (.cells #[.int .i64 k, .int .i64 n, .string s, .slice a ps.length cap] 24)
  clear hcell hp h e
  by_cases k5 : k = 5
  · subst k5
    rw [if_pos rfl]
    go_enter Tryz.func58, Tryz.ntmps58
    go_wp2_with (first | (go_at_call 42; refine (hlv _).mono ?_; rintro e w1 ⟨rfl, rfl⟩))
    go_ret
    exact ⟨rfl, hb0⟩
  · rw [if_neg k5]
    have e5 : (k == 5) = false := beq_eq_false_iff_ne.2 k5
    go_enter Tryz.func58, Tryz.ntmps58
    go_wp2
    go_ret
    exact ⟨rfl, hb0⟩
def TxR (d : Nat) : Prop := ∀ (ok : Nat → Prop) (t : T d) (v : Value) (w : World), RdT ok w d t v → Cl d t → sdC d t = true → (txtC d t).length ≤ 1000000 → Pow w →
  Calls Tryz.prog 24 #[v] w fun e w' => e = .returned (.string ⟨(txtC d t).toArray⟩) ∧ Below w.heap.size w w'
def ArR (d : Nat) : Prop := ∀ (ok : Nat → Prop) (t : T d) (m : Nat) (v : Value) (w : World), RdT ok w d t v → Cl d t → sdC d t = true → (aroX d t m).length ≤ 1000000 → Pow w →
  Calls Tryz.prog 41 #[v, .int .i64 (m : Int)] w fun e w' => e = .returned (.string ⟨(aroX d t m).toArray⟩) ∧ Below w.heap.size w w'
theorem aro_if {d : Nat} {t : T d} {m : Nat} : aroX d t m = if (pcs dcN d t).1 < m then 40 :: (txtC d t ++ [41]) else txtC d t := by
  unfold aroX aroP txtC
  split
  · rw [txP_cons, txP_app]; rfl
  · rfl
set_option maxRecDepth 100000 in
set_option maxHeartbeats 4000000 in
theorem around_step (d : Nat) (H : TxR d) : ArR d := by
  intro ok t m v w h hc hs hl hw
  have hX := fun w1 (b : Below w.heap.size w w1) hl1 hw1 => H ok t v w1 (RdT.below b (Nat.le_refl _) h) hc hs hl1 hw1
  have hS := fun w1 (b : Below w.heap.size w w1) => strength_any (RdT.below b (Nat.le_refl _) h)
  rw [aro_if] at hl ⊢
  generalize txtC d t = X at *
  generalize (pcs dcN d t).1 = g at *
  match d, t, h with
  | 0, t, _ => exact Empty.elim t
  | d + 1, t, h =>
  obtain ⟨k, n, s, ps, rfl⟩ := T.open t
  obtain ⟨sl, rfl, hp⟩ := rdT_mk.1 h
  obtain ⟨a, cap, rfl, hlc, hcm, hcell⟩ := hp.form
  have hA := At4.new w (.int .i64 k) (.int .i64 n) (.string s) (.slice a ps.length cap) 24
  have hb0 := (Below.refl w.heap.size w).alloc (Nat.le_refl _) (.cells #[.int .i64 k, .int .i64 n, .string s, .slice a ps.length cap] 24)
  have s1 := hS _ hb0
  clear hcell hp h
  by_cases hlt : g < m
  · rw [if_pos hlt] at hl ⊢
    have hlt' : (g : Int) < (m : Int) := by omega
    have hl2 : X.length + 2 ≤ 1000000 := by simpa using hl
    go_enter Tryz.func41, Tryz.ntmps41
    go_wp2_with (first
      | (go_at_call 58; refine s1.mono ?_; rintro e w1 ⟨rfl, b1⟩; have bb := bthen hb0 b1; obtain ⟨y0, y1, y2, y3⟩ := hA.on b1; have s2 := hX w1 bb (by omega) (hw.below bb); clear s1)
      | (go_at_call 24; refine s2.mono ?_; rintro e w2 ⟨rfl, b2⟩; have bb := bthen bb b2; clear s2))
    go_ret
    exact ⟨congrArg (fun b => Ending.returned (.string b)) (ba_par X), bb⟩
  · rw [if_neg hlt] at hl ⊢
    have hlt' : ¬ (g : Int) < (m : Int) := by omega
    go_enter Tryz.func41, Tryz.ntmps41
    go_wp2_with (first
      | (go_at_call 58; refine s1.mono ?_; rintro e w1 ⟨rfl, b1⟩; have bb := bthen hb0 b1; obtain ⟨y0, y1, y2, y3⟩ := hA.on b1; have s2 := hX w1 bb hl (hw.below bb); clear s1)
      | (go_at_call 24; refine s2.mono ?_; rintro e w2 ⟨rfl, b2⟩; have bb := bthen bb b2; clear s2))
    go_ret
    exact ⟨rfl, bb⟩
/-- Two parts' cells. -/
def Prt (w : World) (b off : Nat) (c0 c1 c2 c3 e0 e1 e2 e3 : Value) : Prop := b < w.heap.size ∧ w.cell? ⟨b, off, none⟩ = some c0 ∧ w.cell? ⟨b, off + 1, none⟩ = some c1 ∧ w.cell? ⟨b, off + 2, none⟩ = some c2 ∧ w.cell? ⟨b, off + 3, none⟩ = some c3 ∧ w.cell? ⟨b, off + 4, none⟩ = some e0 ∧ w.cell? ⟨b, off + 4 + 1, none⟩ = some e1 ∧ w.cell? ⟨b, off + 4 + 2, none⟩ = some e2 ∧ w.cell? ⟨b, off + 4 + 3, none⟩ = some e3
theorem Prt.on {w w' : World} {b off : Nat} {c0 c1 c2 c3 e0 e1 e2 e3 : Value} (h : Prt w b off c0 c1 c2 c3 e0 e1 e2 e3) (hb : Below w.heap.size w w') : Prt w' b off c0 c1 c2 c3 e0 e1 e2 e3 := by
  obtain ⟨h0, h1, h2, h3, h4, h5, h6, h7, h8⟩ := h
  have k : ∀ i v, w.cell? ⟨b, i, none⟩ = some v → w'.cell? ⟨b, i, none⟩ = some v := fun i v hc => (hb.cell (p := ⟨b, i, none⟩) h0).trans hc
  exact ⟨Nat.lt_of_lt_of_le h0 hb.size, k _ _ h1, k _ _ h2, k _ _ h3, k _ _ h4, k _ _ h5, k _ _ h6, k _ _ h7, k _ _ h8⟩
theorem hold10 {w : World} {X b off cap : Nat} {k n : Value} {s : ByteArray} {c0 c1 c2 c3 e0 e1 e2 e3 : Value} (hA : At4 w X k n (.string s) (.slice (some ⟨b, off, none⟩) 2 cap)) (hP : Prt w b off c0 c1 c2 c3 e0 e1 e2 e3) :
    w.cell? ⟨X, 2, none⟩ = some (.string s) ∧ w.cell? ⟨X, 3, none⟩ = some (.slice (some ⟨b, off, none⟩) 2 cap) ∧ w.cell? ⟨b, off, none⟩ = some c0 ∧ w.cell? ⟨b, off + 1, none⟩ = some c1 ∧ w.cell? ⟨b, off + 2, none⟩ = some c2 ∧ w.cell? ⟨b, off + 3, none⟩ = some c3 ∧ w.cell? ⟨b, off + 4, none⟩ = some e0 ∧ w.cell? ⟨b, off + 4 + 1, none⟩ = some e1 ∧ w.cell? ⟨b, off + 4 + 2, none⟩ = some e2 ∧ w.cell? ⟨b, off + 4 + 3, none⟩ = some e3 := ⟨hA.2.2.1, hA.2.2.2, hP.2⟩
set_option maxRecDepth 100000 in
set_option maxHeartbeats 4000000 in
theorem text_step (d : Nat) (H : ArR d) : TxR (d + 1) := by
  intro ok t v w h hc hs hl hw
  rcases hc.cases with ⟨n, rfl⟩ | ⟨s, rfl⟩ | ⟨k, p, hk, rfl, hp⟩ | ⟨s, p, q, rfl, hp, hq⟩ | rfl
  · obtain ⟨sl, rfl, hp⟩ := rdT_mk.1 h
    obtain ⟨a, cap, rfl, hlc, hcm, hcell⟩ := hp.form
    have eT : txtC (d + 1) (mkT 1 n ⟨#[]⟩ [] : T (d + 1)) = dcN n := by
      show txP [some (2, dcN n)] = dcN n
      rw [txP_cons]; exact List.append_nil _
    rw [eT]
    rw [sdC_mk, if_pos rfl] at hs
    simp only [Bool.and_eq_true, decide_eq_true_eq] at hs
    have hF := fun w1 h => fmt_any hs.1 hs.2 w1 h
    have bz := (Below.refl w.heap.size w).alloc (Nat.le_refl _) (.cells #[.int .i64 1, .int .i64 n, .string ⟨#[]⟩, .slice a 0 cap] 24)
    have s1 := hF _ (hw.below bz)
    generalize dcN n = X at *
    clear hc eT hcell hp h hF hl
    simp only [List.length_nil]
    go_enter Tryz.func24, Tryz.ntmps24
    go_wp2_with (first | (go_at_call 35; refine s1.mono ?_; rintro e w2 ⟨rfl, b2⟩))
    go_ret
    exact ⟨rfl, bthen bz b2⟩
  · obtain ⟨sl, rfl, hp⟩ := rdT_mk.1 h
    obtain ⟨a, cap, rfl, hlc, hcm, hcell⟩ := hp.form
    have eT : (⟨(txtC (d + 1) (mkT 2 0 s [] : T (d + 1))).toArray⟩ : ByteArray) = s := by
      have : txtC (d + 1) (mkT 2 0 s [] : T (d + 1)) = s.data.toList := by
        show txP [some (1, s.data.toList)] = _
        rw [txP_cons]; exact List.append_nil _
      rw [this]
    rw [eT]
    have bz := (Below.refl w.heap.size w).alloc (Nat.le_refl _) (.cells #[.int .i64 2, .int .i64 0, .string s, .slice a 0 cap] 24)
    clear hc eT hcell hp h hl hs
    simp only [List.length_nil]
    go_enter Tryz.func24, Tryz.ntmps24
    go_wp2
    go_ret
    exact ⟨rfl, bz⟩
  · rcases hk with rfl | rfl
    · have sp : sdC d p = true := by
        rw [sdC_mk, if_neg (by decide), if_neg (by decide), if_pos (by decide)] at hs
        simpa using hs
      have eT : txtC (d + 1) (mkT 3 0 ⟨#[]⟩ [p] : T (d + 1)) = 33 :: aroX d p 6 := rfl
      rw [eT] at hl ⊢
      have hl2 : (aroX d p 6).length + 1 ≤ 1000000 := by simpa using hl
      obtain ⟨sl, rfl, hq⟩ := rdT_mk.1 h
      obtain ⟨a, cap, rfl, hlc, hcm, hcell⟩ := hq.form
      obtain ⟨b, off, c0, c1, c2, c3, rfl, hbl, hr, k0, k1, k2, k3⟩ := hcell 0 (by simp)
      have hO := fun w1 (b : Below w.heap.size w w1) hw1 => H ok p 6 _ w1 (RdT.below b (Nat.le_refl _) hr) hp sp (by omega) hw1
      simp only [show ((6 : Nat) : Int) = 6 from rfl] at hO
      have bz := (Below.refl w.heap.size w).alloc (Nat.le_refl _) (.cells #[.int .i64 3, .int .i64 0, .string ⟨#[]⟩, .slice (some ⟨b, off, none⟩) 1 cap] 24)
      have s1 := hO _ bz (hw.below bz)
      have C0 := (bz.cell (p := ⟨b, off + 0 * 4, none⟩) hbl).trans k0
      have C1 := (bz.cell (p := ⟨b, off + 0 * 4 + 1, none⟩) hbl).trans k1
      have C2 := (bz.cell (p := ⟨b, off + 0 * 4 + 2, none⟩) hbl).trans k2
      have C3 := (bz.cell (p := ⟨b, off + 0 * 4 + 3, none⟩) hbl).trans k3
      simp only [Nat.zero_mul, Nat.add_zero] at C0 C1 C2 C3
      generalize aroX d p 6 = X at *
      clear hs hc eT hcell hq h hr k0 k1 k2 k3 hO
      simp only [List.length_cons, List.length_nil, Nat.zero_add] at hlc ⊢
      go_enter Tryz.func24, Tryz.ntmps24
      go_wp2_with (first | (go_at_call 41; refine s1.mono ?_; rintro e w2 ⟨rfl, b2⟩))
      go_ret
      exact ⟨congrArg (fun b => Ending.returned (.string b)) (ba_one _ X), bthen bz b2⟩
    · have sp : sdC d p = true := by
        rw [sdC_mk, if_neg (by decide), if_neg (by decide), if_pos (by decide)] at hs
        simpa using hs
      have eT : txtC (d + 1) (mkT 4 0 ⟨#[]⟩ [p] : T (d + 1)) = 45 :: aroX d p 6 := rfl
      rw [eT] at hl ⊢
      have hl2 : (aroX d p 6).length + 1 ≤ 1000000 := by simpa using hl
      obtain ⟨sl, rfl, hq⟩ := rdT_mk.1 h
      obtain ⟨a, cap, rfl, hlc, hcm, hcell⟩ := hq.form
      obtain ⟨b, off, c0, c1, c2, c3, rfl, hbl, hr, k0, k1, k2, k3⟩ := hcell 0 (by simp)
      have hO := fun w1 (b : Below w.heap.size w w1) hw1 => H ok p 6 _ w1 (RdT.below b (Nat.le_refl _) hr) hp sp (by omega) hw1
      simp only [show ((6 : Nat) : Int) = 6 from rfl] at hO
      have bz := (Below.refl w.heap.size w).alloc (Nat.le_refl _) (.cells #[.int .i64 4, .int .i64 0, .string ⟨#[]⟩, .slice (some ⟨b, off, none⟩) 1 cap] 24)
      have s1 := hO _ bz (hw.below bz)
      have C0 := (bz.cell (p := ⟨b, off + 0 * 4, none⟩) hbl).trans k0
      have C1 := (bz.cell (p := ⟨b, off + 0 * 4 + 1, none⟩) hbl).trans k1
      have C2 := (bz.cell (p := ⟨b, off + 0 * 4 + 2, none⟩) hbl).trans k2
      have C3 := (bz.cell (p := ⟨b, off + 0 * 4 + 3, none⟩) hbl).trans k3
      simp only [Nat.zero_mul, Nat.add_zero] at C0 C1 C2 C3
      generalize aroX d p 6 = X at *
      clear hs hc eT hcell hq h hr k0 k1 k2 k3 hO
      simp only [List.length_cons, List.length_nil, Nat.zero_add] at hlc ⊢
      go_enter Tryz.func24, Tryz.ntmps24
      go_wp2_with (first | (go_at_call 41; refine s1.mono ?_; rintro e w2 ⟨rfl, b2⟩))
      go_ret
      exact ⟨congrArg (fun b => Ending.returned (.string b)) (ba_one _ X), bthen bz b2⟩
  · have sd := hs
    rw [sdC_mk, if_neg (by decide), if_neg (by decide), if_neg (by decide), if_pos rfl] at sd
    simp only [List.all_cons, List.all_nil, Bool.and_true, Bool.and_eq_true] at sd
    obtain ⟨_, sp, sq⟩ := sd
    have hlv := fun w1 => rLevel_any s w1
    obtain ⟨sl, rfl, hqq⟩ := rdT_mk.1 h
    obtain ⟨a, cap, rfl, hlc, hcm, hcell⟩ := hqq.form
    obtain ⟨b, off, c0, c1, c2, c3, rfl, hbl, hr, k0, k1, k2, k3⟩ := hcell 0 (by simp)
    obtain ⟨b', off', e0, e1, e2, e3, hae, _, hr', m0, m1, m2, m3⟩ := hcell 1 (by simp)
    obtain ⟨rfl, rfl⟩ : b = b' ∧ off = off' := by injection hae with h1; injection h1 with h2 h3; exact ⟨h2, h3⟩
    have hI := fun m w1 (b : Below w.heap.size w w1) hl1 hw1 => H ok p m _ w1 (RdT.below b (Nat.le_refl _) hr) hp sp hl1 hw1
    have hJ := fun m w1 (b : Below w.heap.size w w1) hl1 hw1 => H ok q m _ w1 (RdT.below b (Nat.le_refl _) hr') hq sq hl1 hw1
    have hl5 : lv (bl s) ≤ 5 := lv_le _
    obtain ⟨k, hk⟩ : ∃ k, lv (bl s) = k := ⟨_, rfl⟩
    rw [hk] at hl5
    simp only [hk] at hlv
    have hT : txtC (d + 1) (mkT 5 0 s [p, q]) = aroX d p (if k = 3 then 4 else k) ++ 32 :: (bl s ++ 32 :: aroX d q (k + 1)) := by
      rw [← hk]; exact txt_bin s p q
    obtain ⟨TX, hTX⟩ : ∃ TX, txtC (d + 1) (mkT 5 0 s [p, q]) = TX := ⟨_, rfl⟩
    rw [hTX] at hT hl ⊢
    simp only [List.length_cons, List.length_nil, Nat.zero_add, show 1 + 1 = 2 from rfl] at hlc ⊢
    simp only [Nat.zero_mul, Nat.add_zero, Nat.one_mul] at k0 k1 k2 k3 m0 m1 m2 m3
    have b1 := (Below.refl w.heap.size w).alloc (Nat.le_refl _) (.cells #[.int .i64 5, .int .i64 0, .string s, .slice (some ⟨b, off, none⟩) 2 cap] 24)
    have hA := At4.new w (.int .i64 5) (.int .i64 0) (.string s) (.slice (some ⟨b, off, none⟩) 2 cap) 24
    have hP : Prt w b off c0 c1 c2 c3 e0 e1 e2 e3 := ⟨hbl, k0, k1, k2, k3, m0, m1, m2, m3⟩
    have hP1 := hP.on b1
    have hw1 := hw.below b1
    clear hTX hr hr' k0 k1 k2 k3 m0 m1 m2 m3 hae hcell hqq h hc hs hP
    by_cases h3 : k = 3
    · subst h3
      have hIm := fun w1 b h1 h => hI 4 w1 b h1 h
      have hJm := fun w1 b h1 h => hJ 4 w1 b h1 h
      rw [if_pos rfl] at hT
      simp only [show ((4 : Nat) : Int) = 4 from rfl] at hIm hJm
      generalize aroX d p 4 = A at hT hIm
      generalize aroX d q 4 = B at hT hJm
      clear hI hJ
      have hlA : A.length ≤ 1000000 := by have := congrArg List.length hT; simp only [List.length_append, List.length_cons] at this; omega
      have hlB : B.length ≤ 1000000 := by have := congrArg List.length hT; simp only [List.length_append, List.length_cons] at this; omega
      replace hIm := fun w1 b h => hIm w1 b hlA h
      replace hJm := fun w1 b h => hJm w1 b hlB h
      clear hlA hlB
      have hAB : A.length + B.length + (bl s).length + 2 ≤ 1000000 := by
        have := congrArg List.length hT
        simp only [List.length_append, List.length_cons] at this
        omega
      obtain ⟨bA, hbA⟩ : ∃ bA : ByteArray, ⟨A.toArray⟩ = bA := ⟨_, rfl⟩
      obtain ⟨bB, hbB⟩ : ∃ bB : ByteArray, ⟨B.toArray⟩ = bB := ⟨_, rfl⟩
      have hAe : bl bA = A := by rw [← hbA]
      have hBe : bl bB = B := by rw [← hbB]
      have a1 := add_ok bA ⟨#[32]⟩ ⟨(A ++ [32]).toArray⟩ (by rw [hAe]; show A.length + 1 ≤ _; omega) (by rw [hAe])
      have a2 := add_ok ⟨(A ++ [32]).toArray⟩ s ⟨(A ++ [32] ++ bl s).toArray⟩ (by show (A ++ [32]).length + _ ≤ _; simp only [List.length_append, List.length_cons, List.length_nil]; omega) rfl
      have a3 := add_ok ⟨(A ++ [32] ++ bl s).toArray⟩ ⟨#[32]⟩ ⟨(A ++ [32] ++ bl s ++ [32]).toArray⟩ (by show (A ++ [32] ++ bl s).length + 1 ≤ _; simp only [List.length_append, List.length_cons, List.length_nil]; omega) rfl
      have a4 := add_ok ⟨(A ++ [32] ++ bl s ++ [32]).toArray⟩ bB ⟨TX.toArray⟩ (by rw [hBe]; show (A ++ [32] ++ bl s ++ [32]).length + _ ≤ _; simp only [List.length_append, List.length_cons, List.length_nil]; omega) (by rw [hBe]; show TX = A ++ [32] ++ bl s ++ [32] ++ B; rw [hT]; simp)
      rw [hbA] at hIm
      rw [hbB] at hJm
      clear hT hAB hAe hBe hbA hbB hl
      generalize (⟨(A ++ [32]).toArray⟩ : ByteArray) = x1 at *
      generalize (⟨(A ++ [32] ++ bl s).toArray⟩ : ByteArray) = x2 at *
      generalize (⟨(A ++ [32] ++ bl s ++ [32]).toArray⟩ : ByteArray) = x3 at *
      generalize (⟨TX.toArray⟩ : ByteArray) = x4 at *
      rw [show (4 : Int) = IntKind.i64.wrap 4 from by decide] at hJm
      go_enter Tryz.func24, Tryz.ntmps24
      go_wp2_with (first | (go_at_call 42; refine (hlv _).mono ?_; rintro e w2 ⟨rfl, rfl⟩))
      clear hlv
      generalize w.alloc (.cells #[.int .i64 5, .int .i64 0, .string s, .slice (some ⟨b, off, none⟩) 2 cap] 24) = w1 at *
      have bd : Below w1.heap.size w1 w1.drew := (Below.refl _ _).drew
      have b1 := bthen b1 bd
      have hA := hA.on bd
      have hP1 := hP1.on bd
      have s1 := hIm w1.drew b1 (hw1.below bd)
      go_region_held_law (fun w' => w'.cell? ⟨w.heap.size, 2, none⟩ = some (.string s) ∧ w'.cell? ⟨w.heap.size, 3, none⟩ = some (.slice (some ⟨b, off, none⟩) 2 cap) ∧ w'.cell? ⟨b, off, none⟩ = some c0 ∧ w'.cell? ⟨b, off + 1, none⟩ = some c1 ∧ w'.cell? ⟨b, off + 2, none⟩ = some c2 ∧ w'.cell? ⟨b, off + 3, none⟩ = some c3 ∧ w'.cell? ⟨b, off + 4, none⟩ = some e0 ∧ w'.cell? ⟨b, off + 4 + 1, none⟩ = some e1 ∧ w'.cell? ⟨b, off + 4 + 2, none⟩ = some e2 ∧ w'.cell? ⟨b, off + 4 + 3, none⟩ = some e3)
        (first | (with_reducible exact hold10 hA hP1) | (with_reducible exact hold10 hA3 hP3) | (with_reducible exact hold10 hA4 hP4) | go_keep)
        ((first
          | (go_at_call 41; (with_reducible refine s1.mono ?_); rintro e w3 ⟨rfl, b3⟩; have hA3 := hA.on b3; have hP3 := hP1.on b3; have b4 := bthen b1 b3; have s2 := hJm w3 b4 ((hw1.below bd).below b3); clear s1)
          | (go_at_call 41; (with_reducible refine s2.mono ?_); rintro e w4 ⟨rfl, b5⟩; have hA4 := hA3.on b5; have hP4 := hP3.on b5; have b6 := bthen b4 b5; clear s2)))
      go_wp2
      go_ret
      exact ⟨rfl, b6⟩
    · have hIm := fun w1 b h1 h => hI k w1 b h1 h
      have hJm := fun w1 b h1 h => hJ (k + 1) w1 b h1 h
      rw [if_neg h3] at hT
      simp only [Int.natCast_add, show ((1 : Nat) : Int) = 1 from rfl] at hJm
      generalize aroX d p k = A at hT hIm
      generalize aroX d q (k + 1) = B at hT hJm
      have h3' : (k : Int) ≠ 3 := by omega
      have h3b : ((k : Int) == 3) = false := beq_eq_false_iff_ne.2 h3'
      clear hI hJ
      have hlA : A.length ≤ 1000000 := by have := congrArg List.length hT; simp only [List.length_append, List.length_cons] at this; omega
      have hlB : B.length ≤ 1000000 := by have := congrArg List.length hT; simp only [List.length_append, List.length_cons] at this; omega
      replace hIm := fun w1 b h => hIm w1 b hlA h
      replace hJm := fun w1 b h => hJm w1 b hlB h
      clear hlA hlB
      have hAB : A.length + B.length + (bl s).length + 2 ≤ 1000000 := by
        have := congrArg List.length hT
        simp only [List.length_append, List.length_cons] at this
        omega
      obtain ⟨bA, hbA⟩ : ∃ bA : ByteArray, ⟨A.toArray⟩ = bA := ⟨_, rfl⟩
      obtain ⟨bB, hbB⟩ : ∃ bB : ByteArray, ⟨B.toArray⟩ = bB := ⟨_, rfl⟩
      have hAe : bl bA = A := by rw [← hbA]
      have hBe : bl bB = B := by rw [← hbB]
      have a1 := add_ok bA ⟨#[32]⟩ ⟨(A ++ [32]).toArray⟩ (by rw [hAe]; show A.length + 1 ≤ _; omega) (by rw [hAe])
      have a2 := add_ok ⟨(A ++ [32]).toArray⟩ s ⟨(A ++ [32] ++ bl s).toArray⟩ (by show (A ++ [32]).length + _ ≤ _; simp only [List.length_append, List.length_cons, List.length_nil]; omega) rfl
      have a3 := add_ok ⟨(A ++ [32] ++ bl s).toArray⟩ ⟨#[32]⟩ ⟨(A ++ [32] ++ bl s ++ [32]).toArray⟩ (by show (A ++ [32] ++ bl s).length + 1 ≤ _; simp only [List.length_append, List.length_cons, List.length_nil]; omega) rfl
      have a4 := add_ok ⟨(A ++ [32] ++ bl s ++ [32]).toArray⟩ bB ⟨TX.toArray⟩ (by rw [hBe]; show (A ++ [32] ++ bl s ++ [32]).length + _ ≤ _; simp only [List.length_append, List.length_cons, List.length_nil]; omega) (by rw [hBe]; show TX = A ++ [32] ++ bl s ++ [32] ++ B; rw [hT]; simp)
      rw [hbA] at hIm
      rw [hbB] at hJm
      clear hT hAB hAe hBe hbA hbB hl
      generalize (⟨(A ++ [32]).toArray⟩ : ByteArray) = x1 at *
      generalize (⟨(A ++ [32] ++ bl s).toArray⟩ : ByteArray) = x2 at *
      generalize (⟨(A ++ [32] ++ bl s ++ [32]).toArray⟩ : ByteArray) = x3 at *
      generalize (⟨TX.toArray⟩ : ByteArray) = x4 at *
      rw [show ((k : Int) + 1) = IntKind.i64.wrap ((k : Int) + 1) from (wrap_small _ (by omega) (by omega)).symm] at hJm
      go_enter Tryz.func24, Tryz.ntmps24
      go_wp2_with (first | (go_at_call 42; refine (hlv _).mono ?_; rintro e w2 ⟨rfl, rfl⟩))
      clear hlv
      generalize w.alloc (.cells #[.int .i64 5, .int .i64 0, .string s, .slice (some ⟨b, off, none⟩) 2 cap] 24) = w1 at *
      have bd : Below w1.heap.size w1 w1.drew := (Below.refl _ _).drew
      have b1 := bthen b1 bd
      have hA := hA.on bd
      have hP1 := hP1.on bd
      have s1 := hIm w1.drew b1 (hw1.below bd)
      go_region_held_law (fun w' => w'.cell? ⟨w.heap.size, 2, none⟩ = some (.string s) ∧ w'.cell? ⟨w.heap.size, 3, none⟩ = some (.slice (some ⟨b, off, none⟩) 2 cap) ∧ w'.cell? ⟨b, off, none⟩ = some c0 ∧ w'.cell? ⟨b, off + 1, none⟩ = some c1 ∧ w'.cell? ⟨b, off + 2, none⟩ = some c2 ∧ w'.cell? ⟨b, off + 3, none⟩ = some c3 ∧ w'.cell? ⟨b, off + 4, none⟩ = some e0 ∧ w'.cell? ⟨b, off + 4 + 1, none⟩ = some e1 ∧ w'.cell? ⟨b, off + 4 + 2, none⟩ = some e2 ∧ w'.cell? ⟨b, off + 4 + 3, none⟩ = some e3)
        (first | (with_reducible exact hold10 hA hP1) | (with_reducible exact hold10 hA3 hP3) | (with_reducible exact hold10 hA4 hP4) | go_keep)
        ((first
          | (go_at_call 41; (with_reducible refine s1.mono ?_); rintro e w3 ⟨rfl, b3⟩; have hA3 := hA.on b3; have hP3 := hP1.on b3; have b4 := bthen b1 b3; have s2 := hJm w3 b4 ((hw1.below bd).below b3); clear s1)
          | (go_at_call 41; (with_reducible refine s2.mono ?_); rintro e w4 ⟨rfl, b5⟩; have hA4 := hA3.on b5; have hP4 := hP3.on b5; have b6 := bthen b4 b5; clear s2)))
      go_wp2
      go_ret
      exact ⟨rfl, b6⟩
  · exact absurd hs (by simp [none0, sdC_mk])
theorem textR_any : ∀ d, TxR d
  | 0 => fun _ t => Empty.elim t
  | d + 1 => text_step d (around_step d (textR_any d))
end Go.Proofs.YtiddccohldjjcaaGreatDoor
