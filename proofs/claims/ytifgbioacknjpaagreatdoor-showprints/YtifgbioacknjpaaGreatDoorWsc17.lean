import Derived.Test.YtifgbioacknjpaaGreatDoorWsc04
import Derived.Test.YtifgbioacknjpaaGreatDoorWsc09
import Derived.Test.YtifgbioacknjpaaGreatDoorWsc08
import Derived.Test.YtifgbioacknjpaaGreatDoorWsc16
import Derived.Test.YtifgbioacknjpaaGreatDoorWsc05
import Derived.Test.YtifgbioacknjpaaGreatDoorWsc10
import Derived.Test.YtifgbioacknjpaaGreatDoorWsc06

/- What the document's strength, around and text do. -/
namespace Go.Proofs.YtifgbioacknjpaaGreatDoor
open Go.RowKit Go.Lib
set_option linter.unusedSimpArgs false
set_option linter.unusedVariables false
attribute [local go_sem ↓] Go.wp_at_zero Go.wp_at_succ
set_option maxRecDepth 100000 in
set_option maxHeartbeats 4000000 in
theorem strength_any {ok : Nat → Prop} {d : Nat} {t : T d} {v : Value} {w : World} (h : RdT ok w d t v) :
    Calls Tryz.prog 178 #[v] w fun e w' => e = .returned (.int .i64 ((pcs dcN d t).1 : Int)) ∧ Below w.heap.size w w' := by
  match d, t, h with
  | 0, t, _ => exact Empty.elim t
  | d + 1, t, h =>
  obtain ⟨k, n, s, ps, rfl⟩ := T.open t
  obtain ⟨sl, rfl, hp⟩ := rdT_mk.1 h
  obtain ⟨a, cap, rfl, hlc, hcm, hcell⟩ := hp.form
  have e : (pcs dcN (d + 1) (mkT k n s ps)).1 = if k = 5 then lv (bl s) else 6 := rfl
  rw [e]
  have hlv := fun w1 => rLevel_any s w1
  have hb0 := (Below.refl w.heap.size w).alloc (Nat.le_refl _) (.cells #[.int .i64 k, .int .i64 n, .string s, .slice a ps.length cap] 104)
  clear hcell hp h e
  by_cases k5 : k = 5
  · subst k5
    rw [if_pos rfl]
    go_enter Tryz.func178, Tryz.ntmps178
    go_wp2_with (first | (go_at_call 161; refine (hlv _).mono ?_; rintro e w1 ⟨rfl, rfl⟩))
    go_ret
    exact ⟨rfl, hb0⟩
  · rw [if_neg k5]
    have e5 : (k == 5) = false := beq_eq_false_iff_ne.2 k5
    go_enter Tryz.func178, Tryz.ntmps178
    go_wp2
    go_ret
    exact ⟨rfl, hb0⟩
def TxR (d : Nat) : Prop := ∀ (ok : Nat → Prop) (t : T d) (v : Value) (w : World), RdT ok w d t v → Cl d t → sdC d t = true → (txtC d t).length ≤ 1000000 → Pow w →
  Calls Tryz.prog 143 #[v] w fun e w' => e = .returned (.string ⟨(txtC d t).toArray⟩) ∧ Below w.heap.size w w'
def ArR (d : Nat) : Prop := ∀ (ok : Nat → Prop) (t : T d) (m : Nat) (v : Value) (w : World), RdT ok w d t v → Cl d t → sdC d t = true → (aroX d t m).length ≤ 1000000 → Pow w →
  Calls Tryz.prog 160 #[v, .int .i64 (m : Int)] w fun e w' => e = .returned (.string ⟨(aroX d t m).toArray⟩) ∧ Below w.heap.size w w'
theorem aro_if {d : Nat} {t : T d} {m : Nat} : aroX d t m = if (pcs dcN d t).1 < m then 40 :: (txtC d t ++ [41]) else txtC d t := by
  unfold aroX aroP txtC
  split
  · rw [txP_cons, txP_app]; rfl
  · rfl
set_option maxRecDepth 100000 in
set_option maxHeartbeats 4000000 in
theorem around_step (d : Nat) (H : TxR d) : ArR d := by
  intro ok t m v w h hc hs hl hw
  have hX := fun w1 (b : Below w.heap.size w w1) hl1 hw1 => H ok t v w1 (RdT.below b (Nat.le_refl _) h) hc hs hl1 hw1
  have hS := fun w1 (b : Below w.heap.size w w1) => strength_any (RdT.below b (Nat.le_refl _) h)
  rw [aro_if] at hl ⊢
  generalize txtC d t = X at *
  generalize (pcs dcN d t).1 = g at *
  match d, t, h with
  | 0, t, _ => exact Empty.elim t
  | d + 1, t, h =>
  obtain ⟨k, n, s, ps, rfl⟩ := T.open t
  obtain ⟨sl, rfl, hp⟩ := rdT_mk.1 h
  obtain ⟨a, cap, rfl, hlc, hcm, hcell⟩ := hp.form
  have hA := At4.new w (.int .i64 k) (.int .i64 n) (.string s) (.slice a ps.length cap) 104
  have hb0 := (Below.refl w.heap.size w).alloc (Nat.le_refl _) (.cells #[.int .i64 k, .int .i64 n, .string s, .slice a ps.length cap] 104)
  have s1 := hS _ hb0
  clear hcell hp h
  by_cases hlt : g < m
  · rw [if_pos hlt] at hl ⊢
    have hlt' : (g : Int) < (m : Int) := by omega
    have hl2 : X.length + 2 ≤ 1000000 := by simpa using hl
    go_enter Tryz.func160, Tryz.ntmps160
    go_wp2_with (first
      | (go_at_call 178; refine s1.mono ?_; rintro e w1 ⟨rfl, b1⟩; have bb := bthen hb0 b1; obtain ⟨y0, y1, y2, y3⟩ := hA.on b1; have s2 := hX w1 bb (by omega) (hw.below bb); clear s1)
      | (go_at_call 143; refine s2.mono ?_; rintro e w2 ⟨rfl, b2⟩; have bb := bthen bb b2; clear s2))
    go_ret
    exact ⟨congrArg (fun b => Ending.returned (.string b)) (ba_par X), bb⟩
  · rw [if_neg hlt] at hl ⊢
    have hlt' : ¬ (g : Int) < (m : Int) := by omega
    go_enter Tryz.func160, Tryz.ntmps160
    go_wp2_with (first
      | (go_at_call 178; refine s1.mono ?_; rintro e w1 ⟨rfl, b1⟩; have bb := bthen hb0 b1; obtain ⟨y0, y1, y2, y3⟩ := hA.on b1; have s2 := hX w1 bb hl (hw.below bb); clear s1)
      | (go_at_call 143; refine s2.mono ?_; rintro e w2 ⟨rfl, b2⟩; have bb := bthen bb b2; clear s2))
    go_ret
    exact ⟨rfl, bb⟩
/-- Two parts' cells. -/
def Prt (w : World) (b off : Nat) (c0 c1 c2 c3 e0 e1 e2 e3 : Value) : Prop := b < w.heap.size ∧ w.cell? ⟨b, off, none⟩ = some c0 ∧ w.cell? ⟨b, off + 1, none⟩ = some c1 ∧ w.cell? ⟨b, off + 2, none⟩ = some c2 ∧ w.cell? ⟨b, off + 3, none⟩ = some c3 ∧ w.cell? ⟨b, off + 4, none⟩ = some e0 ∧ w.cell? ⟨b, off + 4 + 1, none⟩ = some e1 ∧ w.cell? ⟨b, off + 4 + 2, none⟩ = some e2 ∧ w.cell? ⟨b, off + 4 + 3, none⟩ = some e3
theorem Prt.on {w w' : World} {b off : Nat} {c0 c1 c2 c3 e0 e1 e2 e3 : Value} (h : Prt w b off c0 c1 c2 c3 e0 e1 e2 e3) (hb : Below w.heap.size w w') : Prt w' b off c0 c1 c2 c3 e0 e1 e2 e3 := by
  obtain ⟨h0, h1, h2, h3, h4, h5, h6, h7, h8⟩ := h
  have k : ∀ i v, w.cell? ⟨b, i, none⟩ = some v → w'.cell? ⟨b, i, none⟩ = some v := fun i v hc => (hb.cell (p := ⟨b, i, none⟩) h0).trans hc
  exact ⟨Nat.lt_of_lt_of_le h0 hb.size, k _ _ h1, k _ _ h2, k _ _ h3, k _ _ h4, k _ _ h5, k _ _ h6, k _ _ h7, k _ _ h8⟩
theorem hold10 {w : World} {X b off cap : Nat} {k n : Value} {s : ByteArray} {c0 c1 c2 c3 e0 e1 e2 e3 : Value} (hA : At4 w X k n (.string s) (.slice (some ⟨b, off, none⟩) 2 cap)) (hP : Prt w b off c0 c1 c2 c3 e0 e1 e2 e3) :
    w.cell? ⟨X, 2, none⟩ = some (.string s) ∧ w.cell? ⟨X, 3, none⟩ = some (.slice (some ⟨b, off, none⟩) 2 cap) ∧ w.cell? ⟨b, off, none⟩ = some c0 ∧ w.cell? ⟨b, off + 1, none⟩ = some c1 ∧ w.cell? ⟨b, off + 2, none⟩ = some c2 ∧ w.cell? ⟨b, off + 3, none⟩ = some c3 ∧ w.cell? ⟨b, off + 4, none⟩ = some e0 ∧ w.cell? ⟨b, off + 4 + 1, none⟩ = some e1 ∧ w.cell? ⟨b, off + 4 + 2, none⟩ = some e2 ∧ w.cell? ⟨b, off + 4 + 3, none⟩ = some e3 := ⟨hA.2.2.1, hA.2.2.2, hP.2⟩
set_option maxRecDepth 100000 in
set_option maxHeartbeats 4000000 in
theorem text_step (d : Nat) (H : ArR d) : TxR (d + 1) := by
  intro ok t v w h hc hs hl hw
  rcases hc.cases with ⟨n, rfl⟩ | ⟨s, rfl⟩ | ⟨k, p, hk, rfl, hp⟩ | ⟨s, p, q, rfl, hp, hq⟩ | rfl
  · obtain ⟨sl, rfl, hp⟩ := rdT_mk.1 h
    obtain ⟨a, cap, rfl, hlc, hcm, hcell⟩ := hp.form
    have eT : txtC (d + 1) (mkT 1 n ⟨#[]⟩ [] : T (d + 1)) = dcN n := by
      show txP [some (2, dcN n)] = dcN n
      rw [txP_cons]; exact List.append_nil _
    rw [eT]
    rw [sdC_mk, if_pos rfl] at hs
    simp only [Bool.and_eq_true, decide_eq_true_eq] at hs
    have hF := fun w1 h => fmt_any hs.1 hs.2 w1 h
    have bz := (Below.refl w.heap.size w).alloc (Nat.le_refl _) (.cells #[.int .i64 1, .int .i64 n, .string ⟨#[]⟩, .slice a 0 cap] 104)
    have s1 := hF _ (hw.below bz)
    generalize dcN n = X at *
    clear hc eT hcell hp h hF hl
    simp only [List.length_nil]
    go_enter Tryz.func143, Tryz.ntmps143
    go_wp2_with (first | (go_at_call 38; refine s1.mono ?_; rintro e w2 ⟨rfl, b2⟩))
    go_ret
    exact ⟨rfl, bthen bz b2⟩
  · obtain ⟨sl, rfl, hp⟩ := rdT_mk.1 h
    obtain ⟨a, cap, rfl, hlc, hcm, hcell⟩ := hp.form
    have eT : (⟨(txtC (d + 1) (mkT 2 0 s [] : T (d + 1))).toArray⟩ : ByteArray) = s := by
      have : txtC (d + 1) (mkT 2 0 s [] : T (d + 1)) = s.data.toList := by
        show txP [some (1, s.data.toList)] = _
        rw [txP_cons]; exact List.append_nil _
      rw [this]
    rw [eT]
    have bz := (Below.refl w.heap.size w).alloc (Nat.le_refl _) (.cells #[.int .i64 2, .int .i64 0, .string s, .slice a 0 cap] 104)
    clear hc eT hcell hp h hl hs
    simp only [List.length_nil]
    go_enter Tryz.func143, Tryz.ntmps143
    go_wp2
    go_ret
    exact ⟨rfl, bz⟩
  · rcases hk with rfl | rfl
    · have sp : sdC d p = true := by
        rw [sdC_mk, if_neg (by decide), if_neg (by decide), if_pos (by decide)] at hs
        simpa using hs
      have eT : txtC (d + 1) (mkT 3 0 ⟨#[]⟩ [p] : T (d + 1)) = 33 :: aroX d p 6 := rfl
      rw [eT] at hl ⊢
      have hl2 : (aroX d p 6).length + 1 ≤ 1000000 := by simpa using hl
      obtain ⟨sl, rfl, hq⟩ := rdT_mk.1 h
      obtain ⟨a, cap, rfl, hlc, hcm, hcell⟩ := hq.form
      obtain ⟨b, off, c0, c1, c2, c3, rfl, hbl, hr, k0, k1, k2, k3⟩ := hcell 0 (by simp)
      have hO := fun w1 (b : Below w.heap.size w w1) hw1 => H ok p 6 _ w1 (RdT.below b (Nat.le_refl _) hr) hp sp (by omega) hw1
      simp only [show ((6 : Nat) : Int) = 6 from rfl] at hO
      have bz := (Below.refl w.heap.size w).alloc (Nat.le_refl _) (.cells #[.int .i64 3, .int .i64 0, .string ⟨#[]⟩, .slice (some ⟨b, off, none⟩) 1 cap] 104)
      have s1 := hO _ bz (hw.below bz)
      have C0 := (bz.cell (p := ⟨b, off + 0 * 4, none⟩) hbl).trans k0
      have C1 := (bz.cell (p := ⟨b, off + 0 * 4 + 1, none⟩) hbl).trans k1
      have C2 := (bz.cell (p := ⟨b, off + 0 * 4 + 2, none⟩) hbl).trans k2
      have C3 := (bz.cell (p := ⟨b, off + 0 * 4 + 3, none⟩) hbl).trans k3
      simp only [Nat.zero_mul, Nat.add_zero] at C0 C1 C2 C3
      generalize aroX d p 6 = X at *
      clear hs hc eT hcell hq h hr k0 k1 k2 k3 hO
      simp only [List.length_cons, List.length_nil, Nat.zero_add] at hlc ⊢
      go_enter Tryz.func143, Tryz.ntmps143
      go_wp2_with (first | (go_at_call 160; refine s1.mono ?_; rintro e w2 ⟨rfl, b2⟩))
      go_ret
      exact ⟨congrArg (fun b => Ending.returned (.string b)) (ba_one _ X), bthen bz b2⟩
    · have sp : sdC d p = true := by
        rw [sdC_mk, if_neg (by decide), if_neg (by decide), if_pos (by decide)] at hs
        simpa using hs
      have eT : txtC (d + 1) (mkT 4 0 ⟨#[]⟩ [p] : T (d + 1)) = 45 :: aroX d p 6 := rfl
      rw [eT] at hl ⊢
      have hl2 : (aroX d p 6).length + 1 ≤ 1000000 := by simpa using hl
      obtain ⟨sl, rfl, hq⟩ := rdT_mk.1 h
      obtain ⟨a, cap, rfl, hlc, hcm, hcell⟩ := hq.form
      obtain ⟨b, off, c0, c1, c2, c3, rfl, hbl, hr, k0, k1, k2, k3⟩ := hcell 0 (by simp)
      have hO := fun w1 (b : Below w.heap.size w w1) hw1 => H ok p 6 _ w1 (RdT.below b (Nat.le_refl _) hr) hp sp (by omega) hw1
      simp only [show ((6 : Nat) : Int) = 6 from rfl] at hO
      have bz := (Below.refl w.heap.size w).alloc (Nat.le_refl _) (.cells #[.int .i64 4, .int .i64 0, .string ⟨#[]⟩, .slice (some ⟨b, off, none⟩) 1 cap] 104)
      have s1 := hO _ bz (hw.below bz)
      have C0 := (bz.cell (p := ⟨b, off + 0 * 4, none⟩) hbl).trans k0
      have C1 := (bz.cell (p := ⟨b, off + 0 * 4 + 1, none⟩) hbl).trans k1
      have C2 := (bz.cell (p := ⟨b, off + 0 * 4 + 2, none⟩) hbl).trans k2
      have C3 := (bz.cell (p := ⟨b, off + 0 * 4 + 3, none⟩) hbl).trans k3
      simp only [Nat.zero_mul, Nat.add_zero] at C0 C1 C2 C3
      generalize aroX d p 6 = X at *
      clear hs hc eT hcell hq h hr k0 k1 k2 k3 hO
      simp only [List.length_cons, List.length_nil, Nat.zero_add] at hlc ⊢
      go_enter Tryz.func143, Tryz.ntmps143
      go_wp2_with (first | (go_at_call 160; refine s1.mono ?_; rintro e w2 ⟨rfl, b2⟩))
      go_ret
      exact ⟨congrArg (fun b => Ending.returned (.string b)) (ba_one _ X), bthen bz b2⟩
  · have sd := hs
    rw [sdC_mk, if_neg (by decide), if_neg (by decide), if_neg (by decide), if_pos rfl] at sd
    simp only [List.all_cons, List.all_nil, Bool.and_true, Bool.and_eq_true] at sd
    obtain ⟨_, sp, sq⟩ := sd
    have hlv := fun w1 => rLevel_any s w1
    obtain ⟨sl, rfl, hqq⟩ := rdT_mk.1 h
    obtain ⟨a, cap, rfl, hlc, hcm, hcell⟩ := hqq.form
    obtain ⟨b, off, c0, c1, c2, c3, rfl, hbl, hr, k0, k1, k2, k3⟩ := hcell 0 (by simp)
    obtain ⟨b', off', e0, e1, e2, e3, hae, _, hr', m0, m1, m2, m3⟩ := hcell 1 (by simp)
    obtain ⟨rfl, rfl⟩ : b = b' ∧ off = off' := by injection hae with h1; injection h1 with h2 h3; exact ⟨h2, h3⟩
    have hI := fun m w1 (b : Below w.heap.size w w1) hl1 hw1 => H ok p m _ w1 (RdT.below b (Nat.le_refl _) hr) hp sp hl1 hw1
    have hJ := fun m w1 (b : Below w.heap.size w w1) hl1 hw1 => H ok q m _ w1 (RdT.below b (Nat.le_refl _) hr') hq sq hl1 hw1
    have hl5 : lv (bl s) ≤ 5 := lv_le _
    obtain ⟨k, hk⟩ : ∃ k, lv (bl s) = k := ⟨_, rfl⟩
    rw [hk] at hl5
    simp only [hk] at hlv
    have hT : txtC (d + 1) (mkT 5 0 s [p, q]) = aroX d p (if k = 3 then 4 else k) ++ 32 :: (bl s ++ 32 :: aroX d q (k + 1)) := by
      rw [← hk]; exact txt_bin s p q
    obtain ⟨TX, hTX⟩ : ∃ TX, txtC (d + 1) (mkT 5 0 s [p, q]) = TX := ⟨_, rfl⟩
    rw [hTX] at hT hl ⊢
    simp only [List.length_cons, List.length_nil, Nat.zero_add, show 1 + 1 = 2 from rfl] at hlc ⊢
    simp only [Nat.zero_mul, Nat.add_zero, Nat.one_mul] at k0 k1 k2 k3 m0 m1 m2 m3
    have b1 := (Below.refl w.heap.size w).alloc (Nat.le_refl _) (.cells #[.int .i64 5, .int .i64 0, .string s, .slice (some ⟨b, off, none⟩) 2 cap] 104)
    have hA := At4.new w (.int .i64 5) (.int .i64 0) (.string s) (.slice (some ⟨b, off, none⟩) 2 cap) 104
    have hP : Prt w b off c0 c1 c2 c3 e0 e1 e2 e3 := ⟨hbl, k0, k1, k2, k3, m0, m1, m2, m3⟩
    have hP1 := hP.on b1
    have hw1 := hw.below b1
    clear hTX hr hr' k0 k1 k2 k3 m0 m1 m2 m3 hae hcell hqq h hc hs hP
    by_cases h3 : k = 3
    · subst h3
      have hIm := fun w1 b h1 h => hI 4 w1 b h1 h
      have hJm := fun w1 b h1 h => hJ 4 w1 b h1 h
      rw [if_pos rfl] at hT
      simp only [show ((4 : Nat) : Int) = 4 from rfl] at hIm hJm
      generalize aroX d p 4 = A at hT hIm
      generalize aroX d q 4 = B at hT hJm
      clear hI hJ
      have hlA : A.length ≤ 1000000 := by have := congrArg List.length hT; simp only [List.length_append, List.length_cons] at this; omega
      have hlB : B.length ≤ 1000000 := by have := congrArg List.length hT; simp only [List.length_append, List.length_cons] at this; omega
      replace hIm := fun w1 b h => hIm w1 b hlA h
      replace hJm := fun w1 b h => hJm w1 b hlB h
      clear hlA hlB
      have hAB : A.length + B.length + (bl s).length + 2 ≤ 1000000 := by
        have := congrArg List.length hT
        simp only [List.length_append, List.length_cons] at this
        omega
      obtain ⟨bA, hbA⟩ : ∃ bA : ByteArray, ⟨A.toArray⟩ = bA := ⟨_, rfl⟩
      obtain ⟨bB, hbB⟩ : ∃ bB : ByteArray, ⟨B.toArray⟩ = bB := ⟨_, rfl⟩
      have hAe : bl bA = A := by rw [← hbA]
      have hBe : bl bB = B := by rw [← hbB]
      have a1 := add_ok bA ⟨#[32]⟩ ⟨(A ++ [32]).toArray⟩ (by rw [hAe]; show A.length + 1 ≤ _; omega) (by rw [hAe])
      have a2 := add_ok ⟨(A ++ [32]).toArray⟩ s ⟨(A ++ [32] ++ bl s).toArray⟩ (by show (A ++ [32]).length + _ ≤ _; simp only [List.length_append, List.length_cons, List.length_nil]; omega) rfl
      have a3 := add_ok ⟨(A ++ [32] ++ bl s).toArray⟩ ⟨#[32]⟩ ⟨(A ++ [32] ++ bl s ++ [32]).toArray⟩ (by show (A ++ [32] ++ bl s).length + 1 ≤ _; simp only [List.length_append, List.length_cons, List.length_nil]; omega) rfl
      have a4 := add_ok ⟨(A ++ [32] ++ bl s ++ [32]).toArray⟩ bB ⟨TX.toArray⟩ (by rw [hBe]; show (A ++ [32] ++ bl s ++ [32]).length + _ ≤ _; simp only [List.length_append, List.length_cons, List.length_nil]; omega) (by rw [hBe]; show TX = A ++ [32] ++ bl s ++ [32] ++ B; rw [hT]; simp)
      rw [hbA] at hIm
      rw [hbB] at hJm
      clear hT hAB hAe hBe hbA hbB hl
      generalize (⟨(A ++ [32]).toArray⟩ : ByteArray) = x1 at *
      generalize (⟨(A ++ [32] ++ bl s).toArray⟩ : ByteArray) = x2 at *
      generalize (⟨(A ++ [32] ++ bl s ++ [32]).toArray⟩ : ByteArray) = x3 at *
      generalize (⟨TX.toArray⟩ : ByteArray) = x4 at *
      rw [show (4 : Int) = IntKind.i64.wrap 4 from by decide] at hJm
      go_enter Tryz.func143, Tryz.ntmps143
      go_wp2_with (first | (go_at_call 161; refine (hlv _).mono ?_; rintro e w2 ⟨rfl, rfl⟩))
      clear hlv
      generalize w.alloc (.cells #[.int .i64 5, .int .i64 0, .string s, .slice (some ⟨b, off, none⟩) 2 cap] 104) = w1 at *
      have bd : Below w1.heap.size w1 w1.drew := (Below.refl _ _).drew
      have b1 := bthen b1 bd
      have hA := hA.on bd
      have hP1 := hP1.on bd
      have s1 := hIm w1.drew b1 (hw1.below bd)
      go_region_held_law (fun w' => w'.cell? ⟨w.heap.size, 2, none⟩ = some (.string s) ∧ w'.cell? ⟨w.heap.size, 3, none⟩ = some (.slice (some ⟨b, off, none⟩) 2 cap) ∧ w'.cell? ⟨b, off, none⟩ = some c0 ∧ w'.cell? ⟨b, off + 1, none⟩ = some c1 ∧ w'.cell? ⟨b, off + 2, none⟩ = some c2 ∧ w'.cell? ⟨b, off + 3, none⟩ = some c3 ∧ w'.cell? ⟨b, off + 4, none⟩ = some e0 ∧ w'.cell? ⟨b, off + 4 + 1, none⟩ = some e1 ∧ w'.cell? ⟨b, off + 4 + 2, none⟩ = some e2 ∧ w'.cell? ⟨b, off + 4 + 3, none⟩ = some e3)
        (first | (with_reducible exact hold10 hA hP1) | (with_reducible exact hold10 hA3 hP3) | (with_reducible exact hold10 hA4 hP4) | go_keep)
        ((first
          | (go_at_call 160; (with_reducible refine s1.mono ?_); rintro e w3 ⟨rfl, b3⟩; have hA3 := hA.on b3; have hP3 := hP1.on b3; have b4 := bthen b1 b3; have s2 := hJm w3 b4 ((hw1.below bd).below b3); clear s1)
          | (go_at_call 160; (with_reducible refine s2.mono ?_); rintro e w4 ⟨rfl, b5⟩; have hA4 := hA3.on b5; have hP4 := hP3.on b5; have b6 := bthen b4 b5; clear s2)))
      go_wp2
      go_ret
      exact ⟨rfl, b6⟩
    · have hIm := fun w1 b h1 h => hI k w1 b h1 h
      have hJm := fun w1 b h1 h => hJ (k + 1) w1 b h1 h
      rw [if_neg h3] at hT
      simp only [Int.natCast_add, show ((1 : Nat) : Int) = 1 from rfl] at hJm
      generalize aroX d p k = A at hT hIm
      generalize aroX d q (k + 1) = B at hT hJm
      have h3' : (k : Int) ≠ 3 := by omega
      have h3b : ((k : Int) == 3) = false := beq_eq_false_iff_ne.2 h3'
      clear hI hJ
      have hlA : A.length ≤ 1000000 := by have := congrArg List.length hT; simp only [List.length_append, List.length_cons] at this; omega
      have hlB : B.length ≤ 1000000 := by have := congrArg List.length hT; simp only [List.length_append, List.length_cons] at this; omega
      replace hIm := fun w1 b h => hIm w1 b hlA h
      replace hJm := fun w1 b h => hJm w1 b hlB h
      clear hlA hlB
      have hAB : A.length + B.length + (bl s).length + 2 ≤ 1000000 := by
        have := congrArg List.length hT
        simp only [List.length_append, List.length_cons] at this
        omega
      obtain ⟨bA, hbA⟩ : ∃ bA : ByteArray, ⟨A.toArray⟩ = bA := ⟨_, rfl⟩
      obtain ⟨bB, hbB⟩ : ∃ bB : ByteArray, ⟨B.toArray⟩ = bB := ⟨_, rfl⟩
      have hAe : bl bA = A := by rw [← hbA]
      have hBe : bl bB = B := by rw [← hbB]
      have a1 := add_ok bA ⟨#[32]⟩ ⟨(A ++ [32]).toArray⟩ (by rw [hAe]; show A.length + 1 ≤ _; omega) (by rw [hAe])
      have a2 := add_ok ⟨(A ++ [32]).toArray⟩ s ⟨(A ++ [32] ++ bl s).toArray⟩ (by show (A ++ [32]).length + _ ≤ _; simp only [List.length_append, List.length_cons, List.length_nil]; omega) rfl
      have a3 := add_ok ⟨(A ++ [32] ++ bl s).toArray⟩ ⟨#[32]⟩ ⟨(A ++ [32] ++ bl s ++ [32]).toArray⟩ (by show (A ++ [32] ++ bl s).length + 1 ≤ _; simp only [List.length_append, List.length_cons, List.length_nil]; omega) rfl
      have a4 := add_ok ⟨(A ++ [32] ++ bl s ++ [32]).toArray⟩ bB ⟨TX.toArray⟩ (by rw [hBe]; show (A ++ [32] ++ bl s ++ [32]).length + _ ≤ _; simp only [List.length_append, List.length_cons, List.length_nil]; omega) (by rw [hBe]; show TX = A ++ [32] ++ bl s ++ [32] ++ B; rw [hT]; simp)
      rw [hbA] at hIm
      rw [hbB] at hJm
      clear hT hAB hAe hBe hbA hbB hl
      generalize (⟨(A ++ [32]).toArray⟩ : ByteArray) = x1 at *
      generalize (⟨(A ++ [32] ++ bl s).toArray⟩ : ByteArray) = x2 at *
      generalize (⟨(A ++ [32] ++ bl s ++ [32]).toArray⟩ : ByteArray) = x3 at *
      generalize (⟨TX.toArray⟩ : ByteArray) = x4 at *
      rw [show ((k : Int) + 1) = IntKind.i64.wrap ((k : Int) + 1) from (wrap_small _ (by omega) (by omega)).symm] at hJm
      go_enter Tryz.func143, Tryz.ntmps143
      go_wp2_with (first | (go_at_call 161; refine (hlv _).mono ?_; rintro e w2 ⟨rfl, rfl⟩))
      clear hlv
      generalize w.alloc (.cells #[.int .i64 5, .int .i64 0, .string s, .slice (some ⟨b, off, none⟩) 2 cap] 104) = w1 at *
      have bd : Below w1.heap.size w1 w1.drew := (Below.refl _ _).drew
      have b1 := bthen b1 bd
      have hA := hA.on bd
      have hP1 := hP1.on bd
      have s1 := hIm w1.drew b1 (hw1.below bd)
      go_region_held_law (fun w' => w'.cell? ⟨w.heap.size, 2, none⟩ = some (.string s) ∧ w'.cell? ⟨w.heap.size, 3, none⟩ = some (.slice (some ⟨b, off, none⟩) 2 cap) ∧ w'.cell? ⟨b, off, none⟩ = some c0 ∧ w'.cell? ⟨b, off + 1, none⟩ = some c1 ∧ w'.cell? ⟨b, off + 2, none⟩ = some c2 ∧ w'.cell? ⟨b, off + 3, none⟩ = some c3 ∧ w'.cell? ⟨b, off + 4, none⟩ = some e0 ∧ w'.cell? ⟨b, off + 4 + 1, none⟩ = some e1 ∧ w'.cell? ⟨b, off + 4 + 2, none⟩ = some e2 ∧ w'.cell? ⟨b, off + 4 + 3, none⟩ = some e3)
        (first | (with_reducible exact hold10 hA hP1) | (with_reducible exact hold10 hA3 hP3) | (with_reducible exact hold10 hA4 hP4) | go_keep)
        ((first
          | (go_at_call 160; (with_reducible refine s1.mono ?_); rintro e w3 ⟨rfl, b3⟩; have hA3 := hA.on b3; have hP3 := hP1.on b3; have b4 := bthen b1 b3; have s2 := hJm w3 b4 ((hw1.below bd).below b3); clear s1)
          | (go_at_call 160; (with_reducible refine s2.mono ?_); rintro e w4 ⟨rfl, b5⟩; have hA4 := hA3.on b5; have hP4 := hP3.on b5; have b6 := bthen b4 b5; clear s2)))
      go_wp2
      go_ret
      exact ⟨rfl, b6⟩
  · exact absurd hs (by simp [none0, sdC_mk])
theorem textR_any : ∀ d, TxR d
  | 0 => fun _ t => Empty.elim t
  | d + 1 => text_step d (around_step d (textR_any d))
set_option maxRecDepth 100000 in
set_option maxHeartbeats 4000000 in
theorem readable_any {ok : Nat → Prop} {d : Nat} {t : T d} {v : Value} {w : World} (hT : Tabs w) (h : RdT ok w d t v) (hn : cnt d t ≤ 1000) (hsh : shrt 1000 d t = true) :
    Calls Tryz.prog 81 #[v] w fun e w' => e = .returned (.bool (fmC d t && plC d t)) ∧ Below w.heap.size w w' := by
  have hF := fun w1 (b : Below w.heap.size w w1) => formed_any (hT.below b (Nat.le_refl _)) (RdT.below b (Nat.le_refl _) h) (by omega) hsh
  have hP := fun w1 (b : Below w.heap.size w w1) => plainT_any d ok t v w1 (RdT.below b (Nat.le_refl _) h)
  generalize fmC d t = zf at *
  generalize plC d t = zp at *
  match d, t, h with
  | 0, t, _ => exact Empty.elim t
  | d + 1, t, h =>
  obtain ⟨k, n, s, ps, rfl⟩ := T.open t
  obtain ⟨sl, rfl, hp⟩ := rdT_mk.1 h
  obtain ⟨a, cap, rfl, hlc, hcm, hcell⟩ := hp.form
  have hA := At4.new w (.int .i64 k) (.int .i64 n) (.string s) (.slice a ps.length cap) 104
  have b0 := (Below.refl w.heap.size w).alloc (Nat.le_refl _) (.cells #[.int .i64 k, .int .i64 n, .string s, .slice a ps.length cap] 104)
  have s1 := hF _ b0
  clear hcell hp h hF hn hsh
  cases zf with
  | false =>
    go_enter Tryz.func81, Tryz.ntmps81
    go_wp2_with (first | (go_at_call 124; refine s1.mono ?_; rintro e w1 ⟨rfl, b1⟩; have bb := bthen b0 b1))
    go_ret
    exact ⟨rfl, bb⟩
  | true =>
    go_enter Tryz.func81, Tryz.ntmps81
    go_wp2_with (first
      | (go_at_call 124; refine s1.mono ?_; rintro e w1 ⟨rfl, b1⟩; have bb := bthen b0 b1; obtain ⟨y0, y1, y2, y3⟩ := hA.on b1; have s2 := hP w1 bb; clear s1)
      | (go_at_call 125; refine s2.mono ?_; rintro e w2 ⟨rfl, b2⟩; have bb := bthen bb b2; clear s2))
    go_ret
    exact ⟨rfl, bb⟩
set_option maxRecDepth 100000 in
set_option maxHeartbeats 4000000 in
theorem printR {ok : Nat → Prop} {d : Nat} {t : T d} {v : Value} {w : World} (hT : Tabs w) (hw : Pow w) (h : RdT ok w d t v) (hc : Cl d t) (hn : cnt d t ≤ 1000) (hsh : shrt 1000 d t = true) :
    Calls Tryz.prog 113 #[v] w fun e w' => e = .returned (.tuple #[.string ⟨(prC d t).1.toArray⟩, .int .i64 (prC d t).2]) ∧ Below w.heap.size w w' := by
  have hR := fun w1 (b : Below w.heap.size w w1) => readable_any (hT.below b (Nat.le_refl _)) (RdT.below b (Nat.le_refl _) h) hn hsh
  have hX := fun (hf : fmC d t = true) (hp : plC d t = true) w1 (b : Below w.heap.size w w1) => textR_any d ok t v w1 (RdT.below b (Nat.le_refl _) h) hc (fm_parts hf).2 (by have := txt_len hc hf hp; omega) (hw.below b)
  unfold prC
  by_cases hfp : fmC d t = true ∧ plC d t = true
  · rw [if_pos hfp]
    replace hX := hX hfp.1 hfp.2
    simp only [hfp.1, hfp.2, Bool.and_true] at hR
    generalize txtC d t = X at *
    clear hfp
    match d, t, h with
    | 0, t, _ => exact Empty.elim t
    | d + 1, t, h =>
    obtain ⟨k, n, s, ps, rfl⟩ := T.open t
    obtain ⟨sl, rfl, hp⟩ := rdT_mk.1 h
    obtain ⟨a, cap, rfl, hlc, hcm, hcell⟩ := hp.form
    have hA := At4.new w (.int .i64 k) (.int .i64 n) (.string s) (.slice a ps.length cap) 104
    have b0 := (Below.refl w.heap.size w).alloc (Nat.le_refl _) (.cells #[.int .i64 k, .int .i64 n, .string s, .slice a ps.length cap] 104)
    have s1 := hR _ b0
    clear hcell hp h hR hn hsh hc
    go_enter Tryz.func113, Tryz.ntmps113
    go_wp2_with (first
      | (go_at_call 81; refine s1.mono ?_; rintro e w1 ⟨rfl, b1⟩; have bb := bthen b0 b1; obtain ⟨y0, y1, y2, y3⟩ := hA.on b1; have s2 := hX w1 bb; clear s1)
      | (go_at_call 143; refine s2.mono ?_; rintro e w2 ⟨rfl, b2⟩; have bb := bthen bb b2; clear s2))
    go_ret2
    exact ⟨rfl, bb⟩
  · rw [if_neg hfp]
    have hz : (fmC d t && plC d t) = false := by
      cases h1 : fmC d t with
      | false => rfl
      | true => cases h2 : plC d t with
        | false => rfl
        | true => exact absurd ⟨h1, h2⟩ hfp
    simp only [hz] at hR
    clear hfp hz hX
    match d, t, h with
    | 0, t, _ => exact Empty.elim t
    | d + 1, t, h =>
    obtain ⟨k, n, s, ps, rfl⟩ := T.open t
    obtain ⟨sl, rfl, hp⟩ := rdT_mk.1 h
    obtain ⟨a, cap, rfl, hlc, hcm, hcell⟩ := hp.form
    have b0 := (Below.refl w.heap.size w).alloc (Nat.le_refl _) (.cells #[.int .i64 k, .int .i64 n, .string s, .slice a ps.length cap] 104)
    have s1 := hR _ b0
    clear hcell hp h hR hn hsh hc
    go_enter Tryz.func113, Tryz.ntmps113
    go_wp2_with (first
      | (go_at_call 81; refine s1.mono ?_; rintro e w1 ⟨rfl, b1⟩; have bb := bthen b0 b1))
    go_ret2
    exact ⟨rfl, bb⟩

def DOnK (o : OnC) : Prop := o.1.length ≤ 140737488351232 ∧ o.2.2.1.length ≤ 140737488351232 ∧ (o.2.1.1 = true → cntX o.2.1.2 ≤ 1000 ∧ shrt 1000 o.2.1.2.1 o.2.1.2.2 = true) ∧ ∀ s ∈ o.2.2.2.1, s.1.length ≤ 140737488351232 ∧ cntX s.2 ≤ 1000 ∧ shrt 1000 s.2.1 s.2.2 = true
def DStK : (d : Nat) → St d → Prop
  | 0, t => Empty.elim t
  | d + 1, t => (t.1.1.1.length ≤ 140737488351232 ∧ t.1.2.2.1.1.length ≤ 140737488351232 ∧ t.1.2.2.1.2.length ≤ 140737488351232 ∧ ∀ o ∈ t.1.2.2.2.2, DOnK o) ∧ ∀ x ∈ t.2, DStK d x
theorem dnumber_any (n : Int) (w : World) : Calls Tryz.prog 47 #[.int .i64 n] w fun e w' => e = .returned (.bool (nbB n)) ∧ w = w' := by
  unfold nbB
  by_cases h0 : 0 ≤ n
  · by_cases h1 : n ≤ 1000000000
    · rw [decide_eq_true (by omega)]
      go_enter Tryz.func47, Tryz.ntmps47
      go_wp2
      go_ret
      exact ⟨rfl, rfl⟩
    · rw [decide_eq_false (by omega)]
      go_enter Tryz.func47, Tryz.ntmps47
      go_wp2
      go_ret
      exact ⟨rfl, rfl⟩
  · rw [decide_eq_false (by omega)]
    go_enter Tryz.func47, Tryz.ntmps47
    go_wp2
    go_ret
    exact ⟨rfl, rfl⟩
theorem strD (s : List UInt8) (h : s.length ≤ 140737488351232) : ∃ e : ByteArray, sD s = .string e ∧ bl e = s ∧ e.size ≤ 140737488351232 := ⟨⟨s.toArray⟩, rfl, by unfold bl; simp, by show s.toArray.size ≤ _; simpa using h⟩
theorem neqE (s : ByteArray) : (!s.toList.isEmpty) = !decide (bl s = []) := by
  have e : s.toList = bl s := ByteArray.toList_eq _
  rw [e]
  cases bl s <;> simp
theorem stD_let {ok : Nat → Prop} {w : World} {d : Nat} {l : List (St d)} {a : Option Addr} {n cap : Nat} (h : RdK ok w 11 (rStD d ok w) l (.slice a n cap)) (j : Nat) (hj : j < l.length) : ∃ b off gn gl gc ga ge gd gu gw gr q1 q2 q3 q4 q5 q6, a = some ⟨b, off, none⟩ ∧ ok b ∧ b < w.heap.size ∧ rStD d ok w l[j] [.string gn, .int .i64 gl, .int .i64 gc, .bool ga, .bool ge, .string gd, .string gu, .int .i64 gw, .int .i64 gr, .slice q1 q2 q3, .slice q4 q5 q6] ∧ ∀ k u, [.string gn, .int .i64 gl, .int .i64 gc, .bool ga, .bool ge, .string gd, .string gu, .int .i64 gw, .int .i64 gr, .slice q1 q2 q3, .slice q4 q5 q6][k]? = some u → w.cell? ⟨b, off + j * 11 + k, none⟩ = some u := by
  obtain ⟨a1, cap1, he, h1, h2, h3⟩ := h
  simp only [Value.slice.injEq] at he
  obtain ⟨rfl, rfl, rfl⟩ := he
  obtain ⟨b, off, cs, ha, ho, hb, hl, hr, hc⟩ := h3 j hj
  cases d with
  | zero => exact Empty.elim l[j]
  | succ d =>
    have hr0 := hr
    obtain ⟨so, si, rfl, hs, hi⟩ := hr
    obtain ⟨s1, s3, rfl, _⟩ := hs.form
    obtain ⟨s4, s6, rfl, _⟩ := hi.form
    exact ⟨b, off, _, _, _, _, _, _, _, _, _, _, _, _, _, _, _, ha, ho, hb, hr0, hc⟩
def FdC (d : Nat) : Prop := ∀ (ok : Nat → Prop) (w : World) (t : St d) (cs : List Value) (n : Nat), rStD d ok w t cs → DStK d t → Tabs w → n ≤ 1000 → Calls Tryz.prog 48 #[.agg cs.toArray, .int .i64 (n : Int)] w fun e w' => e = .returned (.bool (stF d n t)) ∧ Below w.heap.size w w'
set_option maxHeartbeats 400000 in
theorem fd_call (d : Nat) (IH : FdC d) {ok : Nat → Prop} {w wr : World} {l : List (St d)} {a : Option Addr} {m cap n : Nat} (h : RdK ok w 11 (rStD d ok w) l (.slice a m cap)) (j : Nat) (hj : j < l.length) (hk : DStK d l[j]) (hT : Tabs wr) (hb : Below w.heap.size w wr) (hn : n + 1 ≤ 1000) (bx : Bool) (hx : stF d (n + 1) l[j] = bx) : ∃ b off gn gl gc ga ge gd gu gw gr q1 q2 q3 q4 q5 q6, a = some ⟨b, off, none⟩ ∧ wr.cell? ⟨b, off + j * 11, none⟩ = some (.string gn) ∧ wr.cell? ⟨b, off + j * 11 + 1, none⟩ = some (.int .i64 gl) ∧ wr.cell? ⟨b, off + j * 11 + 2, none⟩ = some (.int .i64 gc) ∧ wr.cell? ⟨b, off + j * 11 + 3, none⟩ = some (.bool ga) ∧ wr.cell? ⟨b, off + j * 11 + 4, none⟩ = some (.bool ge) ∧ wr.cell? ⟨b, off + j * 11 + 5, none⟩ = some (.string gd) ∧ wr.cell? ⟨b, off + j * 11 + 6, none⟩ = some (.string gu) ∧ wr.cell? ⟨b, off + j * 11 + 7, none⟩ = some (.int .i64 gw) ∧ wr.cell? ⟨b, off + j * 11 + 8, none⟩ = some (.int .i64 gr) ∧ wr.cell? ⟨b, off + j * 11 + 9, none⟩ = some (.slice q1 q2 q3) ∧ wr.cell? ⟨b, off + j * 11 + 10, none⟩ = some (.slice q4 q5 q6) ∧ Calls Tryz.prog 48 #[.agg #[.string gn, .int .i64 gl, .int .i64 gc, .bool ga, .bool ge, .string gd, .string gu, .int .i64 gw, .int .i64 gr, .slice q1 q2 q3, .slice q4 q5 q6], .int .i64 ((n : Int) + 1)] wr fun e w' => e = .returned (.bool bx) ∧ Below wr.heap.size wr w' := by
  obtain ⟨b, off, gn, gl, gc, ga, ge, gd, gu, gw, gr, q1, q2, q3, q4, q5, q6, ha, _, hbl, hrd, hco⟩ := stD_let h j hj
  have hc1 := IH ok wr l[j] _ (n + 1) ((kp_stD d) hrd (fun k hk hl => ⟨hk, hb.block k hl⟩)) hk hT hn
  have e : ((n + 1 : Nat) : Int) = (n : Int) + 1 := by omega
  rw [hx, e] at hc1
  refine ⟨b, off, gn, gl, gc, ga, ge, gd, gu, gw, gr, q1, q2, q3, q4, q5, q6, ha, ?_, ?_, ?_, ?_, ?_, ?_, ?_, ?_, ?_, ?_, ?_, hc1⟩
  · exact (hb.cell (p := ⟨b, off + j * 11 + 0, none⟩) hbl).trans (hco 0 _ rfl)
  · exact (hb.cell (p := ⟨b, off + j * 11 + 1, none⟩) hbl).trans (hco 1 _ rfl)
  · exact (hb.cell (p := ⟨b, off + j * 11 + 2, none⟩) hbl).trans (hco 2 _ rfl)
  · exact (hb.cell (p := ⟨b, off + j * 11 + 3, none⟩) hbl).trans (hco 3 _ rfl)
  · exact (hb.cell (p := ⟨b, off + j * 11 + 4, none⟩) hbl).trans (hco 4 _ rfl)
  · exact (hb.cell (p := ⟨b, off + j * 11 + 5, none⟩) hbl).trans (hco 5 _ rfl)
  · exact (hb.cell (p := ⟨b, off + j * 11 + 6, none⟩) hbl).trans (hco 6 _ rfl)
  · exact (hb.cell (p := ⟨b, off + j * 11 + 7, none⟩) hbl).trans (hco 7 _ rfl)
  · exact (hb.cell (p := ⟨b, off + j * 11 + 8, none⟩) hbl).trans (hco 8 _ rfl)
  · exact (hb.cell (p := ⟨b, off + j * 11 + 9, none⟩) hbl).trans (hco 9 _ rfl)
  · exact (hb.cell (p := ⟨b, off + j * 11 + 10, none⟩) hbl).trans (hco 10 _ rfl)

set_option maxRecDepth 100000 in
set_option maxHeartbeats 16000000 in
theorem fd_step (d : Nat) (IH : FdC d) : FdC (d + 1) := by
  intro ok w t cs n h hk hT hn
  obtain ⟨so, si, rfl, hOn, hIn⟩ := h
  obtain ⟨p1, p3, rfl, hp1, hp2⟩ := hOn.form
  obtain ⟨p4, p6, rfl, hp4, hp5⟩ := hIn.form
  unfold maxLen at hp2 hp5
  obtain ⟨⟨k1, k2, k3, k4⟩, k5⟩ := hk
  obtain ⟨sn, e1, e2, e3⟩ := strD _ k1
  obtain ⟨sd, d1, d2, d3⟩ := strD _ k2
  obtain ⟨su, u1, u2, u3⟩ := strD _ k3
  obtain ⟨m, hm⟩ : ∃ m, t.1.2.2.2.2.length = m := ⟨_, rfl⟩
  obtain ⟨i, hi⟩ : ∃ m, t.2.length = m := ⟨_, rfl⟩
  obtain ⟨sl, hsl⟩ : ∃ x, t.1.1.2.1 = x := ⟨_, rfl⟩
  obtain ⟨sc, hsc⟩ : ∃ x, t.1.1.2.2 = x := ⟨_, rfl⟩
  obtain ⟨sb, hsb⟩ : ∃ x, t.1.2.1.1 = x := ⟨_, rfl⟩
  obtain ⟨se, hse⟩ : ∃ x, t.1.2.1.2 = x := ⟨_, rfl⟩
  obtain ⟨sw, hsw⟩ : ∃ x, t.1.2.2.2.1.1 = x := ⟨_, rfl⟩
  obtain ⟨sr, hsr⟩ : ∃ x, t.1.2.2.2.1.2 = x := ⟨_, rfl⟩
  have hcs : (hdD t.1 (.slice p1 t.1.2.2.2.2.length p3) (.slice p4 t.2.length p6)).toArray = #[.string sn, .int .i64 sl, .int .i64 sc, .bool sb, .bool se, .string sd, .string su, .int .i64 sw, .int .i64 sr, .slice p1 m p3, .slice p4 i p6] := by
    unfold hdD
    rw [e1, d1, u1, hm, hi, hsl, hsc, hsb, hse, hsw, hsr]
  rw [hcs]
  obtain ⟨st, hst⟩ : ∃ x, stepB t.1 = x := ⟨_, rfl⟩
  have hst2 : st = !(decide (bl sd = []) && decide (bl su = []) && decide (sw = 0) && decide (sr = 0)) := by
    rw [← hst, d2, u2, ← hsw, ← hsr]; rfl
  obtain ⟨bo, hbo⟩ : ∃ x, t.1.2.2.2.2.all onF = x := ⟨_, rfl⟩
  obtain ⟨bi, hbi⟩ : ∃ x, t.2.all (stF d (n + 1)) = x := ⟨_, rfl⟩
  obtain ⟨bk, hbk⟩ : ∃ x, kndF t.1 = x := ⟨_, rfl⟩
  have hbk2 : bk = if st = true then !sb && !se && plainB (bl sd) && plainB (bl su) && nbB sw && nbB sr else !sb || !se := by
    rw [← hbk, ← hst, d2, u2, ← hsw, ← hsr, ← hsb, ← hse]; rfl
  have hV : stF (d + 1) n t = (decide ((n : Int) ≤ 6) && plainB (bl sn) && bk && bo && bi) := by
    rw [e2, ← hbo, ← hbi, ← hbk]
    have e : decide ((n : Int) ≤ 6) = decide (n ≤ 6) := by by_cases hh : n ≤ 6 <;> simp [hh] <;> omega
    rw [e]; rfl
  obtain ⟨V, hVV⟩ : ∃ x, stF (d + 1) n t = x := ⟨_, rfl⟩
  rw [hVV]
  rw [hVV] at hV
  have HV := mkHid hV
  have HBO := mkHid hbo
  have HBI := mkHid hbi
  have HBK := mkHid hbk2
  have HST := mkHid hst2
  have HON := mkHid hOn
  have HIN := mkHid hIn
  have HM := mkHid hm
  have HI := mkHid hi
  have HK4 := mkHid k4
  have HK5 := mkHid k5
  rw [hm] at hp1
  rw [hi] at hp4
  have hal : Below w.heap.size w (w.alloc (.cells #[.string sn, .int .i64 sl, .int .i64 sc, .bool sb, .bool se, .string sd, .string su, .int .i64 sw, .int .i64 sr, .slice p1 m p3, .slice p4 i p6] 85)) := (Below.refl w.heap.size w).alloc (Nat.le_refl _) _
  have hX : Bn (w.alloc (.cells #[.string sn, .int .i64 sl, .int .i64 sc, .bool sb, .bool se, .string sd, .string su, .int .i64 sw, .int .i64 sr, .slice p1 m p3, .slice p4 i p6] 85)) w.heap.size [.string sn, .int .i64 sl, .int .i64 sc, .bool sb, .bool se, .string sd, .string su, .int .i64 sw, .int .i64 sr, .slice p1 m p3, .slice p4 i p6] := Bn.new w [.string sn, .int .i64 sl, .int .i64 sc, .bool sb, .bool se, .string sd, .string su, .int .i64 sw, .int .i64 sr, .slice p1 m p3, .slice p4 i p6] 85 _ rfl
  have hpl : ∀ (s : ByteArray), s.size ≤ 140737488351232 → ∀ w1, Below w.heap.size w w1 → Calls Tryz.prog 46 #[.string s] w1 fun e w' => e = .returned (.bool (plainB (bl s))) ∧ Below w1.heap.size w1 w' := fun s hs w1 b1 => plain_any (hT.below b1 (Nat.le_refl _)) s hs
  clear e1 e2 d1 d2 u1 u2 k1 k2 k3 k4 k5 hm hi hsl hsc hsb hse hsw hsr hcs hst hst2 hbo hbi hbk hbk2 hV hVV hOn hIn
  go_enter Tryz.func48, Tryz.ntmps48
  go_upto_region 1 with fail
  generalize (w.alloc (.cells #[.string sn, .int .i64 sl, .int .i64 sc, .bool sb, .bool se, .string sd, .string su, .int .i64 sw, .int .i64 sr, .slice p1 m p3, .slice p4 i p6] 85)) = wx at *
  have hlt := hX.lt
  obtain ⟨x0, _⟩ := hX 0 _ rfl
  obtain ⟨x1, _⟩ := hX 1 _ rfl
  obtain ⟨x2, _⟩ := hX 2 _ rfl
  obtain ⟨x3, _⟩ := hX 3 _ rfl
  obtain ⟨x4, _⟩ := hX 4 _ rfl
  obtain ⟨x5, _⟩ := hX 5 _ rfl
  obtain ⟨x6, _⟩ := hX 6 _ rfl
  obtain ⟨x7, _⟩ := hX 7 _ rfl
  obtain ⟨x8, _⟩ := hX 8 _ rfl
  obtain ⟨x9, _⟩ := hX 9 _ rfl
  obtain ⟨x10, _⟩ := hX 10 _ rfl
  by_cases h6 : n ≤ 6
  case neg =>
    have i6 : (6 : Int) < (n : Int) := by omega
    have e : V = false := by rw [HV.out, decide_eq_false (by omega)]; rfl
    subst e
    go_wp2
    go_ret
    exact ⟨rfl, hal⟩
  have i6 : ¬ (6 : Int) < (n : Int) := by omega
  obtain ⟨bn, hbn⟩ : ∃ x, plainB (bl sn) = x := ⟨_, rfl⟩
  have hp1a := hpl sn e3 _ hal
  rw [hbn] at hp1a
  have HBN := mkHid hbn
  clear hbn
  cases bn with
  | false =>
    have e : V = false := by rw [HV.out, HBN.out]; simp
    subst e
    go_wp2_with (first
      | (go_at_call 46; refine hp1a.mono ?_; rintro e w1 ⟨rfl, b1⟩)
      | fail)
    go_ret
    exact ⟨rfl, hal.trans (b1.mono hal.size)⟩
  | true =>
    go_upto_region 3 with (first
      | (go_at_call 46; refine hp1a.mono ?_; rintro e w1 ⟨rfl, b1⟩)
      | fail)
    have hb1 := hal.trans (b1.mono hal.size)
    have hX1 := hX.on b1
    clear hX hal b1 hp1a x0 x1 x2 x3 x4 x5 x6 x7 x8 x9 x10 hlt
    have HBw1 := mkHid hb1
    go_cut [5] from 18 to 35 (fun u5 wc => u5 = .bool st ∧ Hid (w1 = wc))
    case first =>
      obtain ⟨x5, _⟩ := hX1 5 _ rfl
      obtain ⟨x6, _⟩ := hX1 6 _ rfl
      obtain ⟨x7, _⟩ := hX1 7 _ rfl
      obtain ⟨x8, _⟩ := hX1 8 _ rfl
      clear HV HON HIN HK4 HK5 hX1 IH
      have hS := HST.out
      have q1 := neqE sd
      have q2 := neqE su
      by_cases a1 : bl sd = []
      · rw [a1, decide_eq_true rfl] at q1
        by_cases a2 : bl su = []
        · rw [a2, decide_eq_true rfl] at q2
          by_cases a3 : sw = 0
          · by_cases a4 : sr = 0
            · have e : st = false := by rw [hS, a1, a2, a3, a4]; rfl
              subst e a3 a4
              clear HST hS HBK
              go_wp2
              go_meet
              case rel => exact ⟨rfl, rfl⟩
            · have e : st = true := by rw [hS]; simp [a4]
              have a5 : (sr != 0) = true := by simpa using a4
              subst e a3
              clear HST hS HBK
              go_wp2
              go_meet
              case rel => exact ⟨by first | rfl | rw [a5], rfl⟩
          · have e : st = true := by rw [hS]; simp [a3]
            have a5 : (sw != 0) = true := by simpa using a3
            subst e
            clear HST hS HBK
            go_wp2
            go_meet
            case rel => exact ⟨by first | rfl | rw [a5], rfl⟩
        · rw [decide_eq_false a2] at q2
          have e : st = true := by rw [hS]; simp [a2]
          subst e
          clear HST hS HBK
          go_wp2
          go_meet
          case rel => exact ⟨by first | rfl | rw [q2]; rfl, rfl⟩
      · rw [decide_eq_false a1] at q1
        have e : st = true := by rw [hS]; simp [a1]
        subst e
        clear HST hS HBK
        go_wp2
        go_meet
        case rel => exact ⟨by first | rfl | rw [q1]; rfl, rfl⟩
    case rest =>
      obtain ⟨rfl, hwc⟩ := hcut
      obtain rfl := hwc.out
      clear hwc HST
      go_upto_region 4 with fail
      go_cut [52] from 36 to 52 (fun u wc => u = .bool (sb && se || ((sb || se) && st)) ∧ Hid (w1 = wc))
      case first =>
        obtain ⟨x3, _⟩ := hX1 3 _ rfl
        obtain ⟨x4, _⟩ := hX1 4 _ rfl
        clear HV HON HIN HK4 HK5 hX1 IH HBK
        cases sb <;> cases se <;> cases st
        all_goals (
          go_wp2
          go_meet
          exact ⟨rfl, rfl⟩)
      case rest =>
        obtain ⟨rfl, hwc⟩ := hcut
        obtain rfl := hwc.out
        clear hwc
        obtain ⟨ba, hba⟩ : ∃ x, (sb && se || ((sb || se) && st)) = x := ⟨_, rfl⟩
        rw [hba]
        have HBA := mkHid hba
        clear hba
        cases ba with
        | true =>
          have e : V = false := by
            have hh := HBA.out
            rw [HV.out, HBK.out]
            cases sb <;> cases se <;> cases st <;> simp_all
          subst e
          go_wp2
          go_ret
          exact ⟨rfl, HBw1.out⟩
        | false =>
          obtain ⟨pd, hpd⟩ : ∃ x, plainB (bl sd) = x := ⟨_, rfl⟩
          obtain ⟨pu, hpu⟩ : ∃ x, plainB (bl su) = x := ⟨_, rfl⟩
          obtain ⟨na, hna⟩ : ∃ x, nbB sw = x := ⟨_, rfl⟩
          obtain ⟨nr, hnr⟩ : ∃ x, nbB sr = x := ⟨_, rfl⟩
          have hq1 := fun w2 b2 => hpl sd d3 w2 b2
          have hq2 := fun w2 b2 => hpl su u3 w2 b2
          have hq3 := fun w2 => dnumber_any sw w2
          have hq4 := fun w2 => dnumber_any sr w2
          rw [hpd] at hq1
          rw [hpu] at hq2
          rw [hna] at hq3
          rw [hnr] at hq4
          have HBK2 : Hid (bk = if st = true then !sb && !se && pd && pu && na && nr else !sb || !se) := by
            show bk = _
            rw [HBK.out, hpd, hpu, hna, hnr]
          clear hpd hpu hna hnr HBK
          go_upto_region 6 with fail
          go_cut [77] from 53 to 77 (fun u wc => u = .bool (st && !(pd && pu && na && nr)) ∧ Below w1.heap.size w1 wc)
          case first =>
            obtain ⟨x5, _⟩ := hX1 5 _ rfl
            obtain ⟨x6, _⟩ := hX1 6 _ rfl
            obtain ⟨x7, _⟩ := hX1 7 _ rfl
            obtain ⟨x8, _⟩ := hX1 8 _ rfl
            have hB : Below w1.heap.size w1 w1 := Below.refl _ _
            have hlt := hX1.lt
            clear HV HON HIN HK4 HK5 IH HBK2 HBA
            cases st with
            | false =>
              go_wp2
              go_meet
              exact ⟨rfl, hB⟩
            | true =>
              cases pd <;> cases pu <;> cases na <;> cases nr
              all_goals (
                go_wp2_with (first
                  | (go_at_call 46; (first | (with_reducible refine (hq1 _ (hb1.trans (hB.mono hb1.size))).mono ?_) | (with_reducible refine (hq2 _ (hb1.trans (hB.mono hb1.size))).mono ?_)); rintro e w2 ⟨rfl, b2⟩; have hB := Below.nx hB b2; obtain ⟨x6, _⟩ := (hX1.on hB) 6 _ rfl; obtain ⟨x7, _⟩ := (hX1.on hB) 7 _ rfl; obtain ⟨x8, _⟩ := (hX1.on hB) 8 _ rfl)
                  | (go_at_call 47; (first | (with_reducible refine (hq3 _).mono ?_) | (with_reducible refine (hq4 _).mono ?_)); rintro e w3 ⟨rfl, rfl⟩)
                  | fail)
                go_meet
                exact ⟨rfl, hB⟩)
          case rest =>
            obtain ⟨rfl, hbc⟩ := hcut
            obtain ⟨w2, hw2⟩ : ∃ x, x = wc := ⟨_, rfl⟩
            subst hw2
            have hb2 := hb1.trans (hbc.mono hb1.size)
            have hX2 := hX1.on hbc
            obtain ⟨bc, hbcc⟩ : ∃ x, (st && !(pd && pu && na && nr)) = x := ⟨_, rfl⟩
            rw [hbcc]
            have HBC := mkHid hbcc
            clear hbcc hq1 hq2 hq3 hq4 hX1 hbc hb1 HBw1
            cases bc with
            | true =>
              have e : V = false := by
                have hh := HBC.out
                rw [HV.out, HBK2.out]
                cases st <;> cases pd <;> cases pu <;> cases na <;> cases nr <;> simp_all
              subst e
              go_wp2
              go_ret
              exact ⟨rfl, hb2⟩
            | false =>
              have HV2 : Hid (V = (bo && bi)) := by
                show V = _
                have hh := HBC.out
                have hg := HBA.out
                rw [HV.out, HBK2.out, HBN.out, decide_eq_true (by omega)]
                cases sb <;> cases se <;> cases st <;> cases pd <;> cases pu <;> cases na <;> cases nr <;> simp_all
              clear HV HBK2 HBA HBC HBN
              obtain ⟨x9, _⟩ := hX2 9 _ rfl
              go_wp2
              go_loopw [81] (fun ix wr => ∃ (g : Nat), g ≤ m ∧ ix = .int .i64 (g : Int) ∧ Hid (∀ o ∈ t.1.2.2.2.2.take g, onF o = true) ∧ Below w2.heap.size w2 wr) (fun ix _ => m - (RowKit.intOf ix).toNat)
              case atStart => exact ⟨0, Nat.zero_le _, rfl, (show Hid _ from fun o ho => by simp at ho), Below.refl _ _⟩
              case round =>
                clear x9
                obtain ⟨g, hg, rfl, HO, hbg⟩ := hrel
                have hbr := hb2.trans (hbg.mono hb2.size)
                have hXr := hX2.on hbg
                by_cases hgl : g < m
                · have hgt : g < t.1.2.2.2.2.length := by rw [HM.out]; exact hgl
                  obtain ⟨b0, oo, c0, c1, c2, c3, s1, s3, rfl, _, hbl2, hGx, hSe, hco⟩ := onD_at HON.out g hgt
                  obtain ⟨v1, v2, v3, v4⟩ := HK4.out _ (List.getElem_mem hgt)
                  have hbad : Hid (onF t.1.2.2.2.2[g] = false → V = false) := fun hq => by
                    show V = false
                    rw [HV2.out, ← HBO.out, List.all_eq_false.2 ⟨_, List.getElem_mem hgt, by rw [hq]; decide⟩]; rfl
                  obtain ⟨o, ho⟩ : ∃ o, t.1.2.2.2.2[g] = o := ⟨_, rfl⟩
                  rw [ho] at hGx hSe hco v1 v2 v3 v4 hbad
                  have HOO := mkHid ho
                  obtain ⟨x1, x2, x3, x4, x5, x6, rfl, rfl, rfl, rfl⟩ := rdX_let hGx
                  obtain ⟨ns, hns⟩ : ∃ m, o.2.2.2.1.length = m := ⟨_, rfl⟩
                  obtain ⟨ev, ee1, ee2, ee3⟩ := strD _ v1
                  obtain ⟨tg, eg1, eg2, eg3⟩ := strD _ v2
                  obtain ⟨gb, hgb⟩ : ∃ x, o.2.1.1 = x := ⟨_, rfl⟩
                  obtain ⟨ol, hol⟩ : ∃ x, o.2.2.2.2.1 = x := ⟨_, rfl⟩
                  obtain ⟨oc, hoc⟩ : ∃ x, o.2.2.2.2.2 = x := ⟨_, rfl⟩
                  rw [hns] at hSe hco
                  rw [ee1, eg1, hgb, hol, hoc] at hco
                  rw [hgb] at v3
                  obtain ⟨_, _, hes, hcs, hms⟩ := hSe.form
                  simp only [Value.slice.injEq] at hes
                  obtain ⟨rfl, hx0, rfl⟩ := hes
                  clear hx0
                  rw [hns] at hcs
                  unfold maxLen at hms
                  obtain ⟨pe, hpe⟩ : ∃ x, plainB (bl ev) = x := ⟨_, rfl⟩
                  obtain ⟨pt, hpt⟩ : ∃ x, plainB (bl tg) = x := ⟨_, rfl⟩
                  obtain ⟨rx, hrx⟩ : ∃ x, exF o.2.1.2 = x := ⟨_, rfl⟩
                  obtain ⟨sa, hsa⟩ : ∃ x, o.2.2.2.1.all setF = x := ⟨_, rfl⟩
                  have HOF : Hid (onF o = (pe && ((!gb || rx) && (pt && sa)))) := by
                    show _ = _
                    unfold onF
                    rw [← ee2, hpe, hgb, hrx, ← eg2, hpt, hsa]
                  have HSA := mkHid hsa
                  have hq1 := fun w3 b3 => hpl ev ee3 w3 b3
                  have hq2 := fun w3 b3 => hpl tg eg3 w3 b3
                  rw [hpe] at hq1
                  rw [hpt] at hq2
                  have hq3 : gb = true → ∀ w3, Below w.heap.size w w3 → Calls Tryz.prog 81 #[.agg #[.int .i64 x1, .int .i64 x2, .string x3, .slice x4 x5 x6]] w3 fun e w' => e = .returned (.bool rx) ∧ Below w3.heap.size w3 w' := fun hg w3 b3 => by
                    rw [← hrx]
                    exact readable_any (hT.below b3 (Nat.le_refl _)) (hGx.keep (ok' := ok) (fun k hk hl => ⟨hk, b3.block k hl⟩) : RdX ok w3 o.2.1.2 _) (v3 hg).1 (v3 hg).2
                  have HSE := mkHid hSe
                  have HNS := mkHid hns
                  have HV4 := mkHid v4
                  have O0 := (hbr.cell (p := ⟨b0, oo + g * 10 + 0, none⟩) hbl2).trans (hco 0 _ rfl)
                  have O1 := (hbr.cell (p := ⟨b0, oo + g * 10 + 1, none⟩) hbl2).trans (hco 1 _ rfl)
                  have O2 := (hbr.cell (p := ⟨b0, oo + g * 10 + 2, none⟩) hbl2).trans (hco 2 _ rfl)
                  have O3 := (hbr.cell (p := ⟨b0, oo + g * 10 + 3, none⟩) hbl2).trans (hco 3 _ rfl)
                  have O4 := (hbr.cell (p := ⟨b0, oo + g * 10 + 4, none⟩) hbl2).trans (hco 4 _ rfl)
                  have O5 := (hbr.cell (p := ⟨b0, oo + g * 10 + 5, none⟩) hbl2).trans (hco 5 _ rfl)
                  have O6 := (hbr.cell (p := ⟨b0, oo + g * 10 + 6, none⟩) hbl2).trans (hco 6 _ rfl)
                  have O7 := (hbr.cell (p := ⟨b0, oo + g * 10 + 7, none⟩) hbl2).trans (hco 7 _ rfl)
                  have O8 := (hbr.cell (p := ⟨b0, oo + g * 10 + 8, none⟩) hbl2).trans (hco 8 _ rfl)
                  have O9 := (hbr.cell (p := ⟨b0, oo + g * 10 + 9, none⟩) hbl2).trans (hco 9 _ rfl)
                  rw [Nat.add_zero] at O0
                  obtain ⟨x9, _⟩ := hXr 9 _ rfl
                  clear ee1 ee2 eg1 eg2 hgb hol hoc hpe hpt hrx hsa hns hSe hco hGx ho v1 v2 v4
                  have i3 : (g : Int) < (m : Int) := by omega
                  have i4 : (0 : Int) ≤ (g : Int) := by omega
                  have halo := (Below.refl wr.heap.size wr).alloc (Nat.le_refl _) (.cells #[.string ev, .bool gb, .int .i64 x1, .int .i64 x2, .string x3, .slice x4 x5 x6, .string tg, .slice s1 ns s3, .int .i64 ol, .int .i64 oc] 107)
                  have hOb : Bn (wr.alloc (.cells #[.string ev, .bool gb, .int .i64 x1, .int .i64 x2, .string x3, .slice x4 x5 x6, .string tg, .slice s1 ns s3, .int .i64 ol, .int .i64 oc] 107)) wr.heap.size [.string ev, .bool gb, .int .i64 x1, .int .i64 x2, .string x3, .slice x4 x5 x6, .string tg, .slice s1 ns s3, .int .i64 ol, .int .i64 oc] := Bn.new wr [.string ev, .bool gb, .int .i64 x1, .int .i64 x2, .string x3, .slice x4 x5 x6, .string tg, .slice s1 ns s3, .int .i64 ol, .int .i64 oc] 107 _ rfl
                  have hbo := hbr.trans (halo.mono hbr.size)
                  have hbg2 := hbg.trans (halo.mono hbg.size)
                  go_upto_region 12 with fail
                  clear O0 O1 O2 O3 O4 O5 O6 O7 O8 O9 x9
                  generalize (wr.alloc (.cells #[.string ev, .bool gb, .int .i64 x1, .int .i64 x2, .string x3, .slice x4 x5 x6, .string tg, .slice s1 ns s3, .int .i64 ol, .int .i64 oc] 107)) = wo at *
                  go_cut [108] from 89 to 108 (fun u wc => u = .bool (!pe || !pt || gb && !rx) ∧ Below wo.heap.size wo wc)
                  case first =>
                    have hB : Below wo.heap.size wo wo := Below.refl _ _
                    clear HV2 HON HIN HK4 HK5 IH HBO HBI HO HOF HSA HSE HV4 hbad
                    obtain ⟨y0, _⟩ := hOb 0 _ rfl
                    obtain ⟨y1, _⟩ := hOb 1 _ rfl
                    obtain ⟨y2, _⟩ := hOb 2 _ rfl
                    obtain ⟨y3, _⟩ := hOb 3 _ rfl
                    obtain ⟨y4, _⟩ := hOb 4 _ rfl
                    obtain ⟨y5, _⟩ := hOb 5 _ rfl
                    obtain ⟨y6, _⟩ := hOb 6 _ rfl
                    cases gb with
                    | false =>
                      clear hq3 v3
                      cases pe <;> cases pt
                      all_goals (
                        go_wp2_with (first
                          | (go_at_call 46; (first | (with_reducible refine (hq1 _ (hbo.trans (hB.mono hbo.size))).mono ?_) | (with_reducible refine (hq2 _ (hbo.trans (hB.mono hbo.size))).mono ?_)); rintro e w3 ⟨rfl, b3⟩; have hB := Below.nx hB b3; obtain ⟨y1, _⟩ := (hOb.on hB) 1 _ rfl; obtain ⟨y6, _⟩ := (hOb.on hB) 6 _ rfl)
                          | fail)
                        go_meet
                        exact ⟨rfl, hB⟩)
                    | true =>
                      replace hq3 := hq3 rfl
                      clear v3
                      cases pe <;> cases pt <;> cases rx
                      all_goals (
                        go_wp2_with (first
                          | (go_at_call 46; (first | (with_reducible refine (hq1 _ (hbo.trans (hB.mono hbo.size))).mono ?_) | (with_reducible refine (hq2 _ (hbo.trans (hB.mono hbo.size))).mono ?_)); rintro e w3 ⟨rfl, b3⟩; have hB := Below.nx hB b3; obtain ⟨y1, _⟩ := (hOb.on hB) 1 _ rfl; obtain ⟨y2, _⟩ := (hOb.on hB) 2 _ rfl; obtain ⟨y3, _⟩ := (hOb.on hB) 3 _ rfl; obtain ⟨y4, _⟩ := (hOb.on hB) 4 _ rfl; obtain ⟨y5, _⟩ := (hOb.on hB) 5 _ rfl; obtain ⟨y6, _⟩ := (hOb.on hB) 6 _ rfl)
                          | (go_at_call 81; refine (hq3 _ (hbo.trans (hB.mono hbo.size))).mono ?_; rintro e w3 ⟨rfl, b3⟩; have hB := Below.nx hB b3)
                          | fail)
                        go_meet
                        exact ⟨rfl, hB⟩)
                  case rest =>
                    obtain ⟨rfl, hbc⟩ := hcut
                    obtain ⟨w4, hw4⟩ : ∃ x, x = wc := ⟨_, rfl⟩
                    subst hw4
                    have hb4 := hbo.trans (hbc.mono hbo.size)
                    have hbg4 := hbg2.trans (hbc.mono hbg2.size)
                    have hO4 := hOb.on hbc
                    obtain ⟨bd, hbd⟩ : ∃ x, (!pe || !pt || gb && !rx) = x := ⟨_, rfl⟩
                    rw [hbd]
                    have HBD := mkHid hbd
                    clear hbd hq1 hq2 hq3 v3 hOb halo hbo hbg2 hbc
                    cases bd with
                    | true =>
                      have e : V = false := hbad.out (by
                        rw [HOF.out]
                        have hh := HBD.out
                        cases pe <;> cases pt <;> cases gb <;> cases rx <;> simp_all)
                      subst e
                      go_wp2
                      go_ret
                      exact ⟨rfl, hb4⟩
                    | false =>
                      have HOF2 : Hid (onF o = sa) := by
                        show _ = _
                        rw [HOF.out]
                        have hh := HBD.out
                        cases pe <;> cases pt <;> cases gb <;> cases rx <;> simp_all
                      clear HOF HBD
                      obtain ⟨y7, _⟩ := hO4 7 _ rfl
                      go_wp2
                      go_loopw [112] (fun ix wr => ∃ (h : Nat), h ≤ ns ∧ ix = .int .i64 (h : Int) ∧ Hid (∀ s ∈ o.2.2.2.1.take h, setF s = true) ∧ Below w4.heap.size w4 wr) (fun ix _ => ns - (RowKit.intOf ix).toNat)
                      case atStart => exact ⟨0, Nat.zero_le _, rfl, (show Hid _ from fun s hs => by simp at hs), Below.refl _ _⟩
                      case round =>
                        clear y7
                        obtain ⟨h, hh, rfl, HS, hbh⟩ := hrel
                        have hbr5 := hb4.trans (hbh.mono hb4.size)
                        have hO5 := hO4.on hbh
                        obtain ⟨y7, _⟩ := hO5 7 _ rfl
                        by_cases hhl : h < ns
                        · have hht : h < o.2.2.2.1.length := by rw [HNS.out]; exact hhl
                          obtain ⟨bs, os, c0, c1, c2, c3, rfl, _, hbl3, hQx, hcs2⟩ := setD_at HSE.out h hht
                          obtain ⟨r1, r2, r3⟩ := HV4.out _ (List.getElem_mem hht)
                          have hbad2 : Hid (setF o.2.2.2.1[h] = false → V = false) := fun hq => hbad.out (by
                            rw [HOF2.out, ← HSA.out]
                            exact List.all_eq_false.2 ⟨_, List.getElem_mem hht, by rw [hq]; decide⟩)
                          obtain ⟨q, hq⟩ : ∃ q, o.2.2.2.1[h] = q := ⟨_, rfl⟩
                          rw [hq] at hQx hcs2 r1 r2 r3 hbad2
                          have HQ := mkHid hq
                          obtain ⟨z1, z2, z3, z4, z5, z6, rfl, rfl, rfl, rfl⟩ := rdX_let hQx
                          obtain ⟨nm, en1, en2, en3⟩ := strD _ r1
                          rw [en1] at hcs2
                          obtain ⟨pn, hpn⟩ : ∃ x, plainB (bl nm) = x := ⟨_, rfl⟩
                          obtain ⟨rs, hrs⟩ : ∃ x, exF q.2 = x := ⟨_, rfl⟩
                          have HSF : Hid (setF q = (pn && rs)) := by
                            show _ = _
                            unfold setF
                            rw [← en2, hpn, hrs]
                          have hp2 := hpl nm en3 _ hbr5
                          rw [hpn] at hp2
                          have hr2 : ∀ w6, Below w.heap.size w w6 → Calls Tryz.prog 81 #[.agg #[.int .i64 z1, .int .i64 z2, .string z3, .slice z4 z5 z6]] w6 fun e w' => e = .returned (.bool rs) ∧ Below w6.heap.size w6 w' := fun w6 b6 => by
                            rw [← hrs]
                            exact readable_any (hT.below b6 (Nat.le_refl _)) (hQx.keep (ok' := ok) (fun k hk hl => ⟨hk, b6.block k hl⟩) : RdX ok w6 q.2 _) r2 r3
                          have S0 := (hbr5.cell (p := ⟨bs, os + h * 5 + 0, none⟩) hbl3).trans (hcs2 0 _ rfl)
                          rw [Nat.add_zero] at S0
                          have HCS := mkHid hcs2
                          clear en1 en2 hpn hrs hq hcs2 hQx r1 r2 r3
                          have i5 : (h : Int) < (ns : Int) := by omega
                          have i6' : (0 : Int) ≤ (h : Int) := by omega
                          cases pn with
                          | false =>
                            have e : V = false := hbad2.out (by rw [HSF.out]; rfl)
                            subst e
                            go_wp2_with (first
                              | (go_at_call 46; refine hp2.mono ?_; rintro e w6 ⟨rfl, b6⟩)
                              | fail)
                            go_ret
                            exact ⟨rfl, hbr5.trans (b6.mono hbr5.size)⟩
                          | true =>
                            cases rs with
                            | false =>
                              have e : V = false := hbad2.out (by rw [HSF.out]; rfl)
                              subst e
                              go_wp2_with (first
                                | (go_at_call 46; refine hp2.mono ?_; rintro e w6 ⟨rfl, b6⟩; have hb6 := hbr5.trans (b6.mono hbr5.size); obtain ⟨y7, _⟩ := (hO5.on b6) 7 _ rfl; have S1 := (hb6.cell (p := ⟨bs, os + h * 5 + 1, none⟩) hbl3).trans (HCS.out 1 _ rfl); have S2 := (hb6.cell (p := ⟨bs, os + h * 5 + 2, none⟩) hbl3).trans (HCS.out 2 _ rfl); have S3 := (hb6.cell (p := ⟨bs, os + h * 5 + 3, none⟩) hbl3).trans (HCS.out 3 _ rfl); have S4 := (hb6.cell (p := ⟨bs, os + h * 5 + 4, none⟩) hbl3).trans (HCS.out 4 _ rfl))
                                | (go_at_call 81; refine (hr2 _ hb6).mono ?_; rintro e w7 ⟨rfl, b7⟩)
                                | fail)
                              go_ret
                              exact ⟨rfl, hb6.trans (b7.mono hb6.size)⟩
                            | true =>
                              go_wp2_with (first
                                | (go_at_call 46; refine hp2.mono ?_; rintro e w6 ⟨rfl, b6⟩; have hb6 := hbr5.trans (b6.mono hbr5.size); obtain ⟨y7, _⟩ := (hO5.on b6) 7 _ rfl; have S1 := (hb6.cell (p := ⟨bs, os + h * 5 + 1, none⟩) hbl3).trans (HCS.out 1 _ rfl); have S2 := (hb6.cell (p := ⟨bs, os + h * 5 + 2, none⟩) hbl3).trans (HCS.out 2 _ rfl); have S3 := (hb6.cell (p := ⟨bs, os + h * 5 + 3, none⟩) hbl3).trans (HCS.out 3 _ rfl); have S4 := (hb6.cell (p := ⟨bs, os + h * 5 + 4, none⟩) hbl3).trans (HCS.out 4 _ rfl))
                                | (go_at_call 81; refine (hr2 _ hb6).mono ?_; rintro e w7 ⟨rfl, b7⟩)
                                | fail)
                              have hb7 := (hbh.trans (b6.mono hbh.size)).trans (b7.mono (hbh.trans (b6.mono hbh.size)).size)
                              go_roundw
                              case rel =>
                                refine ⟨h + 1, hhl, by go_num, ?_, hb7⟩
                                show ∀ s ∈ o.2.2.2.1.take (h + 1), _
                                rw [List.take_succ_eq_append_getElem hht, HQ.out]
                                intro s hs
                                rcases List.mem_append.1 hs with hs | hs
                                · exact HS.out s hs
                                · rw [List.mem_singleton.1 hs, HSF.out]; rfl
                              case measure => simp [RowKit.intOf]; omega
                        · have i5 : ¬ (h : Int) < (ns : Int) := by omega
                          have hall : onF o = true := by
                            rw [HOF2.out, ← HSA.out, List.all_eq_true]
                            have hs := HS.out
                            rw [List.take_of_length_le (by rw [HNS.out]; omega)] at hs
                            exact hs
                          go_wp2
                          go_roundw
                          case rel =>
                            refine ⟨g + 1, hgl, by go_num, ?_, hbg4.trans (hbh.mono hbg4.size)⟩
                            show ∀ s ∈ t.1.2.2.2.2.take (g + 1), _
                            rw [List.take_succ_eq_append_getElem hgt, HOO.out]
                            intro s hs
                            rcases List.mem_append.1 hs with hs | hs
                            · exact HO.out s hs
                            · rw [List.mem_singleton.1 hs]; exact hall
                          case measure => simp [RowKit.intOf]; omega
                · have i3 : ¬ (g : Int) < (m : Int) := by omega
                  have HBT : Hid (V = bi) := by
                    show V = bi
                    have hs := HO.out
                    rw [List.take_of_length_le (by rw [HM.out]; omega)] at hs
                    rw [HV2.out, ← HBO.out, List.all_eq_true.2 hs]; rfl
                  obtain ⟨x10, _⟩ := hXr 10 _ rfl
                  clear HO HV2 HBO hX2 hb2 hbg
                  obtain ⟨w5, hw5⟩ : ∃ x, x = wr := ⟨_, rfl⟩
                  subst hw5
                  go_wp2
                  go_loopw [138] (fun ix wr => ∃ (g : Nat), g ≤ i ∧ ix = .int .i64 (g : Int) ∧ Hid (∀ x ∈ t.2.take g, stF d (n + 1) x = true) ∧ Below w5.heap.size w5 wr) (fun ix _ => i - (RowKit.intOf ix).toNat)
                  case atStart => exact ⟨0, Nat.zero_le _, rfl, (show Hid _ from fun o ho => by simp at ho), Below.refl _ _⟩
                  case round =>
                    clear x10
                    obtain ⟨f, hf, rfl, HS, hbf⟩ := hrel
                    have hb6 := hbr.trans (hbf.mono hbr.size)
                    obtain ⟨x10, _⟩ := (hXr.on hbf) 10 _ rfl
                    by_cases hfl : f < i
                    · have hft : f < t.2.length := by rw [HI.out]; exact hfl
                      have hkx := HK5.out _ (List.getElem_mem hft)
                      have hbad : Hid (stF d (n + 1) t.2[f] = false → V = false) := fun hq => by
                        show V = false
                        rw [HBT.out, ← HBI.out, List.all_eq_false.2 ⟨_, List.getElem_mem hft, by rw [hq]; decide⟩]
                      obtain ⟨bx, hbx⟩ : ∃ x, stF d (n + 1) t.2[f] = x := ⟨_, rfl⟩
                      obtain ⟨b0, oo, gn, gl, gc, ga, ge, gd, gu, gw, gr, q1, q2, q3, q4, q5, q6, rfl, O0, O1, O2, O3, O4, O5, O6, O7, O8, O9, O10, hc2⟩ := fd_call d IH HIN.out f hft hkx (hT.below hb6 (Nat.le_refl _)) hb6 (by omega) bx hbx
                      have HBX := mkHid hbx
                      clear hbx hkx
                      have i3 : (f : Int) < (i : Int) := by omega
                      have i4 : (0 : Int) ≤ (f : Int) := by omega
                      cases bx with
                      | false =>
                        have e : V = false := hbad.out HBX.out
                        subst e
                        go_wp2_with (first
                          | (go_at_call 48; refine hc2.mono ?_; rintro e w7 ⟨rfl, b7⟩)
                          | fail)
                        go_ret
                        exact ⟨rfl, hb6.trans (b7.mono hb6.size)⟩
                      | true =>
                        go_wp2_with (first
                          | (go_at_call 48; refine hc2.mono ?_; rintro e w7 ⟨rfl, b7⟩)
                          | fail)
                        go_roundw
                        case rel =>
                          refine ⟨f + 1, hfl, by go_num, ?_, hbf.trans (b7.mono hbf.size)⟩
                          show ∀ s ∈ t.2.take (f + 1), _
                          rw [List.take_succ_eq_append_getElem hft]
                          intro s hs
                          rcases List.mem_append.1 hs with hs | hs
                          · exact HS.out s hs
                          · rw [List.mem_singleton.1 hs]; exact HBX.out
                        case measure => simp [RowKit.intOf]; omega
                    · have i3 : ¬ (f : Int) < (i : Int) := by omega
                      have e : V = true := by
                        have hs := HS.out
                        rw [List.take_of_length_le (by rw [HI.out]; omega)] at hs
                        rw [HBT.out, ← HBI.out, List.all_eq_true]; exact hs
                      subst e
                      go_wp2
                      go_ret
                      exact ⟨rfl, hb6⟩
theorem fd_any : ∀ d, FdC d
  | 0 => fun _ _ t => Empty.elim t
  | d + 1 => fd_step d (fd_any d)

set_option maxRecDepth 100000 in
set_option maxHeartbeats 1000000 in
theorem dexprT_any {ok : Nat → Prop} {d : Nat} {t : T d} {z1 z2 : Int} {z3 : ByteArray} {z4 : Option Addr} {z5 z6 : Nat} {w : World} (hT : Tabs w) (hw : Pow w) (h : RdT ok w d t (.agg #[.int .i64 z1, .int .i64 z2, .string z3, .slice z4 z5 z6])) (hc : Cl d t) (hn : cnt d t ≤ 1000) (hsh : shrt 1000 d t = true) : Calls Tryz.prog 69 #[.agg #[.int .i64 z1, .int .i64 z2, .string z3, .slice z4 z5 z6]] w fun e w' => e = .returned (.string ⟨(prC d t).1.toArray⟩) ∧ Below w.heap.size w w' := by
  have hp := fun w1 (b : Below w.heap.size w w1) => printR (hT.below b (Nat.le_refl _)) (hw.below b) (RdT.below b (Nat.le_refl _) h) hc hn hsh
  obtain ⟨s, hs⟩ : ∃ x : ByteArray, x = ⟨(prC d t).1.toArray⟩ := ⟨_, rfl⟩
  obtain ⟨k, hk⟩ : ∃ x, x = (prC d t).2 := ⟨_, rfl⟩
  have hq : ∀ w1, Below w.heap.size w w1 → Calls Tryz.prog 113 #[.agg #[.int .i64 z1, .int .i64 z2, .string z3, .slice z4 z5 z6]] w1 fun e w' => e = .returned (.tuple #[.string s, .int .i64 k]) ∧ Below w1.heap.size w1 w' := fun w1 b => by rw [hs, hk]; exact hp w1 b
  rw [← hs]
  have hal : Below w.heap.size w (w.alloc (.cells #[.int .i64 z1, .int .i64 z2, .string z3, .slice z4 z5 z6] 104)) := (Below.refl w.heap.size w).alloc (Nat.le_refl _) _
  clear hs hk h hc hn hsh hp
  go_enter Tryz.func69, Tryz.ntmps69
  go_wp2_with (first
    | (go_at_call 113; refine (hq _ hal).mono ?_; rintro e w1 ⟨rfl, b1⟩)
    | fail)
  go_ret
  exact ⟨rfl, hal.trans (b1.mono hal.size)⟩
end Go.Proofs.YtifgbioacknjpaaGreatDoor
