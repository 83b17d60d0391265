import Derived.Test.YtgpgbingmeehdaaXkc04

/- LinksKeep. -/
namespace Go.Proofs.Ytgpgbingmeehdaa
open Go.RowKit Go.Lib Go.Maps
set_option linter.unusedSimpArgs false
set_option linter.unusedVariables false
attribute [local go_sem ↓] Go.wp_at_zero Go.wp_at_succ

theorem own_atL {w : World} {base e : Nat} {v : Value} {xs : List Int} (h : Own w base e v xs) (hn : 0 < xs.length) : ∃ g cap, v = .slice (some ⟨g, 0, none⟩) xs.length cap ∧ xs.length ≤ cap ∧ base ≤ g ∧ g < w.heap.size ∧ (∀ i, i < xs.length → w.cell? ⟨g, i, none⟩ = some (.int .u8 (xs.getD i 0))) ∧ (∀ j, w.frozen? ⟨g, j, none⟩ = false) ∧
    ∀ i y, Own (w.setCell ⟨g, i, none⟩ (.int .u8 y)) base e v (xs.set i y) := by
  have hc := fun g => World.ownsRow.cells h (g := g)
  rcases id h.2 with ⟨_, h2⟩ | ⟨g, cap, cur, rfl, hb, hg, h3, h4, _⟩
  · omega
  · refine ⟨g, cap, rfl, h3, hb, (Array.getElem?_eq_some_iff.1 hg).1, fun i hi => ?_, fun j => World.ownsRow.frozenAt h j, fun i y => ?_⟩
    · have := hc g rfl i (.int .u8 (xs.getD i 0)) (by simp [hi])
      rwa [add_plain, Nat.zero_add] at this
    · obtain ⟨o1, _⟩ := World.ownsRow.stored h i (.int .u8 y)
      unfold Own
      rw [List.length_set, List.map_set]
      exact o1
/-- The links in block X, in memory that is the row ov's nowhere, nor at S or behind it; the row ov holds bs. -/
def KS (w0 : World) (X S : Nat) (ov : Value) (w : World) (L : LtL) (bs : List Int) : Prop :=
  ∃ F E v, PL w X F 3 E v ∧ E.map el = L ∧ (∀ j, F j → w0.heap.size ≤ j ∧ j < S ∧ ov.ownBlock ≠ some j) ∧ Own w w0.heap.size 5 ov bs ∧ (∀ g, ov.ownBlock = some g → g < S) ∧ S ≤ w.heap.size ∧ Below w0.heap.size w0 w
theorem KS.below {w0 w w' : World} {X S : Nat} {ov : Value} {L : LtL} {bs : List Int} (h : KS w0 X S ov w L bs) (hb : Below w.heap.size w w') : KS w0 X S ov w' L bs := by
  obtain ⟨F, E, v, h1, h2, h3, h4, h5, h6, h7⟩ := h
  exact ⟨F, E, v, h1.keep (fun b _ hlt => hb.block b hlt) (fun _ _ h => h) hb.size, h2, h3, ownD_keep h4 (fun g hg => hb.block g (ownsRow_lt h4 g hg).2), h5, Nat.le_trans h6 hb.size, h7.trans (hb.mono h7.size)⟩
theorem KS.up {w0 w : World} {X S T : Nat} {ov : Value} {L : LtL} {bs : List Int} (h : KS w0 X S ov w L bs) (hST : S ≤ T) (hT : T ≤ w.heap.size) : KS w0 X T ov w L bs := by
  obtain ⟨F, E, v, h1, h2, h3, h4, h5, h6, h7⟩ := h
  exact ⟨F, E, v, h1, h2, fun j hj => ⟨(h3 j hj).1, by have := (h3 j hj).2.1; omega, (h3 j hj).2.2⟩, h4, fun g hg => by have := h5 g hg; omega, hT, h7⟩
/-- A cell of another block is written. -/
theorem KS.other {w0 w : World} {X S g i : Nat} {ov : Value} {L : LtL} {bs : List Int} (h : KS w0 X S ov w L bs) (hg : S ≤ g) (hw : w0.heap.size ≤ g) (u : Value) : KS w0 X S ov (w.setCell ⟨g, i, none⟩ u) L bs := by
  obtain ⟨F, E, v, h1, h2, h3, h4, h5, h6, h7⟩ := h
  refine ⟨F, E, v, h1.keep (fun b hF _ => Below.heap_setCell _ _ _ _ (fun e => ?_)) (fun _ _ h => h) (by simp), h2, h3, ownD_keep h4 (fun b hb => Below.heap_setCell _ _ _ _ (fun e => ?_)), h5, by simpa using h6, h7.setCell hw _⟩
  · have := (h3 b hF).2.1
    have e' : b = g := e
    omega
  · have := h5 b hb
    have e' : b = g := e
    omega
/-- A byte of the row is turned. -/
theorem KS.turn {w0 w : World} {X S og n oc : Nat} {L : LtL} {bs : List Int} (h : KS w0 X S (.slice (some ⟨og, 0, none⟩) n oc) w L bs) (hn : bs.length = n) (h0 : 0 < n) (i : Nat) (y : Int) : KS w0 X S (.slice (some ⟨og, 0, none⟩) n oc) (w.setCell ⟨og, i, none⟩ (.int .u8 y)) L (bs.set i y) := by
  obtain ⟨F, E, v, h1, h2, h3, h4, h5, h6, h7⟩ := h
  subst hn
  obtain ⟨g, cap, e, _, hb, hl, _, _, hs⟩ := own_atL h4 h0
  simp only [Value.slice.injEq, Option.some.injEq, Addr.mk.injEq, and_true, true_and] at e
  obtain ⟨rfl, rfl⟩ := e
  refine ⟨F, E, v, h1.keep (fun b hF _ => Below.heap_setCell _ _ _ _ (fun e => ?_)) (fun _ _ h => h) (by simp), h2, h3, hs i y, h5, by simpa using h6, h7.setCell hb _⟩
  have e' : b = og := e
  subst e'
  exact (h3 b hF).2.2 rfl
theorem KS.send {w0 w : World} {X S : Nat} {ov : Value} {L L' : LtL} {bs : List Int} (h : KS w0 X S ov w L bs) {f t : Int} {u : Value} {b : List Int} (hu : Rd w u b) (hb : b.length ≤ 1000000) (he : sndL 3 L f t b = (0, L')) :
    Calls Try.prog 11 #[.pointer (some ⟨X, 0, none⟩), .int .i64 f, .int .i64 t, u] w fun e w' => e = .returned (.int .i64 0) ∧ KS w0 X w'.heap.size ov w' L' bs ∧ w.heap.size ≤ w'.heap.size := by
  obtain ⟨F, E, v, h1, h2, h3, h4, h5, h6, h7⟩ := h
  have hs := lSend_any ⟨E, v, h1, h2⟩ f t hu hb
  rw [he] at hs
  refine hs.mono ?_
  rintro e w1 ⟨rfl, ⟨E1, v1, p1, e1⟩, k1⟩
  have hFo : ∀ g, ov.ownBlock = some g → ¬ F g := fun g hg hF => (h3 g hF).2.2 hg
  refine ⟨rfl, ⟨fun j => nF F w j ∧ j < w1.heap.size, E1, v1, p1.keep (fun _ _ _ => rfl) (fun j hj hF => ⟨hF, hj⟩) (Nat.le_refl _), e1, fun j hj => ?_, ownD_keep h4 (fun g hg => k1.block g (ownsRow_lt h4 g hg).2 (hFo g hg)), fun g hg => Nat.lt_of_lt_of_le (Nat.lt_of_lt_of_le (h5 g hg) h6) k1.size, Nat.le_refl _, h7.trans (k1.below (fun j hj => (h3 j hj).1) h7.size)⟩, k1.size⟩
  obtain ⟨hj1 | hj1, hj2⟩ := hj
  · exact ⟨(h3 j hj1).1, hj2, (h3 j hj1).2.2⟩
  · exact ⟨Nat.le_trans h7.size hj1, hj2, fun e => by have := h5 j e; omega⟩
theorem KS.peek {w0 w : World} {X S : Nat} {ov : Value} {L : LtL} {bs : List Int} (h : KS w0 X S ov w L bs) (hl : L.length ≤ 1000) (hb : ∀ x ∈ L, x.2.2.length ≤ 1000000) {f t c : Int} {b : List Int} {i : Nat} (hf : fd f t c 0 0 L = some i) (hp : pkL f t c L = b) :
    Calls Try.prog 15 #[.pointer (some ⟨X, 0, none⟩), .int .i64 f, .int .i64 t, .int .i64 c] w fun e w' => ∃ u, e = .returned (.tuple #[u, .bool true]) ∧ Own w' w.heap.size 5 u b ∧ KS w0 X w.heap.size ov w' L bs := by
  have hK := h.up (T := w.heap.size) (by obtain ⟨F, E, v, h1, h2, h3, h4, h5, h6, h7⟩ := h; exact h6) (Nat.le_refl _)
  obtain ⟨F, E, v, h1, h2, h3, h4, h5, h6, h7⟩ := h
  have hs := lPeek_any ⟨E, v, h1, h2⟩ hl hb f t c
  rw [hf, hp] at hs
  refine hs.mono ?_
  rintro e w1 ⟨u, rfl, o1, b1⟩
  exact ⟨u, rfl, o1, hK.below b1⟩
theorem KS.rd {w0 w : World} {X S : Nat} {ov : Value} {L : LtL} {bs : List Int} (h : KS w0 X S ov w L bs) : Rd w ov bs := by
  obtain ⟨F, E, v, h1, h2, h3, h4, h5, h6, h7⟩ := h
  exact h4.rd
theorem KS.bel {w0 w : World} {X S : Nat} {ov : Value} {L : LtL} {bs : List Int} (h : KS w0 X S ov w L bs) : Below w0.heap.size w0 w := by
  obtain ⟨F, E, v, h1, h2, h3, h4, h5, h6, h7⟩ := h
  exact h7
theorem KS.cell {w0 w : World} {X S og n oc : Nat} {L : LtL} {bs : List Int} (h : KS w0 X S (.slice (some ⟨og, 0, none⟩) n oc) w L bs) (hn : bs.length = n) {K : Nat} (hK : K < n) {q : Int} (hq : bs.getD K 0 = q) : w.cell? ⟨og, K, none⟩ = some (.int .u8 q) ∧ w.frozen? ⟨og, K, none⟩ = false := by
  obtain ⟨F, E, v, h1, h2, h3, h4, h5, h6, h7⟩ := h
  subst hn
  obtain ⟨g, cap, e, _, hb, hl, hc, hf, hs⟩ := own_atL h4 (by omega)
  simp only [Value.slice.injEq, Option.some.injEq, Addr.mk.injEq, and_true, true_and] at e
  obtain ⟨rfl, rfl⟩ := e
  rw [← hq]
  exact ⟨hc K hK, hf K⟩
/-- As KS, and a letter that was taken. -/
def KY (w0 : World) (X S : Nat) (ov : Value) (w : World) (L : LtL) (bs : List Int) (u : Value) (b : List Int) : Prop :=
  ∃ F E v, PL w X F 3 E v ∧ E.map el = L ∧ (∀ j, F j → w0.heap.size ≤ j ∧ j < S ∧ ov.ownBlock ≠ some j) ∧ Own w w0.heap.size 5 ov bs ∧ (∀ g, ov.ownBlock = some g → g < S) ∧ S ≤ w.heap.size ∧ Below w0.heap.size w0 w ∧ RB w (fun g => F g ∧ g ≠ X ∧ v.ownBlock ≠ some g) u b
theorem KS.take {w0 w : World} {X S : Nat} {ov : Value} {L : LtL} {bs : List Int} (h : KS w0 X S ov w L bs) (hl : L.length ≤ 1000) {f t c : Int} {b : List Int} {i : Nat} (hf : fd f t c 0 0 L = some i) (hp : pkL f t c L = b) :
    Calls Try.prog 13 #[.pointer (some ⟨X, 0, none⟩), .int .i64 f, .int .i64 t, .int .i64 c] w fun e w' => ∃ u, e = .returned (.tuple #[u, .bool true]) ∧ KY w0 X S ov w' (tkL f t c L) bs u b := by
  obtain ⟨F, E, v, h1, rfl, h3, h4, h5, h6, h7⟩ := h
  obtain ⟨x, hx, _, _, hi, hpk, htk⟩ := fd_hit hf
  rw [hp] at hpk
  refine (lTake_hit h1 (by simpa using hl) hf hx).mono ?_
  rintro e w1 ⟨u, rfl, r1, ⟨v1, hv1, p1⟩, k1⟩
  have hk2 : Kf F w w1 := k1.mono (fun j hj => by
    rcases hj with rfl | hj
    · exact h1.x
    · exact (h1.oo j hj).1)
  rw [← hpk] at r1
  exact ⟨u, rfl, F, _, v1, p1, htk.symm, h3, ownD_keep h4 (fun g hg => hk2.block g (ownsRow_lt h4 g hg).2 (fun hF => (h3 g hF).2.2 hg)), h5, Nat.le_trans h6 k1.size, h7.trans (hk2.below (fun j hj => (h3 j hj).1) h7.size), by rw [hv1]; exact r1⟩
theorem KY.take {w0 w : World} {X S : Nat} {ov u0 : Value} {L : LtL} {bs b0 : List Int} (h : KY w0 X S ov w L bs u0 b0) (hl : L.length ≤ 1000) {f t c : Int} {b : List Int} {i : Nat} (hf : fd f t c 0 0 L = some i) (hp : pkL f t c L = b) :
    Calls Try.prog 13 #[.pointer (some ⟨X, 0, none⟩), .int .i64 f, .int .i64 t, .int .i64 c] w fun e w' => ∃ u, e = .returned (.tuple #[u, .bool true]) ∧ Rd w' u0 b0 ∧ Rd w' u b ∧ Rd w' ov bs ∧ (∃ F, PLM w' X F 3 (tkL f t c L)) ∧ Below w0.heap.size w0 w' := by
  obtain ⟨F, E, v, h1, rfl, h3, h4, h5, h6, h7, h8⟩ := h
  obtain ⟨x, hx, _, _, hi, hpk, htk⟩ := fd_hit hf
  rw [hp] at hpk
  refine (lTake_hit h1 (by simpa using hl) hf hx).mono ?_
  rintro e w1 ⟨u, rfl, r1, ⟨v1, hv1, p1⟩, k1⟩
  have hk2 : Kf F w w1 := k1.mono (fun j hj => by
    rcases hj with rfl | hj
    · exact h1.x
    · exact (h1.oo j hj).1)
  rw [← hpk] at r1
  have h9 : RB w1 (fun g => F g ∧ g ≠ X ∧ v.ownBlock ≠ some g) u0 b0 := h8.keep (fun g hg hlt => ⟨hg, k1.block g hlt (fun e => by
    rcases e with e | e
    · exact hg.2.1 e
    · exact hg.2.2 e)⟩) k1.size
  have h10 : Own w1 w0.heap.size 5 ov bs := ownD_keep h4 (fun g hg => hk2.block g (ownsRow_lt h4 g hg).2 (fun hF => (h3 g hF).2.2 hg))
  exact ⟨u, rfl, h9.r, r1.r, h10.rd, ⟨F, _, v1, p1, htk.symm⟩, h7.trans (hk2.below (fun j hj => (h3 j hj).1) h7.size)⟩
set_option maxRecDepth 100000 in
set_option maxHeartbeats 4000000 in
theorem linksKeep_main {w : World} {v : Value} {bs : List Int} (hr : Rd w v bs) (hb : ∀ x ∈ bs, 0 ≤ x ∧ x ≤ 255) (h0 : 0 < bs.length) (h1 : bs.length ≤ 1000) (c : Int) (hc : (Lit.int .u64 c).wf = true) :
    Calls Try.prog 4 #[v, .int .u64 c] w fun e w' => e = .returned (.bool true) ∧ Below w.heap.size w w' := by
  obtain ⟨ba, bc, rfl, _⟩ := id hr
  have ha := lAwake_any w
  have hN := fun wz => lNew_any wz 3
  obtain ⟨i0, hi, hz0, hz1, hz2⟩ := inf_getL Try.info5
  have HR := hideL hr
  obtain ⟨K, hK, hKn⟩ : ∃ K : Nat, wrap64 (c.tmod (bs.length : Int)) = (K : Int) ∧ K < bs.length := by
    have hc0 : 0 ≤ c := by
      have : 0 ≤ c ∧ c ≤ 18446744073709551615 := by simpa [Lit.wf, IntKind.min, IntKind.max, IntKind.signed, IntKind.bits] using hc
      exact this.1
    have e1 : c.tmod (bs.length : Int) = c % (bs.length : Int) := Int.tmod_eq_emod_of_nonneg hc0
    have e2 := Int.emod_nonneg c (show (bs.length : Int) ≠ 0 by omega)
    have e3 := Int.emod_lt_of_pos c (show (0 : Int) < (bs.length : Int) by omega)
    refine ⟨(c % (bs.length : Int)).toNat, ?_, by omega⟩
    rw [e1]
    unfold wrap64
    omega
  obtain ⟨n, hn⟩ : ∃ n, bs.length = n := ⟨_, rfl⟩
  have HN := hideL hn
  rw [hn] at h0 h1 hK hKn ⊢
  have k1 : ((n : Int) == 0) = false := by simp; omega
  have k2 : ¬ (1000 : Int) < (n : Int) := by omega
  clear hr hn
  go_enter Try.func4, Try.ntmps4
  go_wp2_with (first
    | (go_at_call 7; refine ha.mono ?_; rintro e w1 ⟨rfl, b1⟩; have HB1 := hideL b1; clear ha b1)
    | (go_at_call 9; refine (hN _).mono ?_; rintro e w2 ⟨rfl, p2, b2⟩; have HP2 := hideL (And.intro p2 b2); have hs := hideL (rd_src (rd_onL (rd_onL HR.out HB1.out) b2) HN.out (.cells #[] 5)); rw [HN.out] at hs; clear p2 b2)
    | (at_builtin; refine wpList_append_at _ rfl (.tmp 28) (.tmp 29) 29 29 rfl w2.heap.size 5 i0 (.int .u8 0) 1 1 Try.underlying29 hi hz0 hz1 hz2 rfl _ 0 [] rfl (own_nil w2) _ n _ rfl hs.out n (.inr (by omega)) (Nat.le_refl _) (by unfold maxLen; omega) (by simp) ?_)
    | fail)
  intro v3 w3 hO3 hg3 _
  have o3 : Own w3 w2.heap.size 5 v3 bs := by unfold Own; rw [HN.out]; exact hO3
  have b3 := bel_first hg3
  obtain ⟨og, oc, hv3, hoc, hgB, hgl, hcell, hfz, hset⟩ := own_atL o3 (by rw [HN.out]; exact h0)
  rw [HN.out] at hv3
  subst hv3
  have HO3 := hideL (And.intro o3 (And.intro b3 (And.intro hgB (And.intro hgl (And.intro hcell (And.intro hfz hset))))))
  clear hO3 hg3 o3 b3 hgB hgl hcell hfz hset hoc
  obtain ⟨q, hq⟩ : ∃ q, bs.getD K 0 = q := ⟨_, rfl⟩
  have k3 : (0 : Int) ≤ (K : Int) := by omega
  have k4 : (K : Int) < (n : Int) := by omega
  have hXl : w1.heap.size < w2.heap.size := HP2.out.1.lt
  have hK3 : KS w1 w1.heap.size w3.heap.size (.slice (some ⟨og, 0, none⟩) n oc) w3 [] bs := by
    obtain ⟨r1, r2, r3, r4, r5, r6, r7⟩ := HO3.out
    obtain ⟨E, v, p, e⟩ := HP2.out.1.on r2
    refine ⟨_, E, v, p, e, fun j hj => ?_, own_lowL r1 (by omega), fun g hg => (ownsRow_lt r1 g hg).2, Nat.le_refl _, HP2.out.2.trans (r2.mono (by omega))⟩
    have hj' : j = w1.heap.size := hj
    subst hj'
    refine ⟨Nat.le_refl _, by have := r2.size; omega, fun e => ?_⟩
    have e' : og = w1.heap.size := Option.some.inj e
    omega
  have hS1 := hK3.send (f := 0) (t := 1) (L' := [(0, 1, bs)]) HO3.out.1.rd (by rw [HN.out]; omega) (by
    unfold sndL addL
    rw [if_pos (by unfold Pty; omega), if_neg (by simp)]
    rfl)
  have hq2 : ∃ q2, (q + 1) % 256 = q2 := ⟨_, rfl⟩
  have hR3 : ∀ W, Below w1.heap.size w1 W → Rd W (.slice ba n bc) bs := fun W hb => by
    have := rd_onL HR.out (HB1.out.trans (hb.mono HB1.out.size))
    rwa [HN.out] at this
  have hA4 : ∀ w4, KS w1 w1.heap.size w4.heap.size (.slice (some ⟨og, 0, none⟩) n oc) w4 [(0, 1, bs)] bs → Calls Try.prog 11 #[.pointer (some ⟨w1.heap.size, 0, none⟩), .int .i64 1, .int .i64 0, .slice (some ⟨og, 0, none⟩) n oc] (w4.setCell ⟨og, K, none⟩ (.int .u8 ((q + 1) % 256))) fun e w' => e = .returned (.int .i64 0) ∧ KS w1 w1.heap.size w'.heap.size (.slice (some ⟨og, 0, none⟩) n oc) w' [(0, 1, bs), (1, 0, bs.set K ((q + 1) % 256))] (bs.set K ((q + 1) % 256)) ∧ (w4.setCell ⟨og, K, none⟩ (.int .u8 ((q + 1) % 256))).heap.size ≤ w'.heap.size := fun w4 s4 => by
    have s5 := s4.turn HN.out h0 K ((q + 1) % 256)
    refine s5.send s5.rd (by rw [List.length_set, HN.out]; omega) ?_
    unfold sndL addL
    rw [if_pos (by unfold Pty; omega), if_neg (by simp)]
    rfl
  have HA4 := hideL hA4
  generalize hbs2 : bs.set K ((q + 1) % 256) = bs2 at hA4
  have hl2 : bs2.length = n := by rw [← hbs2, List.length_set, HN.out]
  have hA6 : ∀ w6, KS w1 w1.heap.size w6.heap.size (.slice (some ⟨og, 0, none⟩) n oc) w6 [(0, 1, bs), (1, 0, bs2)] bs2 → Calls Try.prog 11 #[.pointer (some ⟨w1.heap.size, 0, none⟩), .int .i64 0, .int .i64 2, .slice ba n bc] w6 fun e w' => e = .returned (.int .i64 0) ∧ KS w1 w1.heap.size w'.heap.size (.slice (some ⟨og, 0, none⟩) n oc) w' [(0, 1, bs), (1, 0, bs2), (0, 2, bs)] bs2 ∧ w6.heap.size ≤ w'.heap.size := fun w6 s6 => by
    refine s6.send (hR3 w6 s6.bel) (by rw [HN.out]; omega) ?_
    unfold sndL addL
    rw [if_pos (by unfold Pty; omega), if_neg (by simp)]
    rfl
  have hlb : ∀ x ∈ [((0 : Int), (1 : Int), bs), (1, 0, bs2), (0, 2, bs)], x.2.2.length ≤ 1000000 := fun x hx => by
    have e := HN.out
    simp only [List.mem_cons, List.not_mem_nil, or_false] at hx
    rcases hx with rfl | rfl | rfl
    · show bs.length ≤ 1000000
      omega
    · show bs2.length ≤ 1000000
      omega
    · show bs.length ≤ 1000000
      omega
  have hA7 : ∀ w7, KS w1 w1.heap.size w7.heap.size (.slice (some ⟨og, 0, none⟩) n oc) w7 [(0, 1, bs), (1, 0, bs2), (0, 2, bs)] bs2 → Calls Try.prog 15 #[.pointer (some ⟨w1.heap.size, 0, none⟩), .int .i64 0, .int .i64 1, .int .i64 0] w7 fun e w' => ∃ xg xc, e = .returned (.tuple #[.slice (some ⟨xg, 0, none⟩) n xc, .bool true]) ∧ w'.cell? ⟨xg, K, none⟩ = some (.int .u8 q) ∧ w'.frozen? ⟨xg, K, none⟩ = false ∧ KS w1 w1.heap.size w7.heap.size (.slice (some ⟨og, 0, none⟩) n oc) (w'.setCell ⟨xg, K, none⟩ (.int .u8 ((q + 1) % 256))) [(0, 1, bs), (1, 0, bs2), (0, 2, bs)] bs2 := fun w7 s7 => by
    refine (s7.peek (f := 0) (t := 1) (c := 0) (b := bs) (i := 0) (by simp) hlb (by simp [fd]) (by simp [pkL, fd])).mono ?_
    rintro e w8 ⟨u, rfl, o8, s8⟩
    obtain ⟨xg, xc, hu, _, hbx, hlx, hcx, hfx, _⟩ := own_atL o8 (by rw [HN.out]; exact h0)
    rw [HN.out] at hu
    subst hu
    have := hcx K (by rw [HN.out]; exact hKn)
    rw [hq] at this
    exact ⟨xg, xc, rfl, this, hfx K, s8.other hbx (Nat.le_trans s7.bel.size hbx) _⟩
  have hA9 : ∀ S w9, KS w1 w1.heap.size S (.slice (some ⟨og, 0, none⟩) n oc) w9 [(0, 1, bs), (1, 0, bs2), (0, 2, bs)] bs2 → Calls Try.prog 13 #[.pointer (some ⟨w1.heap.size, 0, none⟩), .int .i64 0, .int .i64 1, .int .i64 0] w9 fun e w' => ∃ u, e = .returned (.tuple #[u, .bool true]) ∧ KY w1 w1.heap.size S (.slice (some ⟨og, 0, none⟩) n oc) w' [(1, 0, bs2), (0, 2, bs)] bs2 u bs := fun S w9 s9 => by
    have := s9.take (f := 0) (t := 1) (c := 0) (b := bs) (i := 0) (by simp) (by simp [fd]) (by simp [pkL, fd])
    have e : tkL 0 1 0 [((0 : Int), (1 : Int), bs), (1, 0, bs2), (0, 2, bs)] = [(1, 0, bs2), (0, 2, bs)] := by simp [tkL, fd]
    rw [e] at this
    exact this
  have hA10 : ∀ S w10 y, KY w1 w1.heap.size S (.slice (some ⟨og, 0, none⟩) n oc) w10 [(1, 0, bs2), (0, 2, bs)] bs2 y bs → Calls Try.prog 13 #[.pointer (some ⟨w1.heap.size, 0, none⟩), .int .i64 1, .int .i64 0, .int .i64 0] w10 fun e w' => ∃ u, e = .returned (.tuple #[u, .bool true]) ∧ Rd w' y bs ∧ Rd w' u bs2 ∧ Rd w' (.slice (some ⟨og, 0, none⟩) n oc) bs2 ∧ (∃ F, PLM w' w1.heap.size F 3 [(0, 2, bs)]) ∧ Below w1.heap.size w1 w' := fun S w10 y s10 => by
    have := s10.take (f := 1) (t := 0) (c := 0) (b := bs2) (i := 0) (by simp) (by simp [fd]) (by simp [pkL, fd])
    have e : tkL 1 0 0 [((1 : Int), (0 : Int), bs2), (0, 2, bs)] = [(0, 2, bs)] := by simp [tkL, fd]
    rw [e] at this
    exact this
  have hC4 : ∀ w4, KS w1 w1.heap.size w4.heap.size (.slice (some ⟨og, 0, none⟩) n oc) w4 [(0, 1, bs)] bs → w4.cell? ⟨og, K, none⟩ = some (.int .u8 q) ∧ w4.frozen? ⟨og, K, none⟩ = false := fun w4 s4 => s4.cell HN.out hKn hq
  have HC := hideL (And.intro hC4 (And.intro hA4 (And.intro hA6 (And.intro hA7 (And.intro hA9 (And.intro hA10 hR3))))))
  clear hC4 hA4 hA6 hA7 hA9 hA10 hR3 HA4 hlb hK3
  go_wp2_with (first
    | (go_at_call 11; refine hS1.mono ?_; rintro e w4 ⟨rfl, s4, z4⟩; obtain ⟨d4, g4⟩ := HC.out.1 w4 s4; have hS2 := HC.out.2.1 w4 s4; clear hS1 s4 z4)
    | (go_at_call 11; refine hS2.mono ?_; rintro e w6 ⟨rfl, s6, z6⟩; have hS3 := HC.out.2.2.1 w6 s6; clear hS2 s6 z6 d4 g4)
    | (go_at_call 11; refine hS3.mono ?_; rintro e w7 ⟨rfl, s7, z7⟩; have hPk := HC.out.2.2.2.1 w7 s7; clear hS3 s7 z7)
    | (go_at_call 15; refine hPk.mono ?_; rintro e w8 ⟨xg, xc, rfl, d8, g8, s9⟩; have hT1 := HC.out.2.2.2.2.1 _ _ s9; clear hPk s9)
    | (go_at_call 13; refine hT1.mono ?_; rintro e w10 ⟨y, rfl, s10⟩; have hT2 := HC.out.2.2.2.2.2.1 _ _ _ s10; clear hT1 s10 d8 g8)
    | (go_at_call 13; refine hT2.mono ?_; rintro e w11 ⟨z, rfl, ry, rz, ro, ⟨F, p11⟩, b11⟩; have rv := HC.out.2.2.2.2.2.2 w11 b11; have c1 := rd_conv ry; have c2 := rd_conv rz; have c3 := rd_conv ro; have c4 := rd_conv rv; have hN1 := lCount_any p11 (by simp) 0 1; have HP11 := hideL (And.intro p11 b11); clear hT2 ry rz ro rv p11 b11)
    | (go_at_call 23; refine hN1.mono ?_; rintro e w12 ⟨rfl, b12⟩; have hN2 := lCount_any (HP11.out.1.on b12) (by simp) 0 2; have HB12 := hideL b12; clear hN1 b12 c1 c2 c3 c4)
    | (go_at_call 23; refine hN2.mono ?_; rintro e w13 ⟨rfl, b13⟩; have hN3 := lTotal_any ((HP11.out.1.on HB12.out).on b13); have HB13 := hideL b13; clear hN2 b13)
    | (go_at_call 21; refine hN3.mono ?_; rintro e w14 ⟨rfl, rfl⟩; clear hN3)
    | fail)
  obtain ⟨_, b11⟩ := HP11.out
  have b14 := b11.trans (((HB12.out.trans (HB13.out.mono HB12.out.size))).mono b11.size)
  go_ret
  exact ⟨rfl, HB1.out.trans (b14.mono HB1.out.size)⟩
set_option maxHeartbeats 1000000 in
theorem linksKeep_off {w : World} {v : Value} {bs : List Int} (hr : Rd w v bs) (h0 : bs.length = 0 ∨ 1000 < bs.length) (hs : bs.length ≤ 140737488351232) (c : Int) :
    Calls Try.prog 4 #[v, .int .u64 c] w fun e w' => e = .returned (.bool true) ∧ Below w.heap.size w w' := by
  obtain ⟨ba, bc, rfl, _⟩ := id hr
  have ha := lAwake_any w
  obtain ⟨n, hn⟩ : ∃ n, bs.length = n := ⟨_, rfl⟩
  rw [hn] at h0 hs ⊢
  clear hr hn
  by_cases hz : n = 0
  · subst hz
    go_enter Try.func4, Try.ntmps4
    go_wp2_with (first
      | (go_at_call 7; refine ha.mono ?_; rintro e w1 ⟨rfl, b1⟩; have ha2 := lAwake_any w1; have HB1 := hideL b1; clear ha b1)
      | (go_at_call 7; refine ha2.mono ?_; rintro e w2 ⟨rfl, b2⟩; have HB2 := hideL b2; clear ha2 b2)
      | fail)
    go_ret
    exact ⟨rfl, HB1.out.trans (HB2.out.mono HB1.out.size)⟩
  · have k1 : ((n : Int) == 0) = false := by simp; omega
    have k2 : (1000 : Int) < (n : Int) := by omega
    clear h0 hz
    go_enter Try.func4, Try.ntmps4
    go_wp2_with (first
      | (go_at_call 7; refine ha.mono ?_; rintro e w1 ⟨rfl, b1⟩; have ha2 := lAwake_any w1; have HB1 := hideL b1; clear ha b1)
      | (go_at_call 7; refine ha2.mono ?_; rintro e w2 ⟨rfl, b2⟩; have HB2 := hideL b2; clear ha2 b2)
      | fail)
    go_ret
    exact ⟨rfl, HB1.out.trans (HB2.out.mono HB1.out.size)⟩
theorem linksKeep_walk {w : World} (v : Value) (bs : List Int) (hr : Rd w v bs) (hb : ∀ x ∈ bs, 0 ≤ x ∧ x ≤ 255) (hs : bs.length ≤ 140737488351232) (c : Int) (hc : (Lit.int .u64 c).wf = true) :
    Calls Try.prog 4 #[v, .int .u64 c] w fun e w' => e = .returned (.bool true) ∧ Below w.heap.size w w' := by
  by_cases h : bs.length = 0 ∨ 1000 < bs.length
  · exact linksKeep_off hr h hs c
  · exact linksKeep_main hr hb (by omega) (by omega) c hc
end Go.Proofs.Ytgpgbingmeehdaa
