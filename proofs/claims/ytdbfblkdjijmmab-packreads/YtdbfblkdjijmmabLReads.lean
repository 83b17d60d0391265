/- The walk of PackReads. -/
import Derived.Test.YtdbfblkdjijmmabRdI
import Derived.Test.YtdbfblkdjijmmabReadR
namespace Go.Proofs.Ytdbfblkdjijmmab
open Go.RowKit
set_option linter.unusedSimpArgs false
set_option linter.unusedVariables false

theorem rdN_length : ∀ (n : Nat) (bs : List Int) (l : List It) (r : List Int), rdN n bs = some (l, r) → l.length = n
  | 0, bs, l, r, h => by
    simp only [rdN, Option.some.injEq, Prod.mk.injEq] at h
    rw [← h.1]; rfl
  | n + 1, bs, l, r, h => by
    unfold rdN at h
    split at h
    · obtain ⟨⟨l', r'⟩, h1, h2⟩ := Option.map_eq_some_iff.1 h
      simp only [Prod.mk.injEq] at h2
      have := rdN_length n _ _ _ h1
      rw [← h2.1, List.length_cons, this]
    · cases h
theorem readS_length (bs : List Int) : ((readS bs).getD []).length ≤ 4000 := by
  unfold readS
  split
  · rename_i hg
    cases h : rdN (takeN bs).1.toNat (bs.drop (takeN bs).2.1.toNat) with
    | none => simp [whole]
    | some p =>
      obtain ⟨l, r⟩ := p
      have := rdN_length _ _ _ _ h
      cases r with
      | nil => simp [whole]; omega
      | cons x y => simp [whole]
  · simp
theorem readS_one : readS [1, 1, 1, 1, 5] = some [(false, 5, ⟨#[]⟩)] := by
  have e : (1, 2, 0) = takeN [1, 1, 1, 1, 5] := by decide
  have e1 : (5, 2, 0) = takeN [1, 5] := by decide
  rw [readS_good (n := 1) (k := 2) e (by omega)]
  have e2 := takeI_num e1
  show whole (rdN 1 [1, 1, 5]) = _
  unfold rdN
  rw [e2]
  rfl

set_option maxHeartbeats 1000000 in
theorem packReads_walk {w : World} (bv : Value) (bs : List Int) (hb : Rd w bv bs) (hy : ∀ x ∈ bs, 0 ≤ x ∧ x ≤ 255) (_hl : bs.length ≤ 140737488351232) :
    Calls Try.prog 3 #[bv] w fun e w' => e = .returned (.bool true) ∧ Below w.heap.size w w' := by
  obtain ⟨i0, hi, hz0, hz1, hz2⟩ := info_parts Try.infoR
  have hL := readS_length bs
  have h1 := read_any bv bs w hb hy
  have h2 : ∀ w1, Below w.heap.size w w1 → _ := fun w1 hb1 => refRead_any bv bs w1 (hb.below hb1 (Nat.le_refl _)) hy
  have hone : ∀ w' : World, Rd (w'.alloc (.cells #[.int .u8 1, .int .u8 1, .int .u8 1, .int .u8 1, .int .u8 5] 5)) (.slice (some ⟨w'.heap.size, 0, none⟩) 5 5) [1, 1, 1, 1, 5] := fun w' => rd_lit w' [1, 1, 1, 1, 5] (by simp [maxLen])
  have h3 := fun w' => read_any _ [1, 1, 1, 1, 5] _ (hone w') (by simp)
  rw [readS_one] at h3
  obtain ⟨L, hLe⟩ : ∃ L, L = (readS bs).getD [] := ⟨_, rfl⟩
  obtain ⟨er, her⟩ : ∃ er, er = rerr (readS bs) := ⟨_, rfl⟩
  rw [← hLe] at h1 h2 hL
  rw [← her] at h1 h2
  clear hLe her hone hy hb
  go_enter Try.func3, Try.ntmps3
  go_wp2_with (first
    | (go_at_call 5; refine (h3 w2).mono ?_; rintro e w3 ⟨v3, rfl, ho3, hb3⟩; have belx := ((Below.refl _ _).alloc (Nat.le_refl _) _).trans (hb3.mono (by simp)); have bel3 := bel2.trans (belx.mono bel2.size); have rv1c := rv1b.below belx (Nat.le_refl _); have rv2c := rv2.below belx (Nat.le_refl _); clear h3 rv1b rv2 belx hb3; obtain ⟨g, og, cg, hv3, _, _, hgl, hgc⟩ := ho3.rd.lies (by simp); subst hv3; have g5 := (hgc 0 (by simp)).2.1; clear hgc ho3)
    | (go_at_call 5; refine h1.mono ?_; rintro e w1 ⟨v1, rfl, ho1, bel1⟩; have rv1 := ho1.rd; clear ho1 h1)
    | (go_at_call 6; refine (h2 w1 bel1).mono ?_; rintro e w2 ⟨v2, rfl, ho2, hb2⟩; have rv2 := ho2.rd; have rv1b := rv1.below hb2 (Nat.le_refl _); have bel2 := bel1.trans (hb2.mono bel1.size); clear ho2 h2 rv1 bel1 hb2)
    | (go_at_call 8; refine (ours_any v1 L w3 rv1c (by omega) i0 hi hz0 hz1 hz2).mono ?_; rintro e w4 ⟨v4, rfl, ho4, hb4⟩; have rv4 := ho4.rd; have rv2d := rv2c.below hb4 (Nat.le_refl _); have bel4 := bel3.trans (hb4.mono bel3.size); have g5b := (hb4.cell (p := ⟨g, og + 0 * 3 + 1, none⟩) hgl).trans g5; have hgl4 := Nat.lt_of_lt_of_le hgl hb4.size; clear ho4 rv1c rv2c bel3 hb4 g5)
    | (go_at_call 7; refine (same_any v4 v2 L w4 rv4 rv2d (by omega)).mono ?_; rintro e w5 ⟨rfl, hb5⟩; have bel5 := bel4.trans (hb5.mono bel4.size); have g5c : w5.cell? ⟨g, og + 1, none⟩ = some (.int .i64 5) := (hb5.cell (p := ⟨g, og + 0 * 3 + 1, none⟩) hgl4).trans g5b; clear g5b hb5 bel4 rv4 rv2d))
  go_ret
  exact ⟨rfl, bel5⟩
end Go.Proofs.Ytdbfblkdjijmmab
