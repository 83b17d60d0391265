/- The walk of SealBack. -/
import Derived.Test.YtlkhakcphdemjaaBackM
namespace Go.Proofs.Ytlkhakcphdemjaa
open Go.RowKit
set_option linter.unusedSimpArgs false
set_option linter.unusedVariables false

theorem xor_byte {x y : Int} (hx : 0 ≤ x ∧ x ≤ 255) (hy : 0 ≤ y ∧ y ≤ 255) : (0 ≤ bits .xor .u8 x y ∧ bits .xor .u8 x y ≤ 255) ∧ (bits .xor .u8 x y = x ↔ y = 0) := by
  obtain ⟨m, rfl, hm⟩ := byte_nat hx
  obtain ⟨n, rfl, hn⟩ := byte_nat hy
  rw [u8_xor_nat m n hm hn]
  have h := Nat.xor_lt_two_pow (n := 8) (x := m) (y := n) (by omega) (by omega)
  refine ⟨by omega, fun e => ?_, fun e => ?_⟩
  · have e2 : n ^^^ m = 0 ^^^ m := by rw [Nat.xor_comm n m, Nat.zero_xor]; omega
    have := xor_cancel e2
    omega
  · have : n = 0 := by omega
    subst this
    simp

theorem getD_set_same {xs : List Int} {j : Nat} (h : j < xs.length) : xs.set j (xs.getD j 0) = xs := by
  have e : xs.getD j 0 = xs[j] := by simp [List.getD, h]
  rw [e, List.set_getElem_self]

theorem seal_err (v : Value) (ps : List Int) (w : World) (hr : Rd w v ps) {er : Int} (h : sealS ps = ([], er)) :
    Calls Try.prog 9 #[v] w fun e w' => ∃ a1 c1, e = .returned (.tuple #[.slice a1 0 c1, .int .i64 er]) ∧ Below w.heap.size w w' := by
  have h9 := seal_any v ps w hr
  rw [h] at h9
  refine h9.mono ?_
  rintro e w' ⟨u, rfl, o, b⟩
  obtain ⟨a1, c1, rfl, _⟩ := o.rd
  exact ⟨a1, c1, rfl, b⟩

theorem seal_rcd (v : Value) (ps : List Int) (w : World) (hr : Rd w v ps) {L : Nat} (hL : (rcd ps).length = L) (h0 : 0 < L) (h : sealS ps = (rcd ps, 0)) :
    Calls Try.prog 9 #[v] w fun e w' => ∃ g cap, e = .returned (.tuple #[.slice (some ⟨g, 0, none⟩) L cap, .int .i64 0]) ∧ Rd w' (.slice (some ⟨g, 0, none⟩) L cap) (rcd ps) ∧ Below w.heap.size w w' := by
  have h9 := seal_any v ps w hr
  rw [h] at h9
  refine h9.mono ?_
  rintro e w' ⟨u, rfl, o, b⟩
  have ro := o.rd
  rcases o.2 with ⟨_, hn⟩ | ⟨g, cap, _, rfl, _⟩
  · simp only at hn; omega
  · simp only [hL] at ro ⊢
    exact ⟨g, cap, rfl, ro, b⟩

theorem own_len {w : World} {base L : Nat} {v : Value} {xs : List Int} (hL : xs.length = L) (h : w.ownsRow base 5 1 v L (xs.map (Value.int .u8))) : Own w base 5 v xs := by
  subst hL; exact h
theorem own_row {w : World} {base L : Nat} {v : Value} {xs : List Int} (hL : xs.length = L) (h : Own w base 5 v xs) : w.ownsRow base 5 1 v L (xs.map (Value.int .u8)) := by
  subst hL; exact h
theorem own_form {w : World} {base L : Nat} {v : Value} {xs : List Int} (h : Own w base 5 v xs) (hL : xs.length = L) (h0 : 0 < L) : ∃ g cap, v = .slice (some ⟨g, 0, none⟩) L cap := by
  subst hL
  rcases h.2 with ⟨_, hn⟩ | ⟨g, cap, _, rfl, _⟩
  · omega
  · exact ⟨g, cap, rfl⟩

set_option maxHeartbeats 2000000 in
theorem sealBack_walk {w : World} (pv : Value) (ps : List Int) (hb : Rd w pv ps) (hy : ∀ x ∈ ps, 0 ≤ x ∧ x ≤ 255) (_hl : ps.length ≤ 140737488351232) (bv : Value) (bs : List Int) (hbb : Rd w bv bs) (hyb : ∀ x ∈ bs, 0 ≤ x ∧ x ≤ 255) (hlb : bs.length ≤ 140737488351232)
    (c : Int) (hc : (Lit.int .u64 c).wf = true) (y : Int) (hwy : (Lit.int .u8 y).wf = true) :
    Calls Try.prog 6 #[pv, bv, .int .u64 c, .int .u8 y] w fun e w' => e = .returned (.bool true) ∧ Below w.heap.size w w' := by
  obtain ⟨i0, hi, hz0, hz1, hz2⟩ := info_parts Try.info5
  have hc' : 0 ≤ c ∧ c ≤ 18446744073709551615 := by simpa [Lit.wf, IntKind.min, IntKind.max, IntKind.signed, IntKind.bits] using hc
  have hy' : 0 ≤ y ∧ y ≤ 255 := by simpa [Lit.wf, IntKind.min, IntKind.max, IntKind.signed, IntKind.bits] using hwy
  clear hc hwy
  by_cases h0 : ps.length = 0
  · have h9 := seal_err pv ps w hb (sealS_arg h0)
    obtain ⟨a, pcap, rfl, _, _, _, _⟩ := hb
    have h0' : ((ps.length : Int) == 0) = true := by simp [h0]
    clear h0
    go_enter Try.func6, Try.ntmps6
    go_wp2_with (first
      | (go_at_call 9; refine h9.mono ?_; rintro e w1 ⟨a1, c1, rfl, b1⟩))
    go_ret
    exact ⟨rfl, b1⟩
  by_cases h1 : 14000 < ps.length
  · have h9 := seal_err pv ps w hb (sealS_long h1)
    obtain ⟨a, pcap, rfl, _, _, _, _⟩ := hb
    have h0' : ((ps.length : Int) == 0) = false := beq_eq_false_iff_ne.2 (by omega)
    have h1' : (ps.length : Int) > 14000 := by omega
    go_enter Try.func6, Try.ntmps6
    go_wp2_with (first
      | (go_at_call 9; refine h9.mono ?_; rintro e w1 ⟨a1, c1, rfl, b1⟩))
    go_ret
    exact ⟨rfl, b1⟩
  obtain ⟨L, hL⟩ : ∃ L, (rcd ps).length = L := ⟨_, rfl⟩
  have hL' := rcd_length ps
  have hL7 : 7 ≤ L := by omega
  have hLm : L ≤ 14006 := by omega
  have hLp : (ps.length : Int) + 6 = (L : Int) := by omega
  have h9 := seal_rcd pv ps w hb hL (by omega) (sealS_ok h0 h1)
  have HO1 : Hid (openS (rcd ps ++ bs) = (ps, (L : Int), 0)) := by rw [← hLp]; exact open_back bs hy h0 (by omega)
  obtain ⟨j, ej⟩ : ∃ j : Nat, c % (L : Int) = (j : Int) := ⟨(c % (L : Int)).toNat, by rw [Int.toNat_of_nonneg (Int.emod_nonneg _ (by omega))]⟩
  have hj : j < L := by have := Int.emod_lt_of_pos c (show (0 : Int) < L by omega); omega
  have HO2 : Hid (openS ((rcd ps).take j) = ([], 0, 5)) := open_cut hy h0 (by omega) (by omega)
  obtain ⟨x, hx⟩ : ∃ x, x = (rcd ps).getD j 0 := ⟨_, rfl⟩
  have hxb : 0 ≤ x ∧ x ≤ 255 := by rw [hx]; exact getD_bytes (rcd_bytes hy) j
  obtain ⟨hz, hzx⟩ := xor_byte hxb hy'
  obtain ⟨z, hzz⟩ : ∃ z, bits .xor .u8 x y = z := ⟨_, rfl⟩
  rw [hzz] at hz hzx
  obtain ⟨⟨q3, n3, e3⟩, hx3⟩ : ∃ t, t = openS ((rcd ps).set j z ++ bs) := ⟨_, rfl⟩
  have hbo : (y == 0) = (e3 == 0) := by
    by_cases hy0 : y = 0
    · have e : z = x := hzx.2 hy0
      rw [e, hx, getD_set_same (by omega), HO1.out] at hx3
      simp only [Prod.mk.injEq] at hx3
      rw [hy0, hx3.2.2]
    · have : e3 ≠ 0 := fun e => hy0 (hzx.1 (by rw [hx]; exact open_turned bs hy h0 (by omega) (by omega) hz (by rw [← hx3]; exact e)))
      rw [beq_eq_false_iff_ne.2 hy0, beq_eq_false_iff_ne.2 this]
  obtain ⟨bo, hbo2⟩ : ∃ b, (e3 == 0) = b := ⟨_, rfl⟩
  rw [hbo2] at hbo
  have HX3 : Hid (openS ((rcd ps).set j z ++ bs) = (q3, n3, e3)) := hx3.symm
  have HX : Hid ((rcd ps).getD j 0 = x) := hx.symm
  have HL : Hid ((rcd ps).length = L) := hL
  have HB1 : Hid (∀ x ∈ rcd ps ++ bs, 0 ≤ x ∧ x ≤ 255) := app_bytes (rcd_bytes hy) hyb
  have HB2 : Hid (∀ x ∈ (rcd ps).take j, 0 ≤ x ∧ x ≤ 255) := take_bytes (rcd_bytes hy) j
  have HB3 : Hid (∀ x ∈ (rcd ps).set j z ++ bs, 0 ≤ x ∧ x ≤ 255) := app_bytes (set_bytes (rcd_bytes hy) hz j) hyb
  have HSL : Hid (((rcd ps).set j z).length = L) := by show ((rcd ps).set j z).length = L; rw [List.length_set, hL]
  have hL0 : ((L : Int) == 0) = false := beq_eq_false_iff_ne.2 (by omega)
  have hj' : (j : Int) < (L : Int) := by omega
  clear hx hx3 hL hL' hLp hy hyb hzx
  go_enter Try.func6, Try.ntmps6
  go_wp2_with (first
    | (go_at_call 9; refine h9.mono ?_; rintro e w1 ⟨g, gc, rfl, r1, b1⟩; have rb1 := hbb.below b1 (Nat.le_refl _); have rp1 := hb.below b1 (Nat.le_refl _); have es := fun w' => slice_to g 0 L gc j (by obtain ⟨a', cap', e', hc'', _⟩ := r1; simp only [Value.slice.injEq] at e'; omega) w'; clear h9)
    | (at_builtin; refine wpList_append_both _ rfl (.tmp 52) (.tmp 53) 22 22 rfl w1.heap.size 5 i0 (.int .u8 0) 1 1 Try.underlying22 hi hz0 hz1 hz2 rfl _ 0 [] rfl (own_nil w1) _ L _ rfl (rd_src r1 HL.out _) L (.inr (by omega)) (Nat.le_refl _) (by unfold maxLen; omega) (by simp) ?_; intro v2 w2 ho2 hg2 _; simp only [Nat.zero_add, List.nil_append] at ho2; have bel2 := bel_first hg2; have rb2 := rb1.below bel2 (Nat.le_refl _); clear hg2)
    | (at_builtin; refine wpList_append_both _ rfl (.tmp 54) (.tmp 55) 22 22 rfl w1.heap.size 5 i0 (.int .u8 0) 1 1 Try.underlying22 hi hz0 hz1 hz2 rfl v2 L _ rfl ho2 _ bs.length _ rfl (rb2.src Try.underlying22) bs.length (.inr (by omega)) (Nat.le_refl _) (by unfold maxLen; omega) bel2.size ?_; intro v3 w3 ho3 hg3 _; have bel3 := bel2.grown hg3 bel2.size (fun k hk => (ho2.lt k hk).1); have h11 := open_any v3 _ w3 (own_both HL.out ho3).rd HB1.out; rw [HO1.out] at h11; have rb3 := rb1.below bel3 (Nat.le_refl _); have r3 := r1.below bel3 (Nat.le_refl _); have rp3 := rp1.below bel3 (Nat.le_refl _); have b3 := b1.trans (bel3.mono b1.size); clear ho2 ho3 hg3 bel2 bel3 rb2 rb1 r1 rp1 b1)
    | (go_at_call 11; refine h11.mono ?_; rintro e w4 ⟨u4, rfl, o4, hb4⟩; have rb4 := rb3.below hb4 (Nat.le_refl _); have r4 := r3.below hb4 (Nat.le_refl _); have rp4 := rp3.below hb4 (Nat.le_refl _); have b4 := b3.trans (hb4.mono b3.size); have ru4 := o4.rd; have h11b := open_any _ _ w4 (r4.first HL.out hj) HB2.out; rw [HO2.out] at h11b; clear h11 hb4 rb3 r3 rp3 b3 o4)
    | (go_at_call 11; refine h11b.mono ?_; rintro e w5 ⟨u5, rfl, _, hb5⟩; have rb5 := rb4.below hb5 (Nat.le_refl _); have r5 := r4.below hb5 (Nat.le_refl _); have rp5 := rp4.below hb5 (Nat.le_refl _); have ru5 := ru4.below hb5 (Nat.le_refl _); have b5 := b4.trans (hb5.mono b4.size); clear h11b hb5 rb4 r4 rp4 b4 ru4 es)
    | (at_builtin; refine wpList_append_both _ rfl (.tmp 75) (.tmp 76) 22 22 rfl w5.heap.size 5 i0 (.int .u8 0) 1 1 Try.underlying22 hi hz0 hz1 hz2 rfl _ 0 [] rfl (own_nil w5) _ L _ rfl (rd_src r5 HL.out _) L (.inr (by omega)) (Nat.le_refl _) (by unfold maxLen; omega) (by simp) ?_))
  intro v6 w6 ho6 hg6 _
  obtain ⟨g6, c6, hv6⟩ := own_form (own_len HL.out ho6) HL.out (by omega)
  have o6 := own_len HL.out ho6
  subst hv6
  have bel6 := bel_first hg6
  obtain ⟨o7, c7, f7, hg7, hs7⟩ := own_store (c := z) HL.out hj o6
  rw [HX.out] at c7
  have bel7 : Below w5.heap.size w5 (w6.setCell ⟨g6, j, none⟩ (.int .u8 z)) := bel6.setCell hg7 _
  have rb7 := rb5.below bel7 (Nat.le_refl _)
  have o7' := own_row HSL.out o7
  clear hg6 ho6 o6 bel6 o7 r5
  go_wp2_with (first
    | (at_builtin; refine wpList_append_both _ rfl (.tmp 88) (.tmp 89) 22 22 rfl w5.heap.size 5 i0 (.int .u8 0) 1 1 Try.underlying22 hi hz0 hz1 hz2 rfl _ L _ rfl o7' _ bs.length _ rfl (rb7.src Try.underlying22) bs.length (.inr (by omega)) (Nat.le_refl _) (by unfold maxLen; omega) bel7.size ?_; intro v8 w8 ho8 hg8 _; have bel8 := bel7.grown hg8 bel7.size (fun k hk => (World.ownsRow.lt o7' k hk).1); have h11c := open_any v8 _ w8 (own_both HSL.out ho8).rd HB3.out; rw [HX3.out] at h11c; have rp8 := rp5.below bel8 (Nat.le_refl _); have ru8 := ru5.below bel8 (Nat.le_refl _); have b8 := b5.trans (bel8.mono b5.size); clear ho8 hg8 bel7 bel8 rb7 o7' rb5 rp5 ru5 b5)
    | (go_at_call 11; refine h11c.mono ?_; rintro e w9 ⟨u9, rfl, _, hb9⟩; have k1 := rd_conv (rp8.below hb9 (Nat.le_refl _)); have k2 := rd_conv (ru8.below hb9 (Nat.le_refl _)); have b9 := b8.trans (hb9.mono b8.size); clear h11c hb9 rp8 ru8 b8))
  go_ret
  exact ⟨by simp, b9⟩
end Go.Proofs.Ytlkhakcphdemjaa
