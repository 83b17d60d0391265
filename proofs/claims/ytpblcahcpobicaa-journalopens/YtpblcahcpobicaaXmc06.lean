import Derived.Test.YtpblcahcpobicaaXmc05
import Derived.Deep.RegionLaw
import Derived.Deep.Cut
import Derived.Deep.RegionHeldLaw
import Derived.Test.YtpblcahcpobicaaXmc01
import Derived.Test.YtpblcahcpobicaaXmc03

/- The document's disk: Append that makes a segment: behind the last one. -/
namespace Go.Proofs.Ytpblcahcpobicaa
open Go.RowKit Go.Lib Go.Maps
set_option linter.unusedSimpArgs false
set_option linter.unusedVariables false
attribute [local go_sem ↓] Go.wp_at_zero Go.wp_at_succ

set_option maxRecDepth 100000 in
set_option maxHeartbeats 8000000 in
theorem qapp_end {w : World} {Y : Nat} {G : Nat → Prop} {d : Dk} {n : Int} {v : Value} {bs : List Int} {Lv : Value} {E : List (Int × Sv)} {J : Nat} (h : QDE w Y G d Lv E) (hfu : d.fuse ≤ 9223372036854775807) (hro : 0 ≤ d.room ∧ d.room ≤ 9223372036854775807)
    (hl : d.L.length ≤ 100000) (hu : usM d.L ≤ 1000000) (hb : bs.length ≤ 1000000) (hv : ∀ w1, Kf G w w1 → Rd w1 v bs) (hd : d.dead = false) (hn0 : ¬ n < 0) (hr : ¬ (bs.length : Int) > d.room - (usM d.L : Int)) (hz : ¬ d.fuse = 0) (hq : lk n E = none)
    (hJ : J ≤ E.length) (hJ1 : ∀ k (h : k < E.length), k < J → (E[k]).1 < n) (hJ2 : ∀ h : J < E.length, n < (E[J]).1) (hsome : ∃ g cap, Lv = .slice (some ⟨g, 0, none⟩) E.length cap) (hend : J = E.length) :
    Calls Try.prog 27 #[.pointer (some ⟨Y, 0, none⟩), .int .i64 n, v] w fun e w' => e = .returned (.int .i64 (appD d n bs).2) ∧ QD w' Y (nF G w) (appD d n bs).1 ∧ Kf G w w' := by
  have hus := h.usq hu
  obtain ⟨va, vc, rfl, hvl, hvm, _⟩ := id (hv w (Kf.refl G w))
  obtain ⟨g1, g2, g3, g4⟩ := id h
  have hYl := g4.lt
  obtain ⟨c1, f1⟩ := g4 1 _ rfl
  obtain ⟨c3, f3⟩ := g4 3 _ rfl
  rw [hd] at c3
  have hw1 : IntKind.i64.wrap (d.room - (usM d.L : Int)) = d.room - (usM d.L : Int) := by rw [IntKind.wrap_i64]; omega
  have hC := h.clip
  have hbn := fun m => qburn_any (w := w.drewN m) (hC.keep (fun _ _ _ => rfl) (fun _ _ h => h)) hfu
  simp only [decide_eq_true (show d.fuse ≠ 0 from hz)] at hbn
  have hkf := fun m => (Kf.refl (cF G w) w).drewN m
  have hlk := mmE_lk n E
  rw [g2, hq] at hlk
  simp only [Option.map_none] at hlk
  have hD : appD d n bs = ({ brn d with L := pt n (bs, 0) d.L }, 0) := by
    unfold appD
    rw [if_neg (by simp [hd]), if_neg hn0, if_neg hr, if_neg hz, hlk]
    rfl
  rw [hD]
  obtain ⟨D, hD2⟩ : ∃ D : Dk, { brn d with L := pt n (bs, 0) d.L } = D := ⟨_, rfl⟩
  simp only [hD2]
  have HD := hideD hD2
  have hbL := hideD (brn_L d).1
  have hris := hideD (show Ris d.L by rw [← g2]; exact ris_mmE g3.r)
  have hlE : E.length ≤ 100000 := by rw [← g2] at hl; simpa [mmE] using hl
  have e1 := fI_no 0 hq
  have HV := hideD hv
  have HQ := hideD hq
  have HJ := hideD (And.intro hJ (And.intro hJ1 hJ2))
  obtain ⟨g, cap, rfl, hlc, hcm, dg1, dg2⟩ : ∃ g cap, Lv = .slice (some ⟨g, 0, none⟩) E.length cap ∧ E.length ≤ cap ∧ cap ≤ maxLen ∧ g < w.heap.size ∧ g ≠ Y := by
    obtain ⟨g, cap, e⟩ := hsome
    obtain ⟨a, c, e2, q1, q2⟩ := g3.form
    have e3 := e
    rw [e2] at e3
    simp only [Value.slice.injEq] at e3
    obtain ⟨_, _, rfl⟩ := e3
    exact ⟨g, c, e, q1, q2, (ownsRow_lt g3.o g (by rw [e]; rfl)).2, (g3.oo g (by rw [e]; rfl)).2⟩
  have hend' := hend
  obtain ⟨ln, hln⟩ : ∃ k, E.length = k := ⟨_, rfl⟩
  have HL := hideD hln
  rw [hln] at hlc hlE hJ hend'
  have HEND := hideD hend'
  clear h g2 g3 g4 hC hlk hq hD hD2 hv hJ1 hJ2 hln hend hend'
  unfold maxLen at hcm
  obtain ⟨i0, hi0, hz0, hz1, hz2⟩ := seg_inf
  obtain ⟨j0, hj0, y0, y1, y2⟩ := u8_inf
  go_enter Try.func27, Try.ntmps27
  go_wp2
  go_quiet (exact hus _)
  go_wp2_with (first
    | (go_at_call 54; refine (hbn _).mono ?_; rintro e w1 ⟨rfl, p1, k1'⟩; clear hbn; have hf := qfind_any p1 n; rw [e1] at hf; have hK := ((hkf _).trans k1'); have hP := hideD (And.intro p1 hK); obtain ⟨p2, p3, p4, p5⟩ := id p1; have c0 := (p5 0 _ rfl).1; have HX := hideD p4; clear p1 hK p2 p3 p4 k1' hkf)
    | (go_at_call 55; refine hf.mono ?_; rintro e w2 ⟨rfl, rfl⟩; clear hf)
    | fail)
  rw [HL.out] at c0
  go_loopw [7] (fun ix wr => ∃ (j : Nat), j ≤ J ∧ ix = .int .i64 (j : Int) ∧ w1 = wr) (fun ix _ => J - (RowKit.intOf ix).toNat)
  case atStart => exact ⟨0, Nat.zero_le _, rfl, rfl⟩
  obtain ⟨j, hj, rfl, rfl⟩ := hrel
  by_cases hlt : j < J
  · have hjl : j < E.length := by rw [HL.out]; omega
    obtain ⟨g', cap', e', _, _, hgl, d0, dd1, dd2⟩ := QR.at HX.out hjl
    have hgg : g' = g := by
      simp only [Value.slice.injEq, Option.some.injEq, Addr.mk.injEq] at e'
      exact e'.1.1.symm
    subst hgg
    have hx := HJ.out.2.1 j hjl hlt
    obtain ⟨x, hxx⟩ : ∃ x, (E[j]).1 = x := ⟨_, rfl⟩
    rw [hxx] at d0 hx
    have k1 : (j : Int) < (ln : Int) := by omega
    have k2 : (0 : Int) ≤ (j : Int) := by omega
    clear hxx dd1 dd2 e'
    go_wp2
    go_roundw
    case rel => exact ⟨j + 1, hlt, by go_num, by first | rfl | trivial⟩
    case measure => simp [RowKit.intOf]; omega
  obtain rfl : j = J := by omega
  clear hlt hj
  have k1 : ¬ (j : Int) < (ln : Int) := by have := HEND.out; omega
  have k2 : (0 : Int) ≤ (j : Int) := by omega
  have k3 : (j : Int) ≤ (ln : Int) := by omega
  have k4 : ¬ (j : Int) > (ln : Int) := by omega
  have k5 : (j : Int) ≤ (cap : Int) := by omega
  have k6 : ¬ (j : Int) > (cap : Int) := by omega
  have k7 : (ln : Int) ≤ (cap : Int) := by omega
  have hK := hP.out.2
  have hsz := hK.size
  have hcl := HX.out.cells
  have hone := HX.out.one
  have HCL := hideD (And.intro hcl hone)
  clear hcl hone
  have HS1 := src_take (i := j) (c := cap) HCL.out.1 HCL.out.2 HJ.out.1
  have HO0 : w1.ownsRow w1.heap.size 89 3 (.slice none 0 0) 0 [] := World.ownsRow_nil w1 _ _ _
  obtain ⟨a2, ha2⟩ : ∃ a2, (if cap = j then some (⟨g, 0, none⟩ : Addr) else some ⟨g, j * 3, none⟩) = a2 := ⟨_, rfl⟩
  have HS3 := hideD (show ∀ W, Below w1.heap.size w1 W → Src Try.prog 3 45 (.slice a2 (ln - j) (cap - j)) (ln - j) (celE (E.drop j)) W from fun W hb => by
    have hl2 := HL.out
    rw [← ha2]
    by_cases hc : cap = j
    · rw [if_pos hc]
      have e1 : ln - j = 0 := by omega
      have e2 : E.drop j = [] := List.drop_eq_nil_of_le (by omega)
      rw [e1, e2]
      exact src_none
    · rw [if_neg hc]
      have := src_drop (w := W) (g := g) (i := j) (c := cap - j) (E := E) (fun k u hk => (hb.cell (p := ⟨g, k, none⟩) (by show g < _; omega)).trans (HCL.out.1 k u hk)) HCL.out.2 (by omega)
      rw [hl2] at this
      exact this)
  have HT := hideD (app_ins hP.out.1 hK HQ.out HJ.out.1 HJ.out.2.1 HJ.out.2.2)
  have HP2 := hideD c0
  clear hK
  go_upto_region 18 with (first
    | (at_builtin; refine wpList_append_at _ rfl _ _ 45 45 rfl w1.heap.size 89 i0 (.agg #[.int .i64 0, .slice none 0 0, .int .i64 0]) 3 40 Try.underlying45 hi0 hz0 hz1 hz2 rfl (.slice none 0 0) 0 _ rfl HO0 _ _ _ rfl HS1 j (.inr (by omega)) (Nat.le_refl _) (by unfold maxLen; omega) (Nat.le_refl _) ?_; intro va1 wa hOa hga hata; rw [Nat.zero_add, List.nil_append] at hOa; obtain ⟨a1, ac1, rfl, hl1, hm1⟩ := ownf_form hOa; have hba : Below w1.heap.size w1 wa := (Below.refl _ _).grown hga (Nat.le_refl _) (fun k hk => by cases hk); clear hga hata HS1 HO0; have hal2 : Below w1.heap.size w1 (wa.alloc (.cells #[.int .i64 n, .slice none 0 0, .int .i64 0] 89)) := hba.alloc hba.size _; have HO2 : (wa.alloc (.cells #[.int .i64 n, .slice none 0 0, .int .i64 0] 89)).ownsRow w1.heap.size 89 3 (.slice a1 j ac1) j (celE (E.take j)) := ownsRow_keep hOa (fun q hq => ((Below.refl wa.heap.size wa).alloc (Nat.le_refl _) _).block q (World.ownsRow.lt hOa q hq).2); have HS2 : Src Try.prog 3 45 (.slice (some ⟨wa.heap.size, 0, none⟩) 1 1) 1 (celE [(n, zC)]) (wa.alloc (.cells #[.int .i64 n, .slice none 0 0, .int .i64 0] 89)) := src_one wa n)
    | (at_builtin; refine wpList_append_at _ rfl _ _ 45 45 rfl w1.heap.size 89 i0 (.agg #[.int .i64 0, .slice none 0 0, .int .i64 0]) 3 40 Try.underlying45 hi0 hz0 hz1 hz2 rfl (.slice a1 j ac1) j _ rfl HO2 _ _ _ rfl HS2 1 (.inr (by omega)) (Nat.le_refl _) (by unfold maxLen; omega) hal2.size ?_; intro vb1 wb hOb hgb hatb; obtain ⟨a3, ac3, rfl, hl3, hm3⟩ := ownf_form hOb; have hbb : Below w1.heap.size w1 wb := hal2.grown hgb hal2.size (fun k hk => (World.ownsRow.lt hOa k hk).1); clear hgb hatb HO2 HS2 hOa; have CB := (hbb.cell (p := ⟨Y, 0, none⟩) (by show Y < _; omega)).trans c0)
    | (at_builtin; refine wpList_append_at _ rfl _ _ 45 45 rfl w1.heap.size 89 i0 (.agg #[.int .i64 0, .slice none 0 0, .int .i64 0]) 3 40 Try.underlying45 hi0 hz0 hz1 hz2 rfl (.slice a3 (j + 1) ac3) (j + 1) _ rfl hOb _ _ _ rfl (HS3.out _ hbb) (ln - j) (.inr (by omega)) (Nat.le_refl _) (by unfold maxLen; omega) hbb.size ?_; intro vc1 wc hOc hgc hatc; obtain ⟨a5, ac5, rfl, hl5, hm5⟩ := ownf_form hOc; have hbc : Below w1.heap.size w1 wc := hbb.grown hgc hbb.size (fun k hk => (World.ownsRow.lt hOb k hk).1); obtain ⟨⟨uc, U0⟩, U1, HZ0⟩ := HT.out _ _ (by rw [HL.out]; exact hOc) hbc; have HZ := hideD HZ0; clear HZ0; clear hgc hatc hOc hOb)
    | fail)
  clear HS3 HT HP2 U1 hbc hbb hal2 hba CB ha2
  have hN0 : j < j + 1 + (ln - j) ∧ j + 1 + (ln - j) ≤ 100001 := by omega
  generalize hw3 : wc.setCell ⟨Y, 0, none⟩ (.slice a5 (j + 1 + (ln - j)) ac5) = w3 at HZ ⊢
  clear hw3 U0
  generalize j + 1 + (ln - j) = N at HZ hN0 hl5
  have hz3 := HZ.out
  clear HZ
  generalize hE1 : pt n zC E = E1 at hz3
  generalize hs : zC = s at hz3
  obtain ⟨sv, sb, sn⟩ := s
  obtain ⟨P1, hK3, hq3, hlen3, hi3, e3⟩ := hz3
  have HS := hideD hs
  have HQ3 := hideD hq3
  have H3 := hideD e3
  clear hs hE1 hq3 hlen3 e3 c0 p5 HX hP HCL HQ HJ hsz
  have hsz := hK3.size
  obtain ⟨p2, p3, p4, p5⟩ := id P1
  have c0 := (p5 0 _ rfl).1
  obtain ⟨g3, cap3, e', hc1, hc2, hgl3, x0, d1, x2⟩ := p4.at hi3
  simp only [Value.slice.injEq] at e'
  obtain ⟨rfl, hN, rfl⟩ := e'
  obtain ⟨ho, hof⟩ := p4.s _ (List.getElem_mem hi3)
  rw [H3.out] at ho hof d1
  simp only at ho hof d1
  obtain ⟨sa, sc, rfl, hsl, hsm⟩ := slice_form ho
  have hsb : sb.length = 0 := by
    have := HS.out
    simp only [zC, Prod.mk.injEq] at this
    rw [← this.2.1]
    rfl
  have HDE := hideD (show pt n (sb ++ bs, sn) (pt n ([], 0) (brn d).L) = pt n (bs, 0) d.L from by
    have := HS.out
    simp only [zC, Prod.mk.injEq] at this
    rw [← this.2.1, ← this.2.2, hbL.out]
    exact pt_pt hris.out)
  have hsb2 : sb.length ≤ 0 := by omega
  clear x0 x2 hof hN hsb
  have hal : Below w3.heap.size w3 (w3.alloc (.cells #[] 5)).drew := ((Below.refl _ _).alloc (Nat.le_refl _) _).drew
  have hown : (w3.alloc (.cells #[] 5)).drew.ownsRow w3.heap.size 5 1 (.slice (some ⟨w3.heap.size, 0, none⟩) 0 0) 0 [] := World.ownsRow_made w3 #[] 0 (Nat.le_refl _) (Nat.zero_le _) rfl
  have HS1 := hideD ((rd_on ho.rd hal).src (t := 41) (e := 5) Try.underlying41)
  have HS2 := hideD (show ∀ W, Below w3.heap.size w3 W → Src Try.prog 1 41 (.slice va bs.length vc) bs.length (bs.map (Value.int .u8)) W from fun W hb => (HV.out W (hK3.trans (Kf.of hb (Nat.le_refl _)))).src (t := 41) (e := 5) Try.underlying41)
  have HT := hideD (app_tail (bs := bs) P1 hK3 hYl hi3 H3.out HQ3.out)
  have C0 : (w3.alloc (.cells #[] 5)).drew.cell? ⟨Y, 0, none⟩ = some (.slice (some ⟨g3, 0, none⟩) N ac5) := (hal.cell (p := ⟨Y, 0, none⟩) (by show Y < _; omega)).trans c0
  have D1 : (w3.alloc (.cells #[] 5)).drew.cell? ⟨g3, j * 3 + 1, none⟩ = some (.slice sa sb.length sc) := (hal.cell (p := ⟨g3, j * 3 + 1, none⟩) (by show g3 < _; omega)).trans d1
  have hga1 : ∀ (wa : World), (w3.alloc (.cells #[] 5)).drew.grownBy wa (Value.slice (some ⟨w3.heap.size, 0, none⟩) 0 0).ownBlock → Below w3.heap.size w3 wa := fun wa hg => hal.grown hg (by show w3.heap.size ≤ (w3.alloc _).heap.size; simp) (fun k hk => by have : w3.heap.size = k := Option.some.inj hk; omega)
  have m1 : (j : Int) < (N : Int) := by omega
  clear p2 p3 p4 p5 ho
  go_region_law (first
    | (refine step_append_at _ (by rfl) (.tmp 87) (.tmp 95) 41 41 (by rfl) w3.heap.size 5 j0 (.int .u8 0) 1 1 Try.underlying41 hj0 y0 y1 y2 rfl (.slice (some ⟨w3.heap.size, 0, none⟩) 0 0) 0 [] (by rfl) hown _ sb.length (sb.map (Value.int .u8)) (by rfl) HS1.out sb.length (.inr (by omega)) (Nat.le_refl _) (by unfold maxLen; omega) (by show w3.heap.size ≤ (w3.alloc _).heap.size; simp) ?_; intro va1 wa hOa hga hata; rw [Nat.zero_add, List.nil_append] at hOa; obtain ⟨a1, ac1, rfl, hl1, hm1⟩ := ownf_form hOa; have hba := hga1 wa hga; have C2 := (hba.cell (p := ⟨Y, 0, none⟩) (by show Y < _; omega)).trans c0)
    | (refine step_append_at _ (by rfl) (.tmp 96) (.tmp 97) 41 41 (by rfl) w3.heap.size 5 j0 (.int .u8 0) 1 1 Try.underlying41 hj0 y0 y1 y2 rfl (.slice a1 sb.length ac1) sb.length (sb.map (Value.int .u8)) (by rfl) hOa _ bs.length (bs.map (Value.int .u8)) (by rfl) (HS2.out _ hba) bs.length (.inr (by omega)) (Nat.le_refl _) (by unfold maxLen; omega) hba.size ?_; intro vb wb hOb hgb hatb; obtain ⟨a3, c3', rfl, hl3, hm3⟩ := ownf_form hOb; have hbb := hba.grown hgb hba.size (fun k hk => (World.ownsRow.lt hOa k hk).1); have C3 := (hbb.cell (p := ⟨Y, 0, none⟩) (by show Y < _; omega)).trans c0; obtain ⟨D3, F3, HZ⟩ := HT.out _ _ hOb hbb; have HZ := hideD HZ)
    | fail)
  all_goals
    go_wp2
    go_ret
    refine ⟨rfl, ?_, HZ.out.2⟩
    have h2 : QD _ Y (nF G w) { brn d with L := pt n (sb ++ bs, sn) (pt n ([], 0) (brn d).L) } := HZ.out.1
    rw [HDE.out] at h2
    rw [← HD.out]
    exact h2

set_option maxRecDepth 100000 in
set_option maxHeartbeats 8000000 in
theorem qapp_mid {w : World} {Y : Nat} {G : Nat → Prop} {d : Dk} {n : Int} {v : Value} {bs : List Int} {Lv : Value} {E : List (Int × Sv)} {J : Nat} (h : QDE w Y G d Lv E) (hfu : d.fuse ≤ 9223372036854775807) (hro : 0 ≤ d.room ∧ d.room ≤ 9223372036854775807)
    (hl : d.L.length ≤ 100000) (hu : usM d.L ≤ 1000000) (hb : bs.length ≤ 1000000) (hv : ∀ w1, Kf G w w1 → Rd w1 v bs) (hd : d.dead = false) (hn0 : ¬ n < 0) (hr : ¬ (bs.length : Int) > d.room - (usM d.L : Int)) (hz : ¬ d.fuse = 0) (hq : lk n E = none)
    (hJ : J ≤ E.length) (hJ1 : ∀ k (h : k < E.length), k < J → (E[k]).1 < n) (hJ2 : ∀ h : J < E.length, n < (E[J]).1) (hne : 0 < E.length) (hmid : J < E.length) :
    Calls Try.prog 27 #[.pointer (some ⟨Y, 0, none⟩), .int .i64 n, v] w fun e w' => e = .returned (.int .i64 (appD d n bs).2) ∧ QD w' Y (nF G w) (appD d n bs).1 ∧ Kf G w w' := by
  have hus := h.usq hu
  obtain ⟨va, vc, rfl, hvl, hvm, _⟩ := id (hv w (Kf.refl G w))
  obtain ⟨g1, g2, g3, g4⟩ := id h
  have hYl := g4.lt
  obtain ⟨c1, f1⟩ := g4 1 _ rfl
  obtain ⟨c3, f3⟩ := g4 3 _ rfl
  rw [hd] at c3
  have hw1 : IntKind.i64.wrap (d.room - (usM d.L : Int)) = d.room - (usM d.L : Int) := by rw [IntKind.wrap_i64]; omega
  have hC := h.clip
  have hbn := fun m => qburn_any (w := w.drewN m) (hC.keep (fun _ _ _ => rfl) (fun _ _ h => h)) hfu
  simp only [decide_eq_true (show d.fuse ≠ 0 from hz)] at hbn
  have hkf := fun m => (Kf.refl (cF G w) w).drewN m
  have hlk := mmE_lk n E
  rw [g2, hq] at hlk
  simp only [Option.map_none] at hlk
  have hD : appD d n bs = ({ brn d with L := pt n (bs, 0) d.L }, 0) := by
    unfold appD
    rw [if_neg (by simp [hd]), if_neg hn0, if_neg hr, if_neg hz, hlk]
    rfl
  rw [hD]
  obtain ⟨D, hD2⟩ : ∃ D : Dk, { brn d with L := pt n (bs, 0) d.L } = D := ⟨_, rfl⟩
  simp only [hD2]
  have HD := hideD hD2
  have hbL := hideD (brn_L d).1
  have hris := hideD (show Ris d.L by rw [← g2]; exact ris_mmE g3.r)
  have hlE : E.length ≤ 100000 := by rw [← g2] at hl; simpa [mmE] using hl
  have e1 := fI_no 0 hq
  have HV := hideD hv
  have HQ := hideD hq
  have HJ := hideD (And.intro hJ (And.intro hJ1 hJ2))
  obtain ⟨g, cap, rfl, hlc, hcm, dg1, dg2⟩ : ∃ g cap, Lv = .slice (some ⟨g, 0, none⟩) E.length cap ∧ E.length ≤ cap ∧ cap ≤ maxLen ∧ g < w.heap.size ∧ g ≠ Y := by
    obtain ⟨g, cap, e, q1, q2, q3, _⟩ := g3.at hne
    exact ⟨g, cap, e, q1, q2, q3, (g3.oo g (by rw [e]; rfl)).2⟩
  have hend' := hmid
  obtain ⟨ln, hln⟩ : ∃ k, E.length = k := ⟨_, rfl⟩
  have HL := hideD hln
  rw [hln] at hlc hlE hJ hend'
  clear h g2 g3 g4 hC hlk hq hD hD2 hv hJ1 hJ2 hln hmid
  unfold maxLen at hcm
  obtain ⟨i0, hi0, hz0, hz1, hz2⟩ := seg_inf
  obtain ⟨j0, hj0, y0, y1, y2⟩ := u8_inf
  go_enter Try.func27, Try.ntmps27
  go_wp2
  go_quiet (exact hus _)
  go_wp2_with (first
    | (go_at_call 54; refine (hbn _).mono ?_; rintro e w1 ⟨rfl, p1, k1'⟩; clear hbn; have hf := qfind_any p1 n; rw [e1] at hf; have hK := ((hkf _).trans k1'); have hP := hideD (And.intro p1 hK); obtain ⟨p2, p3, p4, p5⟩ := id p1; have c0 := (p5 0 _ rfl).1; have HX := hideD p4; clear p1 hK p2 p3 p4 k1' hkf)
    | (go_at_call 55; refine hf.mono ?_; rintro e w2 ⟨rfl, rfl⟩; clear hf)
    | fail)
  rw [HL.out] at c0
  go_loopw [7] (fun ix wr => ∃ (j : Nat), j ≤ J ∧ ix = .int .i64 (j : Int) ∧ w1 = wr) (fun ix _ => J - (RowKit.intOf ix).toNat)
  case atStart => exact ⟨0, Nat.zero_le _, rfl, rfl⟩
  obtain ⟨j, hj, rfl, rfl⟩ := hrel
  by_cases hlt : j < J
  · have hjl : j < E.length := by rw [HL.out]; omega
    obtain ⟨g', cap', e', _, _, hgl, d0, dd1, dd2⟩ := QR.at HX.out hjl
    have hgg : g' = g := by
      simp only [Value.slice.injEq, Option.some.injEq, Addr.mk.injEq] at e'
      exact e'.1.1.symm
    subst hgg
    have hx := HJ.out.2.1 j hjl hlt
    obtain ⟨x, hxx⟩ : ∃ x, (E[j]).1 = x := ⟨_, rfl⟩
    rw [hxx] at d0 hx
    have k1 : (j : Int) < (ln : Int) := by omega
    have k2 : (0 : Int) ≤ (j : Int) := by omega
    clear hxx dd1 dd2 e'
    go_wp2
    go_roundw
    case rel => exact ⟨j + 1, hlt, by go_num, by first | rfl | trivial⟩
    case measure => simp [RowKit.intOf]; omega
  obtain rfl : j = J := by omega
  clear hlt hj
  have hjl : j < E.length := by rw [HL.out]; omega
  obtain ⟨g', cap', e', _, _, hgl, d0, dd1, dd2⟩ := QR.at HX.out hjl
  have hgg : g = g' := by
    simp only [Value.slice.injEq, Option.some.injEq, Addr.mk.injEq] at e'
    exact e'.1.1
  subst hgg
  have hx : ¬ (E[j]).1 < n := by have := HJ.out.2.2 hjl; omega
  obtain ⟨x, hxx⟩ : ∃ x, (E[j]).1 = x := ⟨_, rfl⟩
  rw [hxx] at d0 hx
  have k1 : (j : Int) < (ln : Int) := by omega
  clear hxx dd1 dd2 e'
  have k2 : (0 : Int) ≤ (j : Int) := by omega
  have k3 : (j : Int) ≤ (ln : Int) := by omega
  have k4 : ¬ (j : Int) > (ln : Int) := by omega
  have k5 : (j : Int) ≤ (cap : Int) := by omega
  have k6 : ¬ (j : Int) > (cap : Int) := by omega
  have k7 : (ln : Int) ≤ (cap : Int) := by omega
  have hK := hP.out.2
  have hsz := hK.size
  have hcl := HX.out.cells
  have hone := HX.out.one
  have HCL := hideD (And.intro hcl hone)
  clear hcl hone
  have HS1 := src_take (i := j) (c := cap) HCL.out.1 HCL.out.2 HJ.out.1
  have HO0 : w1.ownsRow w1.heap.size 89 3 (.slice none 0 0) 0 [] := World.ownsRow_nil w1 _ _ _
  have HS3 := hideD (show ∀ W, Below w1.heap.size w1 W → Src Try.prog 3 45 (.slice (some ⟨g, j * 3, none⟩) (ln - j) (cap - j)) (ln - j) (celE (E.drop j)) W from fun W hb => by
    have hl2 := HL.out
    have := src_drop (w := W) (g := g) (i := j) (c := cap - j) (E := E) (fun k u hk => (hb.cell (p := ⟨g, k, none⟩) (by show g < _; omega)).trans (HCL.out.1 k u hk)) HCL.out.2 (by omega)
    rw [hl2] at this
    exact this)
  have HT := hideD (app_ins hP.out.1 hK HQ.out HJ.out.1 HJ.out.2.1 HJ.out.2.2)
  have HP2 := hideD c0
  clear hK
  go_upto_region 18 with (first
    | (at_builtin; refine wpList_append_at _ rfl _ _ 45 45 rfl w1.heap.size 89 i0 (.agg #[.int .i64 0, .slice none 0 0, .int .i64 0]) 3 40 Try.underlying45 hi0 hz0 hz1 hz2 rfl (.slice none 0 0) 0 _ rfl HO0 _ _ _ rfl HS1 j (.inr (by omega)) (Nat.le_refl _) (by unfold maxLen; omega) (Nat.le_refl _) ?_; intro va1 wa hOa hga hata; rw [Nat.zero_add, List.nil_append] at hOa; obtain ⟨a1, ac1, rfl, hl1, hm1⟩ := ownf_form hOa; have hba : Below w1.heap.size w1 wa := (Below.refl _ _).grown hga (Nat.le_refl _) (fun k hk => by cases hk); clear hga hata HS1 HO0; have hal2 : Below w1.heap.size w1 (wa.alloc (.cells #[.int .i64 n, .slice none 0 0, .int .i64 0] 89)) := hba.alloc hba.size _; have HO2 : (wa.alloc (.cells #[.int .i64 n, .slice none 0 0, .int .i64 0] 89)).ownsRow w1.heap.size 89 3 (.slice a1 j ac1) j (celE (E.take j)) := ownsRow_keep hOa (fun q hq => ((Below.refl wa.heap.size wa).alloc (Nat.le_refl _) _).block q (World.ownsRow.lt hOa q hq).2); have HS2 : Src Try.prog 3 45 (.slice (some ⟨wa.heap.size, 0, none⟩) 1 1) 1 (celE [(n, zC)]) (wa.alloc (.cells #[.int .i64 n, .slice none 0 0, .int .i64 0] 89)) := src_one wa n)
    | (at_builtin; refine wpList_append_at _ rfl _ _ 45 45 rfl w1.heap.size 89 i0 (.agg #[.int .i64 0, .slice none 0 0, .int .i64 0]) 3 40 Try.underlying45 hi0 hz0 hz1 hz2 rfl (.slice a1 j ac1) j _ rfl HO2 _ _ _ rfl HS2 1 (.inr (by omega)) (Nat.le_refl _) (by unfold maxLen; omega) hal2.size ?_; intro vb1 wb hOb hgb hatb; obtain ⟨a3, ac3, rfl, hl3, hm3⟩ := ownf_form hOb; have hbb : Below w1.heap.size w1 wb := hal2.grown hgb hal2.size (fun k hk => (World.ownsRow.lt hOa k hk).1); clear hgb hatb HO2 HS2 hOa; have CB := (hbb.cell (p := ⟨Y, 0, none⟩) (by show Y < _; omega)).trans c0)
    | (at_builtin; refine wpList_append_at _ rfl _ _ 45 45 rfl w1.heap.size 89 i0 (.agg #[.int .i64 0, .slice none 0 0, .int .i64 0]) 3 40 Try.underlying45 hi0 hz0 hz1 hz2 rfl (.slice a3 (j + 1) ac3) (j + 1) _ rfl hOb _ _ _ rfl (HS3.out _ hbb) (ln - j) (.inr (by omega)) (Nat.le_refl _) (by unfold maxLen; omega) hbb.size ?_; intro vc1 wc hOc hgc hatc; obtain ⟨a5, ac5, rfl, hl5, hm5⟩ := ownf_form hOc; have hbc : Below w1.heap.size w1 wc := hbb.grown hgc hbb.size (fun k hk => (World.ownsRow.lt hOb k hk).1); obtain ⟨⟨uc, U0⟩, U1, HZ0⟩ := HT.out _ _ (by rw [HL.out]; exact hOc) hbc; have HZ := hideD HZ0; clear HZ0; clear hgc hatc hOc hOb)
    | fail)
  clear HS3 HT HP2 U1 hbc hbb hal2 hba CB
  have hN0 : j < j + 1 + (ln - j) ∧ j + 1 + (ln - j) ≤ 100001 := by omega
  generalize hw3 : wc.setCell ⟨Y, 0, none⟩ (.slice a5 (j + 1 + (ln - j)) ac5) = w3 at HZ ⊢
  clear hw3 U0
  generalize j + 1 + (ln - j) = N at HZ hN0 hl5
  have hz3 := HZ.out
  clear HZ
  generalize hE1 : pt n zC E = E1 at hz3
  generalize hs : zC = s at hz3
  obtain ⟨sv, sb, sn⟩ := s
  obtain ⟨P1, hK3, hq3, hlen3, hi3, e3⟩ := hz3
  have HS := hideD hs
  have HQ3 := hideD hq3
  have H3 := hideD e3
  clear hs hE1 hq3 hlen3 e3 c0 p5 HX hP HCL HQ HJ hsz
  have hsz := hK3.size
  obtain ⟨p2, p3, p4, p5⟩ := id P1
  have c0 := (p5 0 _ rfl).1
  obtain ⟨g3, cap3, e', hc1, hc2, hgl3, x0, d1, x2⟩ := p4.at hi3
  simp only [Value.slice.injEq] at e'
  obtain ⟨rfl, hN, rfl⟩ := e'
  obtain ⟨ho, hof⟩ := p4.s _ (List.getElem_mem hi3)
  rw [H3.out] at ho hof d1
  simp only at ho hof d1
  obtain ⟨sa, sc, rfl, hsl, hsm⟩ := slice_form ho
  have hsb : sb.length = 0 := by
    have := HS.out
    simp only [zC, Prod.mk.injEq] at this
    rw [← this.2.1]
    rfl
  have HDE := hideD (show pt n (sb ++ bs, sn) (pt n ([], 0) (brn d).L) = pt n (bs, 0) d.L from by
    have := HS.out
    simp only [zC, Prod.mk.injEq] at this
    rw [← this.2.1, ← this.2.2, hbL.out]
    exact pt_pt hris.out)
  have hsb2 : sb.length ≤ 0 := by omega
  clear x0 x2 hof hN hsb
  have hal : Below w3.heap.size w3 (w3.alloc (.cells #[] 5)).drew := ((Below.refl _ _).alloc (Nat.le_refl _) _).drew
  have hown : (w3.alloc (.cells #[] 5)).drew.ownsRow w3.heap.size 5 1 (.slice (some ⟨w3.heap.size, 0, none⟩) 0 0) 0 [] := World.ownsRow_made w3 #[] 0 (Nat.le_refl _) (Nat.zero_le _) rfl
  have HS1 := hideD ((rd_on ho.rd hal).src (t := 41) (e := 5) Try.underlying41)
  have HS2 := hideD (show ∀ W, Below w3.heap.size w3 W → Src Try.prog 1 41 (.slice va bs.length vc) bs.length (bs.map (Value.int .u8)) W from fun W hb => (HV.out W (hK3.trans (Kf.of hb (Nat.le_refl _)))).src (t := 41) (e := 5) Try.underlying41)
  have HT := hideD (app_tail (bs := bs) P1 hK3 hYl hi3 H3.out HQ3.out)
  have C0 : (w3.alloc (.cells #[] 5)).drew.cell? ⟨Y, 0, none⟩ = some (.slice (some ⟨g3, 0, none⟩) N ac5) := (hal.cell (p := ⟨Y, 0, none⟩) (by show Y < _; omega)).trans c0
  have D1 : (w3.alloc (.cells #[] 5)).drew.cell? ⟨g3, j * 3 + 1, none⟩ = some (.slice sa sb.length sc) := (hal.cell (p := ⟨g3, j * 3 + 1, none⟩) (by show g3 < _; omega)).trans d1
  have hga1 : ∀ (wa : World), (w3.alloc (.cells #[] 5)).drew.grownBy wa (Value.slice (some ⟨w3.heap.size, 0, none⟩) 0 0).ownBlock → Below w3.heap.size w3 wa := fun wa hg => hal.grown hg (by show w3.heap.size ≤ (w3.alloc _).heap.size; simp) (fun k hk => by have : w3.heap.size = k := Option.some.inj hk; omega)
  have m1 : (j : Int) < (N : Int) := by omega
  clear p2 p3 p4 p5 ho
  go_region_law (first
    | (refine step_append_at _ (by rfl) (.tmp 87) (.tmp 95) 41 41 (by rfl) w3.heap.size 5 j0 (.int .u8 0) 1 1 Try.underlying41 hj0 y0 y1 y2 rfl (.slice (some ⟨w3.heap.size, 0, none⟩) 0 0) 0 [] (by rfl) hown _ sb.length (sb.map (Value.int .u8)) (by rfl) HS1.out sb.length (.inr (by omega)) (Nat.le_refl _) (by unfold maxLen; omega) (by show w3.heap.size ≤ (w3.alloc _).heap.size; simp) ?_; intro va1 wa hOa hga hata; rw [Nat.zero_add, List.nil_append] at hOa; obtain ⟨a1, ac1, rfl, hl1, hm1⟩ := ownf_form hOa; have hba := hga1 wa hga; have C2 := (hba.cell (p := ⟨Y, 0, none⟩) (by show Y < _; omega)).trans c0)
    | (refine step_append_at _ (by rfl) (.tmp 96) (.tmp 97) 41 41 (by rfl) w3.heap.size 5 j0 (.int .u8 0) 1 1 Try.underlying41 hj0 y0 y1 y2 rfl (.slice a1 sb.length ac1) sb.length (sb.map (Value.int .u8)) (by rfl) hOa _ bs.length (bs.map (Value.int .u8)) (by rfl) (HS2.out _ hba) bs.length (.inr (by omega)) (Nat.le_refl _) (by unfold maxLen; omega) hba.size ?_; intro vb wb hOb hgb hatb; obtain ⟨a3, c3', rfl, hl3, hm3⟩ := ownf_form hOb; have hbb := hba.grown hgb hba.size (fun k hk => (World.ownsRow.lt hOa k hk).1); have C3 := (hbb.cell (p := ⟨Y, 0, none⟩) (by show Y < _; omega)).trans c0; obtain ⟨D3, F3, HZ⟩ := HT.out _ _ hOb hbb; have HZ := hideD HZ)
    | fail)
  all_goals
    go_wp2
    go_ret
    refine ⟨rfl, ?_, HZ.out.2⟩
    have h2 : QD _ Y (nF G w) { brn d with L := pt n (sb ++ bs, sn) (pt n ([], 0) (brn d).L) } := HZ.out.1
    rw [HDE.out] at h2
    rw [← HD.out]
    exact h2

set_option maxRecDepth 100000 in
set_option maxHeartbeats 8000000 in
theorem qapp_nil {w : World} {Y : Nat} {G : Nat → Prop} {d : Dk} {n : Int} {v : Value} {bs : List Int} {Lv : Value} {E : List (Int × Sv)} {J : Nat} (h : QDE w Y G d Lv E) (hfu : d.fuse ≤ 9223372036854775807) (hro : 0 ≤ d.room ∧ d.room ≤ 9223372036854775807)
    (hl : d.L.length ≤ 100000) (hu : usM d.L ≤ 1000000) (hb : bs.length ≤ 1000000) (hv : ∀ w1, Kf G w w1 → Rd w1 v bs) (hd : d.dead = false) (hn0 : ¬ n < 0) (hr : ¬ (bs.length : Int) > d.room - (usM d.L : Int)) (hz : ¬ d.fuse = 0) (hq : lk n E = none)
    (hJ : J ≤ E.length) (hJ1 : ∀ k (h : k < E.length), k < J → (E[k]).1 < n) (hJ2 : ∀ h : J < E.length, n < (E[J]).1) (hLv : Lv = .slice none 0 0) (hE : E.length = 0) :
    Calls Try.prog 27 #[.pointer (some ⟨Y, 0, none⟩), .int .i64 n, v] w fun e w' => e = .returned (.int .i64 (appD d n bs).2) ∧ QD w' Y (nF G w) (appD d n bs).1 ∧ Kf G w w' := by
  have hus := h.usq hu
  obtain ⟨va, vc, rfl, hvl, hvm, _⟩ := id (hv w (Kf.refl G w))
  obtain ⟨g1, g2, g3, g4⟩ := id h
  have hYl := g4.lt
  obtain ⟨c1, f1⟩ := g4 1 _ rfl
  obtain ⟨c3, f3⟩ := g4 3 _ rfl
  rw [hd] at c3
  have hw1 : IntKind.i64.wrap (d.room - (usM d.L : Int)) = d.room - (usM d.L : Int) := by rw [IntKind.wrap_i64]; omega
  have hC := h.clip
  have hbn := fun m => qburn_any (w := w.drewN m) (hC.keep (fun _ _ _ => rfl) (fun _ _ h => h)) hfu
  simp only [decide_eq_true (show d.fuse ≠ 0 from hz)] at hbn
  have hkf := fun m => (Kf.refl (cF G w) w).drewN m
  have hlk := mmE_lk n E
  rw [g2, hq] at hlk
  simp only [Option.map_none] at hlk
  have hD : appD d n bs = ({ brn d with L := pt n (bs, 0) d.L }, 0) := by
    unfold appD
    rw [if_neg (by simp [hd]), if_neg hn0, if_neg hr, if_neg hz, hlk]
    rfl
  rw [hD]
  obtain ⟨D, hD2⟩ : ∃ D : Dk, { brn d with L := pt n (bs, 0) d.L } = D := ⟨_, rfl⟩
  simp only [hD2]
  have HD := hideD hD2
  have hbL := hideD (brn_L d).1
  have hris := hideD (show Ris d.L by rw [← g2]; exact ris_mmE g3.r)
  have hlE : E.length ≤ 100000 := by rw [← g2] at hl; simpa [mmE] using hl
  have e1 := fI_no 0 hq
  have HV := hideD hv
  have HQ := hideD hq
  have HJ := hideD (And.intro hJ (And.intro hJ1 hJ2))
  obtain ⟨cap, hcap⟩ : ∃ k : Nat, 0 = k := ⟨_, rfl⟩
  obtain rfl : Lv = .slice none E.length cap := by rw [hLv, hE, ← hcap]
  have hlc : E.length ≤ cap := by omega
  have hcm : cap ≤ maxLen := by unfold maxLen; omega
  have hend' : J = E.length := by omega
  obtain ⟨ln, hln⟩ : ∃ k, E.length = k := ⟨_, rfl⟩
  have HL := hideD hln
  rw [hln] at hlc hlE hJ hend'
  have HEND := hideD hend'
  have HEND2 := hideD (show ln = 0 by omega)
  clear h g2 g3 g4 hC hlk hq hD hD2 hv hJ1 hJ2 hln hend' hcap hE hLv
  unfold maxLen at hcm
  obtain ⟨i0, hi0, hz0, hz1, hz2⟩ := seg_inf
  obtain ⟨j0, hj0, y0, y1, y2⟩ := u8_inf
  go_enter Try.func27, Try.ntmps27
  go_wp2
  go_quiet (exact hus _)
  go_wp2_with (first
    | (go_at_call 54; refine (hbn _).mono ?_; rintro e w1 ⟨rfl, p1, k1'⟩; clear hbn; have hf := qfind_any p1 n; rw [e1] at hf; have hK := ((hkf _).trans k1'); have hP := hideD (And.intro p1 hK); obtain ⟨p2, p3, p4, p5⟩ := id p1; have c0 := (p5 0 _ rfl).1; have HX := hideD p4; clear p1 hK p2 p3 p4 k1' hkf)
    | (go_at_call 55; refine hf.mono ?_; rintro e w2 ⟨rfl, rfl⟩; clear hf)
    | fail)
  rw [HL.out] at c0
  go_loopw [7] (fun ix wr => ∃ (j : Nat), j ≤ J ∧ ix = .int .i64 (j : Int) ∧ w1 = wr) (fun ix _ => J - (RowKit.intOf ix).toNat)
  case atStart => exact ⟨0, Nat.zero_le _, rfl, rfl⟩
  obtain ⟨j, hj, rfl, rfl⟩ := hrel
  obtain rfl : j = J := by have := HEND.out; have := HEND2.out; omega
  clear hj
  have k1 : ¬ (j : Int) < (ln : Int) := by have := HEND.out; omega
  have k2 : (0 : Int) ≤ (j : Int) := by omega
  have k3 : (j : Int) ≤ (ln : Int) := by omega
  have k4 : ¬ (j : Int) > (ln : Int) := by omega
  have k5 : (j : Int) ≤ (cap : Int) := by omega
  have k6 : ¬ (j : Int) > (cap : Int) := by omega
  have k7 : (ln : Int) ≤ (cap : Int) := by omega
  have hK := hP.out.2
  have hsz := hK.size
  have HS1 : Src Try.prog 3 45 (.slice none j cap) j (celE (E.take j)) w1 := src_nil1 (by have := HEND.out; have := HEND2.out; omega)
  have HO0 : w1.ownsRow w1.heap.size 89 3 (.slice none 0 0) 0 [] := World.ownsRow_nil w1 _ _ _
  have HS3 := hideD (show ∀ W, Below w1.heap.size w1 W → Src Try.prog 3 45 (.slice none (ln - j) (cap - j)) (ln - j) (celE (E.drop j)) W from fun W hb => src_nil2 (by have := HEND.out; omega) (List.drop_eq_nil_of_le (by have := HL.out; have := HEND.out; omega)))
  have HT := hideD (app_ins hP.out.1 hK HQ.out HJ.out.1 HJ.out.2.1 HJ.out.2.2)
  have HP2 := hideD c0
  clear hK
  go_upto_region 18 with (first
    | (at_builtin; refine wpList_append_at _ rfl _ _ 45 45 rfl w1.heap.size 89 i0 (.agg #[.int .i64 0, .slice none 0 0, .int .i64 0]) 3 40 Try.underlying45 hi0 hz0 hz1 hz2 rfl (.slice none 0 0) 0 _ rfl HO0 _ _ _ rfl HS1 j (.inr (by omega)) (Nat.le_refl _) (by unfold maxLen; omega) (Nat.le_refl _) ?_; intro va1 wa hOa hga hata; rw [Nat.zero_add, List.nil_append] at hOa; obtain ⟨a1, ac1, rfl, hl1, hm1⟩ := ownf_form hOa; have hba : Below w1.heap.size w1 wa := (Below.refl _ _).grown hga (Nat.le_refl _) (fun k hk => by cases hk); clear hga hata HS1 HO0; have hal2 : Below w1.heap.size w1 (wa.alloc (.cells #[.int .i64 n, .slice none 0 0, .int .i64 0] 89)) := hba.alloc hba.size _; have HO2 : (wa.alloc (.cells #[.int .i64 n, .slice none 0 0, .int .i64 0] 89)).ownsRow w1.heap.size 89 3 (.slice a1 j ac1) j (celE (E.take j)) := ownsRow_keep hOa (fun q hq => ((Below.refl wa.heap.size wa).alloc (Nat.le_refl _) _).block q (World.ownsRow.lt hOa q hq).2); have HS2 : Src Try.prog 3 45 (.slice (some ⟨wa.heap.size, 0, none⟩) 1 1) 1 (celE [(n, zC)]) (wa.alloc (.cells #[.int .i64 n, .slice none 0 0, .int .i64 0] 89)) := src_one wa n)
    | (at_builtin; refine wpList_append_at _ rfl _ _ 45 45 rfl w1.heap.size 89 i0 (.agg #[.int .i64 0, .slice none 0 0, .int .i64 0]) 3 40 Try.underlying45 hi0 hz0 hz1 hz2 rfl (.slice a1 j ac1) j _ rfl HO2 _ _ _ rfl HS2 1 (.inr (by omega)) (Nat.le_refl _) (by unfold maxLen; omega) hal2.size ?_; intro vb1 wb hOb hgb hatb; obtain ⟨a3, ac3, rfl, hl3, hm3⟩ := ownf_form hOb; have hbb : Below w1.heap.size w1 wb := hal2.grown hgb hal2.size (fun k hk => (World.ownsRow.lt hOa k hk).1); clear hgb hatb HO2 HS2 hOa; have CB := (hbb.cell (p := ⟨Y, 0, none⟩) (by show Y < _; omega)).trans c0)
    | (at_builtin; refine wpList_append_at _ rfl _ _ 45 45 rfl w1.heap.size 89 i0 (.agg #[.int .i64 0, .slice none 0 0, .int .i64 0]) 3 40 Try.underlying45 hi0 hz0 hz1 hz2 rfl (.slice a3 (j + 1) ac3) (j + 1) _ rfl hOb _ _ _ rfl (HS3.out _ hbb) (ln - j) (.inr (by omega)) (Nat.le_refl _) (by unfold maxLen; omega) hbb.size ?_; intro vc1 wc hOc hgc hatc; obtain ⟨a5, ac5, rfl, hl5, hm5⟩ := ownf_form hOc; have hbc : Below w1.heap.size w1 wc := hbb.grown hgc hbb.size (fun k hk => (World.ownsRow.lt hOb k hk).1); obtain ⟨⟨uc, U0⟩, U1, HZ0⟩ := HT.out _ _ (by rw [HL.out]; exact hOc) hbc; have HZ := hideD HZ0; clear HZ0; clear hgc hatc hOc hOb)
    | fail)
  clear HS3 HT HP2 U1 hbc hbb hal2 hba CB
  have hN0 : j < j + 1 + (ln - j) ∧ j + 1 + (ln - j) ≤ 100001 := by omega
  generalize hw3 : wc.setCell ⟨Y, 0, none⟩ (.slice a5 (j + 1 + (ln - j)) ac5) = w3 at HZ ⊢
  clear hw3 U0
  generalize j + 1 + (ln - j) = N at HZ hN0 hl5
  have hz3 := HZ.out
  clear HZ
  generalize hE1 : pt n zC E = E1 at hz3
  generalize hs : zC = s at hz3
  obtain ⟨sv, sb, sn⟩ := s
  obtain ⟨P1, hK3, hq3, hlen3, hi3, e3⟩ := hz3
  have HS := hideD hs
  have HQ3 := hideD hq3
  have H3 := hideD e3
  clear hs hE1 hq3 hlen3 e3 c0 p5 HX hP HQ HJ hsz
  have hsz := hK3.size
  obtain ⟨p2, p3, p4, p5⟩ := id P1
  have c0 := (p5 0 _ rfl).1
  obtain ⟨g3, cap3, e', hc1, hc2, hgl3, x0, d1, x2⟩ := p4.at hi3
  simp only [Value.slice.injEq] at e'
  obtain ⟨rfl, hN, rfl⟩ := e'
  obtain ⟨ho, hof⟩ := p4.s _ (List.getElem_mem hi3)
  rw [H3.out] at ho hof d1
  simp only at ho hof d1
  obtain ⟨sa, sc, rfl, hsl, hsm⟩ := slice_form ho
  have hsb : sb.length = 0 := by
    have := HS.out
    simp only [zC, Prod.mk.injEq] at this
    rw [← this.2.1]
    rfl
  have HDE := hideD (show pt n (sb ++ bs, sn) (pt n ([], 0) (brn d).L) = pt n (bs, 0) d.L from by
    have := HS.out
    simp only [zC, Prod.mk.injEq] at this
    rw [← this.2.1, ← this.2.2, hbL.out]
    exact pt_pt hris.out)
  have hsb2 : sb.length ≤ 0 := by omega
  clear x0 x2 hof hN hsb
  have hal : Below w3.heap.size w3 (w3.alloc (.cells #[] 5)).drew := ((Below.refl _ _).alloc (Nat.le_refl _) _).drew
  have hown : (w3.alloc (.cells #[] 5)).drew.ownsRow w3.heap.size 5 1 (.slice (some ⟨w3.heap.size, 0, none⟩) 0 0) 0 [] := World.ownsRow_made w3 #[] 0 (Nat.le_refl _) (Nat.zero_le _) rfl
  have HS1 := hideD ((rd_on ho.rd hal).src (t := 41) (e := 5) Try.underlying41)
  have HS2 := hideD (show ∀ W, Below w3.heap.size w3 W → Src Try.prog 1 41 (.slice va bs.length vc) bs.length (bs.map (Value.int .u8)) W from fun W hb => (HV.out W (hK3.trans (Kf.of hb (Nat.le_refl _)))).src (t := 41) (e := 5) Try.underlying41)
  have HT := hideD (app_tail (bs := bs) P1 hK3 hYl hi3 H3.out HQ3.out)
  have C0 : (w3.alloc (.cells #[] 5)).drew.cell? ⟨Y, 0, none⟩ = some (.slice (some ⟨g3, 0, none⟩) N ac5) := (hal.cell (p := ⟨Y, 0, none⟩) (by show Y < _; omega)).trans c0
  have D1 : (w3.alloc (.cells #[] 5)).drew.cell? ⟨g3, j * 3 + 1, none⟩ = some (.slice sa sb.length sc) := (hal.cell (p := ⟨g3, j * 3 + 1, none⟩) (by show g3 < _; omega)).trans d1
  have hga1 : ∀ (wa : World), (w3.alloc (.cells #[] 5)).drew.grownBy wa (Value.slice (some ⟨w3.heap.size, 0, none⟩) 0 0).ownBlock → Below w3.heap.size w3 wa := fun wa hg => hal.grown hg (by show w3.heap.size ≤ (w3.alloc _).heap.size; simp) (fun k hk => by have : w3.heap.size = k := Option.some.inj hk; omega)
  have m1 : (j : Int) < (N : Int) := by omega
  clear p2 p3 p4 p5 ho
  go_region_law (first
    | (refine step_append_at _ (by rfl) (.tmp 87) (.tmp 95) 41 41 (by rfl) w3.heap.size 5 j0 (.int .u8 0) 1 1 Try.underlying41 hj0 y0 y1 y2 rfl (.slice (some ⟨w3.heap.size, 0, none⟩) 0 0) 0 [] (by rfl) hown _ sb.length (sb.map (Value.int .u8)) (by rfl) HS1.out sb.length (.inr (by omega)) (Nat.le_refl _) (by unfold maxLen; omega) (by show w3.heap.size ≤ (w3.alloc _).heap.size; simp) ?_; intro va1 wa hOa hga hata; rw [Nat.zero_add, List.nil_append] at hOa; obtain ⟨a1, ac1, rfl, hl1, hm1⟩ := ownf_form hOa; have hba := hga1 wa hga; have C2 := (hba.cell (p := ⟨Y, 0, none⟩) (by show Y < _; omega)).trans c0)
    | (refine step_append_at _ (by rfl) (.tmp 96) (.tmp 97) 41 41 (by rfl) w3.heap.size 5 j0 (.int .u8 0) 1 1 Try.underlying41 hj0 y0 y1 y2 rfl (.slice a1 sb.length ac1) sb.length (sb.map (Value.int .u8)) (by rfl) hOa _ bs.length (bs.map (Value.int .u8)) (by rfl) (HS2.out _ hba) bs.length (.inr (by omega)) (Nat.le_refl _) (by unfold maxLen; omega) hba.size ?_; intro vb wb hOb hgb hatb; obtain ⟨a3, c3', rfl, hl3, hm3⟩ := ownf_form hOb; have hbb := hba.grown hgb hba.size (fun k hk => (World.ownsRow.lt hOa k hk).1); have C3 := (hbb.cell (p := ⟨Y, 0, none⟩) (by show Y < _; omega)).trans c0; obtain ⟨D3, F3, HZ⟩ := HT.out _ _ hOb hbb; have HZ := hideD HZ)
    | fail)
  all_goals
    go_wp2
    go_ret
    refine ⟨rfl, ?_, HZ.out.2⟩
    have h2 : QD _ Y (nF G w) { brn d with L := pt n (sb ++ bs, sn) (pt n ([], 0) (brn d).L) } := HZ.out.1
    rw [HDE.out] at h2
    rw [← HD.out]
    exact h2
end Go.Proofs.Ytpblcahcpobicaa

/- The document's disk: Append. -/
namespace Go.Proofs.Ytpblcahcpobicaa
open Go.RowKit Go.Lib Go.Maps
set_option linter.unusedSimpArgs false
set_option linter.unusedVariables false

theorem qapp_any {w : World} {Y : Nat} {G : Nat → Prop} {d : Dk} {n : Int} {v : Value} {bs : List Int} (h0 : QD w Y G d) (hfu : d.fuse ≤ 9223372036854775807) (hro : 0 ≤ d.room ∧ d.room ≤ 9223372036854775807)
    (hl : d.L.length ≤ 100000) (hu : usM d.L ≤ 1000000) (hb : bs.length ≤ 1000000) (hv : ∀ w1, Kf G w w1 → Rd w1 v bs) :
    Calls Try.prog 27 #[.pointer (some ⟨Y, 0, none⟩), .int .i64 n, v] w fun e w' => e = .returned (.int .i64 (appD d n bs).2) ∧ QD w' Y (nF G w) (appD d n bs).1 ∧ Kf G w w' := by
  by_cases hd : d.dead = true
  · exact qapp_off h0 hfu hro hu hb (hv w (Kf.refl G w)) (.inl hd)
  by_cases hn : n < 0
  · exact qapp_off h0 hfu hro hu hb (hv w (Kf.refl G w)) (.inr (.inl hn))
  by_cases hr : (bs.length : Int) > d.room - (usM d.L : Int)
  · exact qapp_off h0 hfu hro hu hb (hv w (Kf.refl G w)) (.inr (.inr (.inl hr)))
  by_cases hz : d.fuse = 0
  · exact qapp_off h0 hfu hro hu hb (hv w (Kf.refl G w)) (.inr (.inr (.inr hz)))
  have hd : d.dead = false := by simpa using hd
  obtain ⟨Lv, E, h⟩ := h0
  cases hq : lk n E with
  | some s => exact qapp_hit h hfu hro hl hu hb hv hd hn hr hz hq
  | none =>
    obtain ⟨J, j0, j1, j2⟩ := ins_at h.2.2.1.r hq
    rcases h.2.2.1.o.2 with ⟨e1, e2⟩ | ⟨g, cap, cur, e, _⟩
    · exact qapp_nil h hfu hro hl hu hb hv hd hn hr hz hq j0 j1 j2 e1 e2
    · rcases Nat.lt_or_ge J E.length with hlt | hge
      · exact qapp_mid h hfu hro hl hu hb hv hd hn hr hz hq j0 j1 j2 (by omega) hlt
      · exact qapp_end h hfu hro hl hu hb hv hd hn hr hz hq j0 j1 j2 ⟨g, cap, e⟩ (by omega)

theorem crL_ris {kp : Nat → Int} : ∀ {l : List (Int × Sm)} {i : Nat}, Ris l → Ris (crL kp i l)
  | [], _, _ => List.Pairwise.nil
  | x :: r, i, h => by
    obtain ⟨h1, h2⟩ := List.pairwise_cons.1 h
    rw [crL_cons]
    split
    · exact crL_ris h2
    · refine List.pairwise_cons.2 ⟨fun a ha => ?_, crL_ris h2⟩
      obtain ⟨y, hy, e⟩ := crL_mem ha
      rw [e]
      exact h1 y hy
end Go.Proofs.Ytpblcahcpobicaa

/- The document's disk: Crash. -/
namespace Go.Proofs.Ytpblcahcpobicaa
open Go.RowKit Go.Lib Go.Maps
set_option linter.unusedSimpArgs false
set_option linter.unusedVariables false
attribute [local go_sem ↓] Go.wp_at_zero Go.wp_at_succ


set_option maxRecDepth 100000 in
set_option maxHeartbeats 8000000 in
theorem lsame_any {w : World} {X Y : Nat} {F G : Nat → Prop} {d : Dk} (hp : PD w X F d) (hq : QD w Y G d) (hu : usM d.L ≤ 1000000) (hl : d.L.length ≤ 100000) (hw : ∀ x ∈ d.L, (Lit.int .i64 x.1).wf = true) :
    Calls Try.prog 23 #[.pointer (some ⟨X, 0, none⟩), .pointer (some ⟨Y, 0, none⟩)] w fun e w' => e = .returned (.bool true) ∧ Below w.heap.size w w' := by
  have hsg := dsegs_any hp hl
  obtain ⟨Lv, E, h⟩ := hq
  obtain ⟨n, hn⟩ : ∃ n, d.L.length = n := ⟨_, rfl⟩
  have hlE : E.length = n := by rw [← hn, ← h.2.1]; simp [mmE]
  obtain ⟨U, hU⟩ : ∃ U, usM d.L = U := ⟨_, rfl⟩
  rw [hn] at hsg
  have HN := hideD hn
  have HU := hideD hU
  have HP := hideD hp
  have HQ := hideD h
  have HLE := hideD hlE
  have HW := hideD hw
  have hl2 : n ≤ 100000 := by omega
  have hu2 := hideD hu
  have hu3 := hideD hl
  clear hn hU hp h hlE hw hu hl
  go_enter Try.func23, Try.ntmps23
  go_upto_region 2 with (first
    | (go_at_call 29; refine hsg.mono ?_; rintro e w1 ⟨⟨sv, rfl, ho⟩, b1⟩; clear hsg; obtain ⟨sa, sc, rfl, hsl, hsm⟩ := dorow_form ho)
    | fail)
  have hQ1 := HQ.out.on b1
  have hP1 := HP.out.on b1
  obtain ⟨a, cap, e, hlc, hcm⟩ := hQ1.2.2.1.form
  subst e
  have c0 := (hQ1.2.2.2 0 _ rfl).1
  have c3 := (hQ1.2.2.2 3 _ rfl).1
  rw [HLE.out] at c0 hlc
  have hU1 : ∀ m, Calls Try.prog 28 #[.pointer (some ⟨X, 0, none⟩)] (w1.drewN m) fun e w' => e = .returned (.int .i64 (U : Int)) ∧ ∃ k, w' = w1.drewN k := fun m => (dused_any (w := w1.drewN m) (hP1.keep (fun _ _ _ => rfl))).mono (fun e w' hh => ⟨by rw [← HU.out]; exact hh.1, m, hh.2.symm⟩)
  have hU2 : ∀ m, Calls Try.prog 49 #[.pointer (some ⟨Y, 0, none⟩)] (w1.drewN m) fun e w' => e = .returned (.int .i64 (U : Int)) ∧ ∃ k, w' = w1.drewN k := fun m => (hQ1.usq hu2.out m).mono (fun e w' hh => ⟨by rw [← HU.out]; exact hh.1, hh.2⟩)
  have hD1 : ∀ m, Calls Try.prog 50 #[.pointer (some ⟨X, 0, none⟩)] (w1.drewN m) fun e w' => e = .returned (.bool d.dead) ∧ ∃ k, w' = w1.drewN k := fun m => (ddown_any (w := w1.drewN m) (hP1.keep (fun _ _ _ => rfl))).mono (fun e w' hh => ⟨hh.1, m, hh.2.symm⟩)
  have HO := hideD ho
  have HB := hideD b1
  have HQ1 := hideD hQ1
  have HP1 := hideD hP1
  obtain ⟨dd, hdd⟩ : ∃ b, d.dead = b := ⟨_, rfl⟩
  rw [hdd] at hD1 c3
  clear ho b1 hQ1 hP1 hdd
  go_quiet (first | exact hU1 _ | exact hU2 _ | exact hD1 _)
  go_wp2
  generalize hw2 : w1.drewN nq = w2 at *
  have hb2 : Below w1.heap.size w1 w2 := by
    rw [← hw2]
    exact ⟨rfl, rfl, rfl, Nat.le_refl _, fun _ _ => rfl⟩
  have HB2 := hideD hb2
  have hs2 := hb2.size
  clear hw2 hU1 hU2 hD1 hb2
  go_loopw [37] (fun ix wr => ∃ (j : Nat), j ≤ n ∧ ix = .int .i64 (j : Int) ∧ Hid (Below w1.heap.size w1 wr)) (fun ix _ => n - (RowKit.intOf ix).toNat)
  case atStart => exact ⟨0, Nat.zero_le _, rfl, HB2⟩
  case round =>
    obtain ⟨j, hj, rfl, HBj⟩ := hrel
    by_cases hlt : j < n
    · have hjl : j < E.length := by rw [HLE.out]; exact hlt
      have hmm := HQ.out.2.1
      have hdl : j < d.L.length := by rw [HN.out]; exact hlt
      have hQr := HQ1.out.on HBj.out
      have hPr := HP1.out.on HBj.out
      obtain ⟨g, cap', e, _, _, hgl, x0, x1, x2⟩ := QR.at hQr.2.2.1 hjl
      simp only [Value.slice.injEq] at e
      have ha := e.1
      clear e
      subst ha
      obtain ⟨ho, hof⟩ := hQr.2.2.1.s _ (List.getElem_mem hjl)
      have hdj : d.L[j] = ((E[j]).1, (E[j]).2.2) := by simp only [← hmm]; simp [mmE]
      obtain ⟨x, hx⟩ : ∃ x, E[j] = x := ⟨_, rfl⟩
      rw [hx] at x0 x1 x2 ho hof hdj
      obtain ⟨nn, sv, sb, sn⟩ := x
      simp only at x0 x1 x2 ho hof hdj
      obtain ⟨s1, s2, rfl, hs1, hs2'⟩ := slice_form ho
      have hris : Ris d.L := by rw [← hmm]; exact ris_mmE HQ.out.2.2.1.r
      have hmem : (nn, sb, sn) ∈ d.L := by rw [← hdj]; exact List.getElem_mem hdl
      have hlk : lk nn d.L = some (sb, sn) := lk_of hris hmem
      have hwf := HW.out _ hmem
      simp only at hwf
      obtain ⟨gs, rfl⟩ : ∃ gs, sa = some ⟨gs, 0, none⟩ := by
        rcases HO.out.2 with ⟨e, h0⟩ | ⟨gs, cap, cur, e, _⟩
        · have := HN.out
          omega
        · simp only [Value.slice.injEq] at e
          exact ⟨gs, e.1⟩
      have hgb := World.ownsRow.lt HO.out gs rfl
      have cj := World.ownsRow.cells HO.out (g := gs) rfl j (.int .i64 (d.L[j]).1) (by simp [hdl])
      rw [add_plain, Nat.zero_add, hdj] at cj
      simp only at cj
      have Cj := (HBj.out.cell (p := ⟨gs, j, none⟩) hgb.2).trans cj
      have hYlt := HQ1.out.2.2.2.lt
      have C0 := (HBj.out.cell (p := ⟨Y, 0, none⟩) hYlt).trans c0
      have hSy : ∀ m, Calls Try.prog 51 #[.pointer (some ⟨X, 0, none⟩), .int .i64 nn] (wr.drewN m) fun e w' => e = .returned (.int .i64 (sn : Int)) ∧ ∃ k, w' = wr.drewN k := fun m => (dsynced_any (w := wr.drewN m) (hPr.keep (fun _ _ _ => rfl)) hwf).mono (fun e w' hh => ⟨by rw [hlk] at hh; exact hh.1, m, hh.2.symm⟩)
      have hRd := fun m => dread_any (w := wr.drewN m) (hPr.keep (fun _ _ _ => rfl)) hu2.out hwf
      have hred : redD d nn = if d.dead = true then ([], 8) else (sb, 0) := by
        unfold redD
        rw [hlk]
      rw [hred] at hRd
      have HOs := hideD ho
      have hszr := HBj.out.size
      have i1 : (j : Int) < (n : Int) := by omega
      have i2 : (0 : Int) ≤ (j : Int) := by omega
      clear cj hwf hmem hris hmm hx hdj ho hof hred hlk hPr hQr
      go_upto_region 7 with fail
      go_quiet (first | exact hSy _)
      have hbr : Below w1.heap.size w1 (wr.drewN nq) := ⟨HBj.out.os, HBj.out.tape, HBj.out.output, by simpa using HBj.out.size, HBj.out.block⟩
      have hRr : Rd (wr.drewN nq) (.slice s1 sb.length s2) sb := rd_on HOs.out.rd ⟨rfl, rfl, rfl, Nat.le_refl _, fun _ _ => rfl⟩
      have hRd := hRd nq
      have X1 : (wr.drewN nq).cell? ⟨g, j * 3 + 1, none⟩ = some (.slice s1 sb.length s2) := x1
      have Y0 : (wr.drewN nq).cell? ⟨Y, 0, none⟩ = some (.slice (some ⟨g, 0, none⟩) n cap) := C0
      have S1 : (wr.drewN nq).cell? ⟨gs, j, none⟩ = some (.int .i64 nn) := Cj
      have hg3 : g < (wr.drewN nq).heap.size := hgl
      have hY3 : Y < (wr.drewN nq).heap.size := by show Y < wr.heap.size; omega
      generalize wr.drewN nq = w3 at hbr hRr hRd X1 Y0 S1 hg3 hY3 ⊢
      clear hSy x0 x1 x2 Cj C0
      by_cases hd : d.dead = true
      · rw [if_pos hd] at hRd
        go_upto_region 10 with (first
          | (go_at_call 30; refine hRd.mono ?_; rintro e w4 ⟨⟨v4, rfl, o4⟩, b4⟩; clear hRd; obtain ⟨r1, r2, rfl, _, _⟩ := slice_form (o4))
          | fail)
        have HE4 := hideD (hbr.trans (b4.mono hbr.size))
        clear o4 b4
        go_wp2
        go_quiet (fail)
        go_wp2
        go_roundw
        case rel => exact ⟨j + 1, hlt, by go_num, hideD (by
          have h := HE4.out
          exact ⟨h.os, h.tape, h.output, by simpa using h.size, h.block⟩)⟩
        case measure => simp [RowKit.intOf]; omega
      · rw [if_neg hd] at hRd
        go_upto_region 10 with (first
          | (go_at_call 30; refine hRd.mono ?_; rintro e w4 ⟨⟨v4, rfl, o4⟩, b4⟩; clear hRd; obtain ⟨r1, r2, rfl, _, _⟩ := slice_form (o4))
          | fail)
        have HE4 := hideD (hbr.trans (b4.mono hbr.size))
        have hc1 : ∀ m, (convert 41 9 (.slice r1 sb.length r2)).run Try.prog (w4.drewN m) = .ok (.string (strOfNums sb)) (w4.drewN m) := fun m => (show Rd (w4.drewN m) _ _ from rd_on o4.rd ⟨rfl, rfl, rfl, Nat.le_refl _, fun _ _ => rfl⟩).convert Try.underlying41 Try.underlying5 Try.underlying9
        have hc2 : ∀ m, (convert 41 9 (.slice s1 sb.length s2)).run Try.prog (w4.drewN m) = .ok (.string (strOfNums sb)) (w4.drewN m) := fun m => (show Rd (w4.drewN m) _ _ from rd_on (rd_on hRr b4) ⟨rfl, rfl, rfl, Nat.le_refl _, fun _ _ => rfl⟩).convert Try.underlying41 Try.underlying5 Try.underlying9
        have Y4 := (b4.cell (p := ⟨Y, 0, none⟩) hY3).trans Y0
        have X4 := (b4.cell (p := ⟨g, j * 3 + 1, none⟩) hg3).trans X1
        clear o4 b4 hRr
        go_quiet (fail)
        go_wp2
        go_roundw
        case rel => exact ⟨j + 1, hlt, by go_num, hideD (by
          have h := HE4.out
          exact ⟨h.os, h.tape, h.output, by simpa using h.size, h.block⟩)⟩
        case measure => simp [RowKit.intOf]; omega
    · have k1 : ¬ (j : Int) < (n : Int) := by omega
      have HEND := hideD (HB.out.trans (HBj.out.mono HB.out.size))
      go_wp2
      go_ret
      exact ⟨rfl, HEND.out⟩
end Go.Proofs.Ytpblcahcpobicaa

/- Two disks side by side; what a call of the law's leaves. -/
namespace Go.Proofs.Ytpblcahcpobicaa
open Go.RowKit Go.Lib Go.Maps
set_option linter.unusedSimpArgs false
set_option linter.unusedVariables false

/-- The program's disk d in block X, the document's disk e in block Y, in memory apart, all of it in blocks of A. -/
def T2 (w : World) (A : Nat → Prop) (X Y : Nat) (d e : Dk) : Prop := ∃ F G : Nat → Prop, PD w X F d ∧ QD w Y G e ∧ (∀ j, F j → A j ∧ j < w.heap.size ∧ ¬ G j) ∧ ∀ j, G j → A j ∧ j < w.heap.size
theorem PD.clip {w : World} {X : Nat} {F : Nat → Prop} {d : Dk} (h : PD w X F d) : PD w X (cF F w) d := h.mono (fun j hj hF => ⟨hF, hj⟩)
theorem QD.clip {w : World} {Y : Nat} {G : Nat → Prop} {d : Dk} (h : QD w Y G d) : QD w Y (cF G w) d := h.keep (fun _ _ _ => rfl) (fun j hj hG => ⟨hG, hj⟩)
theorem QD.on {w w' : World} {Y : Nat} {G : Nat → Prop} {d : Dk} (h : QD w Y G d) (hb : Below w.heap.size w w') : QD w' Y G d := h.keep (fun b _ hlt => hb.block b hlt) (fun _ _ h => h)
theorem T2.keep {w w' : World} {A A' : Nat → Prop} {X Y : Nat} {d e : Dk} (h : T2 w A X Y d e) (hs : w.heap.size ≤ w'.heap.size) (hk : ∀ j, A j → j < w.heap.size → w'.heap[j]? = w.heap[j]?) (hA : ∀ j, j < w.heap.size → A j → A' j) : T2 w' A' X Y d e := by
  obtain ⟨F, G, h1, h2, h3, h4⟩ := h
  exact ⟨F, G, h1.keep (fun b hb hlt => hk b (h3 b hb).1 hlt), h2.keep (fun b hb hlt => hk b (h4 b hb).1 hlt) (fun _ _ h => h), fun j hj => by have := h3 j hj; exact ⟨hA j this.2.1 this.1, by omega, this.2.2⟩, fun j hj => by have := h4 j hj; exact ⟨hA j this.2 this.1, by omega⟩⟩
theorem T2.on {w w' : World} {A : Nat → Prop} {X Y : Nat} {d e : Dk} (h : T2 w A X Y d e) (hb : Below w.heap.size w w') : T2 w' A X Y d e := h.keep hb.size (fun j _ hlt => hb.block j hlt) (fun _ _ h => h)
/-- What is new is none of theirs. -/
theorem T2.but {w : World} {A : Nat → Prop} {X Y : Nat} {d e : Dk} (h : T2 w A X Y d e) {N : Nat} (hN : w.heap.size ≤ N) : T2 w (fun j => A j ∧ j ≠ N) X Y d e := h.keep (Nat.le_refl _) (fun _ _ _ => rfl) (fun j hj hA => ⟨hA, by omega⟩)
theorem T2.x {w : World} {A : Nat → Prop} {X Y : Nat} {d e : Dk} (h : T2 w A X Y d e) : A X ∧ X < w.heap.size := by
  obtain ⟨F, G, h1, h2, h3, h4⟩ := h
  obtain ⟨mv, E, fz, q1, _⟩ := h1
  exact ⟨(h3 X q1).1, (h3 X q1).2.1⟩
theorem T2.y {w : World} {A : Nat → Prop} {X Y : Nat} {d e : Dk} (h : T2 w A X Y d e) : A Y ∧ Y < w.heap.size := by
  obtain ⟨F, G, h1, h2, h3, h4⟩ := h
  obtain ⟨Lv, E, q1, _⟩ := h2
  exact h4 Y q1
/-- A step of the program's disk. -/
theorem T2.stepP {w : World} {A : Nat → Prop} {X Y : Nat} {d d' e : Dk} {f : Nat} {args : Array Value} {Q : Ending → World → Prop} (h : T2 w A X Y d e) (hA : ∀ j, w.heap.size ≤ j → A j)
    (hc : ∀ F, PD w X F d → (∀ j, F j → A j) → Calls Try.prog f args w fun r w' => Q r w' ∧ PD w' X (nF F w) d' ∧ Kf F w w') : Calls Try.prog f args w fun r w' => Q r w' ∧ T2 w' A X Y d' e ∧ Kf A w w' := by
  obtain ⟨F, G, h1, h2, h3, h4⟩ := h
  refine (hc F h1 (fun j hj => (h3 j hj).1)).mono ?_
  rintro r w' ⟨hq, p', k⟩
  have hs := k.size
  refine ⟨hq, ⟨cF (nF F w) w', G, p'.clip, h2.keep (fun b hb hlt => k.block b hlt (fun hF => (h3 b hF).2.2 hb)) (fun _ _ h => h), fun j hj => ?_, fun j hj => ?_⟩, k.mono (fun j hj => (h3 j hj).1)⟩
  · obtain ⟨hj1 | hj1, hj2⟩ := hj
    · exact ⟨(h3 j hj1).1, hj2, (h3 j hj1).2.2⟩
    · exact ⟨hA j hj1, hj2, fun hG => by have := (h4 j hG).2; omega⟩
  · have := h4 j hj
    exact ⟨this.1, by omega⟩
/-- A step of the document's disk. -/
theorem T2.stepQ {w : World} {A : Nat → Prop} {X Y : Nat} {d e e' : Dk} {f : Nat} {args : Array Value} {Q : Ending → World → Prop} (h : T2 w A X Y d e) (hA : ∀ j, w.heap.size ≤ j → A j)
    (hc : ∀ G, QD w Y G e → (∀ j, G j → A j) → Calls Try.prog f args w fun r w' => Q r w' ∧ QD w' Y (nF G w) e' ∧ Kf G w w') : Calls Try.prog f args w fun r w' => Q r w' ∧ T2 w' A X Y d e' ∧ Kf A w w' := by
  obtain ⟨F, G, h1, h2, h3, h4⟩ := h
  refine (hc G h2 (fun j hj => (h4 j hj).1)).mono ?_
  rintro r w' ⟨hq, p', k⟩
  have hs := k.size
  refine ⟨hq, ⟨F, cF (nF G w) w', h1.keep (fun b hb hlt => k.block b hlt (fun hG => (h3 b hb).2.2 hG)), p'.clip, fun j hj => ?_, fun j hj => ?_⟩, k.mono (fun j hj => (h4 j hj).1)⟩
  · have := h3 j hj
    refine ⟨this.1, by omega, ?_⟩
    rintro ⟨hG | hG, _⟩
    · exact this.2.2 hG
    · omega
  · obtain ⟨hj1 | hj1, hj2⟩ := hj
    · exact ⟨(h4 j hj1).1, hj2⟩
    · exact ⟨hA j hj1, hj2⟩
theorem pt_len_of {β : Type} {n : Int} {b s : β} : ∀ {l : List (Int × β)}, Ris l → lk n l = some s → (pt n b l).length = l.length
  | [], _, h => by simp [lk] at h
  | y :: r, hs, h => by
    obtain ⟨h1, h2⟩ := List.pairwise_cons.1 hs
    unfold lk at h
    unfold pt
    by_cases he : y.1 = n
    · rw [if_neg (by omega), if_pos he]
      rfl
    · rw [if_neg he] at h
      have hm := h1 _ (lk_mem h)
      simp only at hm
      rw [if_neg (by omega), if_neg he, List.length_cons, List.length_cons, pt_len_of h2 h]
/-- Bytes as bytes are, and bounds. -/
structure Ok (d : Dk) (n u : Nat) : Prop where
  r : Ris d.L
  s : ∀ x ∈ d.L, x.2.2 ≤ x.2.1.length ∧ (Lit.int .i64 x.1).wf = true
  room : 0 ≤ d.room ∧ d.room ≤ 9223372036854775807
  fuse : -1 ≤ d.fuse ∧ d.fuse ≤ 9223372036854775807
  len : d.L.length ≤ n
  us : usM d.L ≤ u
theorem Ok.mono {d : Dk} {n u n' u' : Nat} (h : Ok d n u) (h1 : n ≤ n') (h2 : u ≤ u') : Ok d n' u' := ⟨h.r, h.s, h.room, h.fuse, Nat.le_trans h.len h1, Nat.le_trans h.us h2⟩
theorem Ok.L {d e : Dk} {n u : Nat} (h : Ok d n u) (h1 : e.L = d.L) (h2 : e.room = d.room) (h3 : -1 ≤ e.fuse ∧ e.fuse ≤ 9223372036854775807) : Ok e n u := by
  constructor
  · rw [h1]; exact h.r
  · rw [h1]; exact h.s
  · rw [h2]; exact h.room
  · exact h3
  · rw [h1]; exact h.len
  · rw [h1]; exact h.us
theorem brn_fuse {d : Dk} (h : -1 ≤ d.fuse ∧ d.fuse ≤ 9223372036854775807) : -1 ≤ (brn d).fuse ∧ (brn d).fuse ≤ 9223372036854775807 := by
  unfold brn
  split
  · exact h
  · split
    · simp only
      omega
    · exact h
theorem Ok.brn {d : Dk} {n u : Nat} (h : Ok d n u) : Ok (brn d) n u := h.L (brn_L d).1 (brn_L d).2 (brn_fuse h.fuse)
theorem ok_new (n : Int) (hn : n ≤ 9223372036854775807) : Ok ⟨[], max n 0, -1, false⟩ 0 0 := ⟨List.Pairwise.nil, fun x hx => absurd hx (by simp), by simp only; omega, by simp, by simp, by simp [usM]⟩
theorem Ok.app {d : Dk} {n u : Nat} (h : Ok d n u) {k : Int} (hk : (Lit.int .i64 k).wf = true) (bs : List Int) : Ok (appD d k bs).1 (n + 1) (u + bs.length) := by
  unfold appD
  split
  · exact h.mono (by omega) (by omega)
  · split
    · exact h.mono (by omega) (by omega)
    · split
      · exact h.mono (by omega) (by omega)
      · split
        · exact h.brn.mono (by omega) (by omega)
        · have h1 := pt_len k (((lk k d.L).getD ([], 0)).1 ++ bs, ((lk k d.L).getD ([], 0)).2) d.L
          have h2 := usM_app (n := k) (bs := bs) h.r (show (lk k d.L).getD ([], 0) = (((lk k d.L).getD ([], 0)).1, ((lk k d.L).getD ([], 0)).2) from rfl)
          have h3 := h.len
          have h4 := h.us
          refine ⟨ris_pt h.r, fun x hx => ?_, by show 0 ≤ (_root_.Go.Proofs.Ytpblcahcpobicaa.brn d).room ∧ (_root_.Go.Proofs.Ytpblcahcpobicaa.brn d).room ≤ _; rw [(brn_L d).2]; exact h.room, brn_fuse h.fuse, by simp only; omega, by simp only; omega⟩
          rcases mem_pt h.r hx with rfl | ⟨hx, _⟩
          · refine ⟨?_, hk⟩
            simp only [List.length_append]
            cases hl : lk k d.L with
            | none => simp
            | some s =>
              have := (h.s _ (lk_mem hl)).1
              simp only at this
              simp only [Option.getD_some]
              omega
          · exact h.s x hx
theorem Ok.syn {d : Dk} {n u : Nat} (h : Ok d n u) {k : Int} (hk : (Lit.int .i64 k).wf = true) : Ok (opM d k (synF d k)).1 n u := by
  unfold opM
  split
  · exact h
  · cases hl : lk k d.L with
    | none => exact h
    | some s =>
      simp only
      split
      · exact h.brn
      · have h2 := usM_syn (k := s.1.length) h.r hl
        have h3 := h.us
        refine ⟨ris_pt h.r, fun x hx => ?_, by show 0 ≤ (_root_.Go.Proofs.Ytpblcahcpobicaa.brn d).room ∧ (_root_.Go.Proofs.Ytpblcahcpobicaa.brn d).room ≤ _; rw [(brn_L d).2]; exact h.room, brn_fuse h.fuse, ?_, by show usM (pt k _ d.L) ≤ u; omega⟩
        · rcases mem_pt h.r hx with rfl | ⟨hx, _⟩
          · exact ⟨Nat.le_refl _, hk⟩
          · exact h.s x hx
        · show (pt k (s.1, s.1.length) d.L).length ≤ n
          rw [pt_len_of h.r hl]
          exact h.len
theorem Ok.drp {d : Dk} {n u : Nat} (h : Ok d n u) (k : Int) : Ok (opM d k (drpF d k)).1 n u := by
  unfold opM
  split
  · exact h
  · cases hl : lk k d.L with
    | none => exact h
    | some s =>
      simp only
      split
      · exact h.brn
      · have h2 := (usM_del h.r hl).1
        have h3 := h.us
        have h4 := dl_len k d.L
        have h5 := h.len
        exact ⟨ris_dl h.r, fun x hx => h.s x (mem_dl.1 hx).1, by show 0 ≤ (_root_.Go.Proofs.Ytpblcahcpobicaa.brn d).room ∧ (_root_.Go.Proofs.Ytpblcahcpobicaa.brn d).room ≤ _; rw [(brn_L d).2]; exact h.room, brn_fuse h.fuse, by show (dl k d.L).length ≤ n; omega, by show usM (dl k d.L) ≤ u; omega⟩
theorem crL_ok {kp : Nat → Int} : ∀ {l : List (Int × Sm)} {i : Nat} {a : Int × Sm}, (∀ x ∈ l, x.2.2 ≤ x.2.1.length) → a ∈ crL kp i l → a.2.2 ≤ a.2.1.length
  | [], i, a, _, h => by simp [crL] at h
  | x :: r, i, a, hs, h => by
    rw [crL_cons] at h
    have hx := kpN_le (kp i) (hs x List.mem_cons_self)
    split at h
    · exact crL_ok (fun y hy => hs y (List.mem_cons_of_mem _ hy)) h
    · rcases List.mem_cons.1 h with rfl | h
      · simp only [List.length_take]
        omega
      · exact crL_ok (fun y hy => hs y (List.mem_cons_of_mem _ hy)) h
theorem Ok.cr {d : Dk} {n u : Nat} (h : Ok d n u) (ls : List Int) : Ok (crD d ls) n u := by
  obtain ⟨h1, h2⟩ := crL_us (kp := kpA ls) 0 (fun x hx => (h.s x hx).1)
  have h3 := h.us
  have h4 := h.len
  refine ⟨crL_ris h.r, fun x hx => ⟨crL_ok (fun x hx => (h.s x hx).1) hx, ?_⟩, h.room, by simp [crD], by show (crL _ _ _).length ≤ n; omega, by show usM (crL _ _ _) ≤ u; omega⟩
  obtain ⟨y, hy, e⟩ := crL_mem hx
  rw [e]
  exact (h.s y hy).2
theorem Ok.spo {d : Dk} {n u : Nat} (h : Ok d n u) {k : Int} (hk : (Lit.int .i64 k).wf = true) (a b : Int) : Ok (spoD d k a b).1 n u := by
  unfold spoD
  split
  · exact h
  · rename_i hc
    cases hl : lk k d.L with
    | none =>
      rw [hl] at hc
      simp only [Option.getD_none, List.length_nil] at hc
      omega
    | some s =>
      simp only [Option.getD_some]
      have h2 := usM_pt k ((s.1.set a.toNat (xrB (s.1.getD a.toNat 0) b)), s.2) h.r
      rw [hl] at h2
      simp only [Option.getD_some, List.length_set] at h2
      have h3 := h.us
      refine ⟨ris_pt h.r, fun x hx => ?_, h.room, h.fuse, ?_, by simp only; omega⟩
      · rcases mem_pt h.r hx with rfl | ⟨hx, _⟩
        · refine ⟨?_, hk⟩
          simp only [List.length_set]
          exact (h.s _ (lk_mem hl)).1
        · exact h.s x hx
      · simp only
        rw [pt_len_of h.r hl]
        exact h.len

/-- What a call leaves. -/
def doD (d : Dk) (x : OpM) : Dk :=
  if x.kind = 1 then (appD d x.a x.bs).1 else if x.kind = 2 then (opM d x.a (synF d x.a)).1 else if x.kind = 3 then (opM d x.a (drpF d x.a)).1
  else if x.kind = 5 then { d with fuse := max x.a (-1) } else if x.kind = 6 then { d with room := max x.a 0 } else if x.kind = 7 then crD d x.ls else if x.kind = 8 then (spoD d x.a x.b x.y).1 else d
theorem wf_in {k : Int} (h : (Lit.int .i64 k).wf = true) : -9223372036854775808 ≤ k ∧ k ≤ 9223372036854775807 := by simpa [Lit.wf, IntKind.min, IntKind.max, IntKind.signed, IntKind.bits] using h
theorem Ok.do {d : Dk} {n u : Nat} (h : Ok d n u) {x : OpM} (hx : WfO x) : Ok (doD d x) (n + 1) (u + x.bs.length) := by
  have hm := fun (e : Dk) (k : Ok e n u) => k.mono (show n ≤ n + 1 by omega) (show u ≤ u + x.bs.length by omega)
  have ha := wf_in hx.a
  unfold doD
  split
  · exact h.app hx.a _
  split
  · exact hm _ (h.syn hx.a)
  split
  · exact hm _ (h.drp _)
  split
  · exact hm _ (h.L rfl rfl (by simp only; omega))
  split
  · exact hm _ ⟨h.r, h.s, by simp only; omega, h.fuse, h.len, h.us⟩
  split
  · exact hm _ (h.cr _)
  split
  · exact hm _ (h.spo hx.a _ _)
  · exact hm _ h
end Go.Proofs.Ytpblcahcpobicaa

/- The document's disk: Spoil. -/
namespace Go.Proofs.Ytpblcahcpobicaa
open Go.RowKit Go.Lib Go.Maps
set_option linter.unusedSimpArgs false
set_option linter.unusedVariables false
attribute [local go_sem ↓] Go.wp_at_zero Go.wp_at_succ


theorem T2.drew {w : World} {A : Nat → Prop} {X Y : Nat} {d e : Dk} (h : T2 w A X Y d e) : T2 w.drew A X Y d e := h.keep (Nat.le_refl _) (fun _ _ _ => rfl) (fun _ _ h => h)
theorem T2.back {w : World} {A : Nat → Prop} {X Y N : Nat} {d e : Dk} (h : T2 w (fun j => A j ∧ j ≠ N) X Y d e) : T2 w A X Y d e := h.keep (Nat.le_refl _) (fun _ _ _ => rfl) (fun _ _ h => h.1)
theorem Kf.back {w w1 w' : World} {A : Nat → Prop} {N : Nat} (h : Kf (fun j => A j ∧ j ≠ N) w1 w') (ha : Below w.heap.size w w1) : Kf A w w' := (Kf.of ha (Nat.le_refl _)).trans (h.mono (fun j hj => hj.1))
section
variable {w0 w W : World} {A : Nat → Prop} {X Y N : Nat} {d d' e : Dk} {x : OpM} {bv lv : Value}
theorem t2_app (h : T2 W A X Y d e) (ok : Ok d 1000 500000) (hA : ∀ j, W.heap.size ≤ j → A j) (hx : (Lit.int .i64 x.a).wf = true) (hb : x.bs.length ≤ 50000) (hv : ∀ F w1, (∀ j, F j → A j) → Kf F W w1 → Rd w1 bv x.bs) :
    Calls Try.prog 26 #[.pointer (some ⟨X, 0, none⟩), .int .i64 x.a, bv] W fun r w' => r = .returned (.int .i64 (appD d x.a x.bs).2) ∧ T2 w' A X Y (appD d x.a x.bs).1 e ∧ Kf A W w' :=
  h.stepP (Q := fun r _ => r = .returned (.int .i64 (appD d x.a x.bs).2)) hA (fun F hp hF => dapp_any hp ok.fuse.2 ok.room hx (by have := ok.len; omega) (by have := ok.us; omega) (by omega) (fun w1 k => hv F w1 hF k))
theorem t2_appq (h : T2 W A X Y e d) (ok : Ok d 1000 500000) (hA : ∀ j, W.heap.size ≤ j → A j) (hb : x.bs.length ≤ 50000) (hv : ∀ F w1, (∀ j, F j → A j) → Kf F W w1 → Rd w1 bv x.bs) :
    Calls Try.prog 27 #[.pointer (some ⟨Y, 0, none⟩), .int .i64 x.a, bv] W fun r w' => r = .returned (.int .i64 (appD d x.a x.bs).2) ∧ T2 w' A X Y e (appD d x.a x.bs).1 ∧ Kf A W w' :=
  h.stepQ (Q := fun r _ => r = .returned (.int .i64 (appD d x.a x.bs).2)) hA (fun F hp hF => qapp_any hp ok.fuse.2 ok.room (by have := ok.len; omega) (by have := ok.us; omega) (by omega) (fun w1 k => hv F w1 hF k))
end

theorem T2.cY {w : World} {A : Nat → Prop} {X Y : Nat} {d e : Dk} (h : T2 w A X Y d e) : ∃ Lv, Bn w Y [Lv, .int .i64 e.room, .int .i64 e.fuse, .bool e.dead] := by
  obtain ⟨F, G, h1, ⟨Lv, E, q1, q2, q3, q4⟩, h3, h4⟩ := h
  exact ⟨Lv, q4⟩
theorem T2.setF {w : World} {A : Nat → Prop} {X Y : Nat} {d e : Dk} (h : T2 w A X Y d e) (m : Int) : T2 (w.setCell ⟨Y, 2, none⟩ (.int .i64 m)) A X Y d { e with fuse := m } ∧ Kf A w (w.setCell ⟨Y, 2, none⟩ (.int .i64 m)) := by
  obtain ⟨F, G, h1, ⟨Lv, E, q1, q2, q3, q4⟩, h3, h4⟩ := h
  have hY := h4 Y q1
  have hsz : (w.setCell ⟨Y, 2, none⟩ (.int .i64 m)).heap.size = w.heap.size := by simp
  refine ⟨⟨F, G, h1.keep (fun b hb hlt => Below.heap_setCell _ _ _ _ (fun e => (h3 b hb).2.2 (by have e : b = Y := e; rw [e]; exact q1))), ⟨Lv, E, q1, q2, q3.setY _, q4.set (i := 2) (by simp) _⟩, fun j hj => by rw [hsz]; exact h3 j hj, fun j hj => by rw [hsz]; exact h4 j hj⟩, (Kf.refl A w).set hY.1 _⟩
section
variable {W : World} {A : Nat → Prop} {X Y : Nat} {d e : Dk}
theorem t2_fuse (h : T2 W A X Y d e) (hA : ∀ j, W.heap.size ≤ j → A j) (n : Int) :
    Calls Try.prog 18 #[.pointer (some ⟨X, 0, none⟩), .int .i64 n] W fun r w' => r = .returned (.tuple #[]) ∧ T2 w' A X Y { d with fuse := max n (-1) } e ∧ Kf A W w' :=
  h.stepP (Q := fun r _ => r = .returned (.tuple #[])) hA (fun F hp hF => (dfuse_any hp n).mono (fun r w' hh => ⟨hh.1, hh.2.1.mono (fun j _ hj => .inl hj), hh.2.2⟩))
end
end Go.Proofs.Ytpblcahcpobicaa

/- The journal: a segment's payloads as math; rows of bytes, the program's segment in memory. -/
namespace Go.Proofs.Ytpblcahcpobicaa
open Go.RowKit Go.Lib Go.Maps
set_option linter.unusedSimpArgs false
set_option linter.unusedVariables false

/-- What is read of a segment. -/
structure SgM where
  recs : List (List Int)
  begun : Bool
  ended : Bool
  torn : Bool
  wrong : Bool
def jSg0 : SgM := ⟨[], false, false, false, false⟩
/-- A payload taken: at a segment's beginning, or behind it; none, if it may not stand there. -/
def jTk (s : SgM) (p : List Int) (z : Bool) : Option SgM :=
  if p.getD 0 0 = 0 ∧ p.length ≠ 1 then some { s with recs := s.recs ++ [p.drop 1] }
  else if p.getD 0 0 = 1 ∧ p.length = 1 ∧ z = true then some { s with begun := true }
  else if p.getD 0 0 = 2 ∧ p.length = 1 ∧ s.begun = true ∧ s.ended = false then some { s with ended := true }
  else none
/-- A segment's bytes from place a on. -/
def jPrs : Nat → SgM → Nat → List Int → SgM
  | 0, s, _, _ => s
  | f + 1, s, a, r =>
    if r.length = 0 then s
    else if (openS r).2.2 = 5 then { s with torn := true }
    else if (openS r).2.2 ≠ 0 then { s with wrong := true }
    else match jTk s (openS r).1 (decide (a = 0)) with
      | none => { s with wrong := true }
      | some s' => jPrs f s' (a + (openS r).2.1.toNat) (r.drop (openS r).2.1.toNat)
def jPrsB (b : List Int) : SgM := jPrs (b.length + 1) jSg0 0 b
theorem jPrs_end {f : Nat} {s : SgM} {a : Nat} {r : List Int} (h : r.length = 0) : jPrs f s a r = s := by
  cases f with
  | zero => rfl
  | succ f => unfold jPrs; rw [if_pos h]
theorem jPrs_torn {f : Nat} {s : SgM} {a : Nat} {r : List Int} (h : r.length < f) (h0 : r.length ≠ 0) (h5 : (openS r).2.2 = 5) : jPrs f s a r = { s with torn := true } := by
  cases f with
  | zero => omega
  | succ f => unfold jPrs; rw [if_neg h0, if_pos h5]
theorem jPrs_bad {f : Nat} {s : SgM} {a : Nat} {r : List Int} (h : r.length < f) (h0 : r.length ≠ 0) (h5 : (openS r).2.2 ≠ 5) (he : (openS r).2.2 ≠ 0) : jPrs f s a r = { s with wrong := true } := by
  cases f with
  | zero => omega
  | succ f => unfold jPrs; rw [if_neg h0, if_neg h5, if_pos he]
theorem jPrs_no {f : Nat} {s : SgM} {a : Nat} {r : List Int} (h : r.length < f) (h0 : r.length ≠ 0) (he : (openS r).2.2 = 0) (ht : jTk s (openS r).1 (decide (a = 0)) = none) : jPrs f s a r = { s with wrong := true } := by
  cases f with
  | zero => omega
  | succ f =>
    unfold jPrs
    rw [if_neg h0, if_neg (by omega), if_neg (by omega), ht]
theorem openS_size {r : List Int} (he : (openS r).2.2 = 0) : (openS r).2.1 = ((openS r).1.length : Int) + 6 ∧ 1 ≤ (openS r).1.length ∧ (openS r).1.length + 6 ≤ r.length := by
  unfold openS at he ⊢
  split at he
  · simp at he
  · rename_i h4
    rw [if_neg h4]
    split at he
    · simp at he
    · rename_i hb
      rw [if_neg hb]
      split at he
      · simp at he
      · rename_i h6
        rw [if_neg h6]
        split at he
        · simp at he
        · rename_i h7
          rw [if_neg h7]
          have h1 : ¬ tv r < 1 := fun h => hb (.inl h)
          have hlen : ((r.drop 4).take (tv r).toNat).length = (tv r).toNat := by
            rw [List.length_take, List.length_drop]
            omega
          simp only
          rw [hlen]
          omega
theorem jPrs_go {f : Nat} {s s' : SgM} {a : Nat} {r : List Int} (h : r.length < f) (h0 : r.length ≠ 0) (he : (openS r).2.2 = 0) (ht : jTk s (openS r).1 (decide (a = 0)) = some s') :
    ∃ f', (r.drop (openS r).2.1.toNat).length < f' ∧ jPrs f s a r = jPrs f' s' (a + (openS r).2.1.toNat) (r.drop (openS r).2.1.toNat) := by
  cases f with
  | zero => omega
  | succ f =>
    have hsz := openS_size he
    refine ⟨f, by rw [List.length_drop]; omega, ?_⟩
    conv => lhs; unfold jPrs
    rw [if_neg h0, if_neg (by omega), if_neg (by omega), ht]
/-- A row of bytes that may be anywhere in what is told. -/
def rBy (ok : Nat → Prop) (w : World) (x : List Int) (cs : List Value) : Prop := ∃ a c, cs = [.slice a x.length c] ∧ (∀ y, a = some y → ok y.block ∧ y.block < w.heap.size) ∧ Rd w (.slice a x.length c) x
theorem kp_By : Kp rBy := by
  intro ok ok' w w' x cs h hk
  obtain ⟨a, c, h1, h2, a', c', e, h4, h5, h6, h7⟩ := h
  simp only [Value.slice.injEq, true_and] at e
  obtain ⟨rfl, rfl⟩ := e
  refine ⟨a, c, h1, fun y hy => ?_, a, c, rfl, h4, h5, h6, fun y hy i hi => ?_⟩
  · obtain ⟨o1, o2⟩ := h2 y hy
    obtain ⟨o3, o4⟩ := hk _ o1 o2
    refine ⟨o3, ?_⟩
    rcases Nat.lt_or_ge y.block w'.heap.size with h | h
    · exact h
    · rw [Array.getElem?_eq_none h, Array.getElem?_eq_getElem o2] at o4
      cases o4
  · have hc := h7 y hy i hi
    have hb := (hk _ (h2 y hy).1 (h2 y hy).2).2
    exact (World.cell?_of_block (by rw [add_block]; exact hb)).trans hc
end Go.Proofs.Ytpblcahcpobicaa
