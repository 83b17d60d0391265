import Derived.Test.YtpdhmjjmpofphaaDoorWtc02
import Derived.Test.YtpdhmjjmpofphaaDoorWtc05
import Derived.Test.YtpdhmjjmpofphaaDoorWtc06
import Derived.BigQuiet
import Derived.Test.YtpdhmjjmpofphaaDoorWtc04
import Derived.Test.YtpdhmjjmpofphaaDoorWtc01
import Derived.Test.YtpdhmjjmpofphaaDoorWtc03
import Derived.ProofKit
import Derived.OpenShut
import Derived.ShutString
import Derived.ChangeOld
import Derived.SizedLaws
import Derived.Below
import Derived.Test.YtpdhmjjmpofphaaDoorRows
import Derived.Deep.Slices

/- What Clean makes of a tree: the walk. -/
namespace Go.Proofs.YtpdhmjjmpofphaaDoor
open Go.RowKit
set_option linter.unusedSimpArgs false
set_option linter.unusedVariables false

theorem Tryd.infoN : (Tryd.prog.info? 24).map (fun i => (i.zero, i.size, i.bytes)) = some (some (.agg #[.int .i64 0, .int .i64 0, .string ⟨#[]⟩, .slice none 0 0]), 4, 56) := by kernel_rfl

def CleanC (d : Nat) : Prop := ∀ (ok : Nat → Prop) (t : T d) (v : Value) (w : World), RdT ok w d t v →
  Calls Tryd.prog 9 #[v] w fun e w' => ∃ u, e = .returned u ∧ RdT (fun b => w.heap.size ≤ b) w' (d + 1) (cln d t) u ∧ Below w.heap.size w w'

set_option maxRecDepth 100000 in
set_option maxHeartbeats 8000000 in
theorem clean_step (d : Nat) (IH : CleanC d) : CleanC (d + 1) := by
  intro ok t v w h
  obtain ⟨k, n, s, ps, rfl⟩ := T.open t
  obtain ⟨sl, rfl, hp⟩ := rdT_mk.1 h
  obtain ⟨i0, hi, hz0, hz1, hz2⟩ := info_parts Tryd.infoN
  rw [cln_mk]
  by_cases k1 : k = 1
  · subst k1
    rw [if_pos rfl]
    clear hp h
    go_enter Tryd.func9, Tryd.ntmps9
    go_wp2
    exact bodyPost_ret (v := .agg #[.int .i64 1, .int .i64 n, .string ⟨#[]⟩, .slice none 0 0]) (by simp [results, Tryd.results9, go_sem]) rfl ⟨_, rfl, ⟨_, rfl, rdP_none _ _⟩, (((Below.refl _ _).alloc (Nat.le_refl _) _).alloc (by simp) _).alloc (by simp; omega) _⟩
  rw [if_neg k1]
  have e1 : (k == 1) = false := beq_eq_false_iff_ne.2 k1
  by_cases k2 : k = 2
  · subst k2
    rw [if_pos rfl]
    clear hp h
    go_enter Tryd.func9, Tryd.ntmps9
    go_wp2
    exact bodyPost_ret (v := .agg #[.int .i64 2, .int .i64 0, .string s, .slice none 0 0]) (by simp [results, Tryd.results9, go_sem]) rfl ⟨_, rfl, ⟨_, rfl, rdP_none _ _⟩, (((Below.refl _ _).alloc (Nat.le_refl _) _).alloc (by simp) _).alloc (by simp; omega) _⟩
  rw [if_neg k2]
  have e2 : (k == 2) = false := beq_eq_false_iff_ne.2 k2
  by_cases k3 : k = 3
  · subst k3
    rw [if_pos rfl]
    obtain ⟨a, cap, rfl, hlc, hcm, hcell⟩ := hp.form
    have HC : Hid (∀ (i : Nat) (hi : i < ps.length), ∃ b off c0 c1 c2 c3, a = some ⟨b, off, none⟩ ∧ b < w.heap.size ∧ RdT ok w d ps[i] (.agg #[c0, c1, c2, c3]) ∧ w.cell? ⟨b, off + i * 4, none⟩ = some c0 ∧ w.cell? ⟨b, off + i * 4 + 1, none⟩ = some c1 ∧ w.cell? ⟨b, off + i * 4 + 2, none⟩ = some c2 ∧ w.cell? ⟨b, off + i * 4 + 3, none⟩ = some c3) := hcell
    have hLL : ∃ LL : List (T (d + 1)), LL = [prt ps 0] := ⟨_, rfl⟩
    obtain ⟨LL, hLL⟩ := hLL
    have hLn : Hid (LL.length = 1) := by rw [hLL]; rfl
    have HL : Hid (∀ (j : Nat) (hj : j < LL.length), LL[j] = prt ps j) := fun j hj => by
      subst hLL
      match j, hj with
      | 0, _ => rfl
      | 1, hj => first | rfl | simp at hj
      | j + 2, hj => exact absurd hj (by simp)
    rw [← hLL]
    clear hLL hcell
    go_enter Tryd.func9, Tryd.ntmps9
    go_wp2
    go_loopw [32] (fun c wr => ∃ j : Nat, j ≤ 1 ∧ c = .int .i64 (j : Int) ∧ (∃ sv, B4 wr (w.heap.size + 2) (.int .i64 3) (.int .i64 0) (.string ⟨#[]⟩) sv ∧ OwnN wr (w.heap.size + 3) sv (LL.take j)) ∧ B4 wr w.heap.size (.int .i64 3) (.int .i64 n) (.string s) (.slice a ps.length cap) ∧ B4 wr (w.heap.size + 1) (.int .i64 0) (.int .i64 0) (.string ⟨#[]⟩) (.slice none 0 0) ∧ Below w.heap.size w wr) (fun c _ => 1 - (RowKit.intOf c).toNat)
    case atStart =>
      refine ⟨0, by omega, rfl, ⟨_, B4.new _ _ _ _ _ _ _ (by simp), ownN_nil _ _⟩, ?_, ?_, (((Below.refl _ _).alloc (Nat.le_refl _) _).alloc (by simp) _).alloc (by simp; omega) _⟩
      · exact ((B4.new w _ _ _ _ 24 _ rfl).keep ((Below.refl _ _).alloc (Nat.le_refl _) _)).keep ((Below.refl _ _).alloc (Nat.le_refl _) _)
      · exact (B4.new _ _ _ _ _ 24 _ (by simp)).keep ((Below.refl _ _).alloc (Nat.le_refl _) _)
    case round =>
      obtain ⟨j, hj, rfl, ⟨sv, hB2, hO⟩, hB0, hB1, hb⟩ := hrel
      have hln := hLn.out
      have hlen : (LL.take j).length = j := by rw [List.length_take]; omega
      obtain ⟨va, vc, hsv⟩ := hO.form
      rw [hlen] at hsv
      subst hsv
      have hs3 : w.heap.size + 3 ≤ wr.heap.size := by have := hB2.lt; omega
      by_cases hlt : j < 1
      · have i1 : (j : Int) < 1 := by omega
        have i2 : (0 : Int) ≤ (j : Int) := by omega
        have hLj := HL.out j (by omega)
        have htk : LL.take (j + 1) = LL.take j ++ [LL[j]'(by omega)] := List.take_succ_eq_append_getElem (by omega)
        obtain ⟨lj, hlj⟩ : ∃ lj, LL[j]'(by omega) = lj := ⟨_, rfl⟩
        rw [hlj] at hLj htk
        clear hlj
        clear hln
        have bx := (Below.refl wr.heap.size wr).alloc (Nat.le_refl _) (.cells #[.int .i64 0, .int .i64 0, .string ⟨#[]⟩, .slice none 0 0] 24)
        have hX := B4.new wr (.int .i64 0) (.int .i64 0) (.string ⟨#[]⟩) (.slice none 0 0) 24 _ rfl
        have A0 := hB0.keep bx
        have A1 := hB1.keep bx
        have A2 := hB2.keep bx
        have AO := hO.below bx
        have hb1 := hb.alloc hb.size (.cells #[.int .i64 0, .int .i64 0, .string ⟨#[]⟩, .slice none 0 0] 24)
        have hg0 : ∀ g, (Value.slice va j vc).ownBlock = some g → g < wr.heap.size := fun g hg => by obtain ⟨qs, ho, _⟩ := hO; exact (ownsRow_lt ho g hg).2
        by_cases hin : j < ps.length
        · -- a part
          obtain ⟨b, off, c0, c1, c2, c3, rfl, hbl, hr, q0, q1, q2, q3⟩ := HC.out j hin
          have C0 := (hb1.cell (p := ⟨b, off + j * 4, none⟩) hbl).trans q0
          have C1 := (hb1.cell (p := ⟨b, off + j * 4 + 1, none⟩) hbl).trans q1
          have C2 := (hb1.cell (p := ⟨b, off + j * 4 + 2, none⟩) hbl).trans q2
          have C3 := (hb1.cell (p := ⟨b, off + j * 4 + 3, none⟩) hbl).trans q3
          have hcall := IH ok ps[j] _ _ (RdT.below hb1 (Nat.le_refl _) hr)
          have hLc : lj = cln d ps[j] := by rw [hLj]; unfold prt; rw [List.getElem?_eq_getElem hin]
          have i3 : (j : Int) < (ps.length : Int) := by omega
          obtain ⟨a0, a1, a2, a3, _, _, _, _⟩ := id A0
          clear q0 q1 q2 q3 hr hbl hLj
          go_wp2_with (first
            | (go_at_call 9; refine hcall.mono ?_; rintro e w2 ⟨u, rfl, hRu, b2⟩; obtain ⟨ck, cn, cs, cps, hck⟩ := T.open (cln d ps[j]); rw [hck] at hRu; obtain ⟨csl, rfl, hcp⟩ := rdT_mk.1 hRu; obtain ⟨ca, cc, rfl, _⟩ := hcp.form; have D0 := A0.keep b2; have D1 := A1.keep b2; have D2 := A2.keep b2; have DX := hX.keep b2; have bw2 : Below wr.heap.size wr w2 := bx.trans (b2.mono (by simp)); have hb2 := hb1.trans (b2.mono hb1.size); obtain ⟨x0, x1, x2, x3, x4, x5, x6, x7⟩ := id DX; have EX := DX.put (.int .i64 ck) (.int .i64 cn) (.string cs) (.slice ca cps.length cc); obtain ⟨y0, y1, y2, y3, y4, y5, y6, y7⟩ := id EX; have E2 := D2.farPut (X := wr.heap.size) (by omega) (.int .i64 ck) (.int .i64 cn) (.string cs) (.slice ca cps.length cc); obtain ⟨z0, z1, z2, z3, z4, z5, z6, z7⟩ := id E2; have E0 := D0.farPut (X := wr.heap.size) (by omega) (.int .i64 ck) (.int .i64 cn) (.string cs) (.slice ca cps.length cc); have E1 := D1.farPut (X := wr.heap.size) (by omega) (.int .i64 ck) (.int .i64 cn) (.string cs) (.slice ca cps.length cc); have bw3 := below_put bw2 (Nat.le_refl _) (.int .i64 ck) (.int .i64 cn) (.string cs) (.slice ca cps.length cc); have hb3 := below_put hb2 (X := wr.heap.size) (by omega) (.int .i64 ck) (.int .i64 cn) (.string cs) (.slice ca cps.length cc); have hR3 : RdT (fun b => wr.heap.size + 1 ≤ b) (put4 w2 wr.heap.size (.int .i64 ck) (.int .i64 cn) (.string cs) (.slice ca cps.length cc)) (d + 1) lj (.agg #[.int .i64 ck, .int .i64 cn, .string cs, .slice ca cps.length cc]) := (by rw [hLc, hck]; exact RdT.keep (fun b hb _ => ⟨by simpa using hb, heap_put (by have : wr.heap.size + 1 ≤ b := (by simpa using hb); omega) _ _ _ _⟩) hRu); obtain ⟨W3, hW3⟩ : ∃ W3, put4 w2 wr.heap.size (.int .i64 ck) (.int .i64 cn) (.string cs) (.slice ca cps.length cc) = W3 := ⟨_, rfl⟩; rw [hW3] at y0 y1 y2 y3 y4 y5 y6 y7 z0 z1 z2 z3 z4 z5 z6 z7 E0 E1 E2 EX bw3 hb3 hR3; clear hcall a0 a1 a2 a3 C0 C1 C2 C3 D0 D1 D2 DX bw2 hb2 hRu hcp A0 A1 A2 AO hb1 hX bx b2; have hs5 : w.heap.size + 3 ≤ W3.heap.size := Nat.le_trans hs3 bw3.size; obtain ⟨qs, ho4, hql, hqr⟩ := hO.below (bw3.alloc bw3.size (.cells #[.int .i64 ck, .int .i64 cn, .string cs, .slice ca cps.length cc] 24)); rw [hlen] at ho4; have hR4 := RdT.below ((Below.refl W3.heap.size W3).alloc (Nat.le_refl _) (.cells #[.int .i64 ck, .int .i64 cn, .string cs, .slice ca cps.length cc] 24)) (Nat.le_refl _) hR3; clear hO bw3 hR3)
            | (at_builtin; refine wpList_append_lies _ rfl _ _ _ rfl (w.heap.size + 3) 24 i0 (.agg #[.int .i64 0, .int .i64 0, .string ⟨#[]⟩, .slice none 0 0]) 4 56 Tryd.underlying22 hi hz0 hz1 hz2 rfl (by omega) (.slice va j vc) j (celsQ qs) rfl ho4 ⟨W3.heap.size, 0, none⟩ 1 1 [.int .i64 ck, .int .i64 cn, .string cs, .slice ca cps.length cc] rfl rfl (news4 W3 _ _ _ _ _) (by simp [Value.oneCell']) (by omega) (by unfold maxLen; omega) (by omega) (by simp; omega) (W3.heap.size + 1) (by simp) ?_; intro g gcap w5 hown5 hgr5 hat5 hlt5; have OO := OwnN.snoc hlen ho4 hql hqr hown5 hgr5 (by simpa using hat5) hR4 (by omega) (fun x hx => Nat.lt_succ_of_lt (hg0 x hx)); rw [← htk] at OO; have bel5 : Below (w.heap.size + 3) W3 w5 := ((Below.refl _ _).alloc hs5 _).grown hgr5 (by simp; omega) (fun k hk => (World.ownsRow.lt ho4 k hk).1); have G0 := E0.keepB bel5 (by omega); have G1 := E1.keepB bel5 (by omega); have G2 := E2.keepB bel5 (by omega); have hb5 := hb3.trans (bel5.mono (by omega)); obtain ⟨p0, p1, p2, p3, p4, p5, p6, p7⟩ := id G2; clear hown5 hgr5 hat5 hlt5 bel5 ho4 hqr hR4))
          go_roundw
          case rel => exact ⟨j + 1, by omega, by go_num, ⟨_, G2.set3 _, OO.set (by omega) _⟩, G0.far (by omega) _, G1.far (by omega) _, hb5.setCell (by simp; omega) _⟩
          case measure => simp [RowKit.intOf]; omega
        · -- none
          have hLc : lj = none0 := by rw [hLj]; unfold prt; rw [List.getElem?_eq_none (by omega)]
          have i3 : ¬ (j : Int) < (ps.length : Int) := by omega
          obtain ⟨a0, a1, a2, a3, _, _, _, _⟩ := id A0
          obtain ⟨y0, y1, y2, y3, y4, y5, y6, y7⟩ := id hX
          obtain ⟨z0, z1, z2, z3, z4, z5, z6, z7⟩ := id A2
          have hs5 : w.heap.size + 3 ≤ (wr.alloc (.cells #[.int .i64 0, .int .i64 0, .string ⟨#[]⟩, .slice none 0 0] 24)).heap.size := Nat.le_trans hs3 bx.size
          obtain ⟨qs, ho4, hql, hqr⟩ := hO.below (bx.alloc bx.size (.cells #[.int .i64 0, .int .i64 0, .string ⟨#[]⟩, .slice none 0 0] 24))
          rw [hlen] at ho4
          have hR4 : RdT (fun b => wr.heap.size + 1 ≤ b) ((wr.alloc (.cells #[.int .i64 0, .int .i64 0, .string ⟨#[]⟩, .slice none 0 0] 24)).alloc (.cells #[.int .i64 0, .int .i64 0, .string ⟨#[]⟩, .slice none 0 0] 24)) (d + 1) lj (.agg #[.int .i64 0, .int .i64 0, .string ⟨#[]⟩, .slice none 0 0]) := by rw [hLc]; exact rdT_none _ _
          have hnews := news4 (wr.alloc (.cells #[.int .i64 0, .int .i64 0, .string ⟨#[]⟩, .slice none 0 0] 24)) (.int .i64 0) (.int .i64 0) (.string ⟨#[]⟩) (.slice none 0 0) 24
          rw [show (wr.alloc (.cells #[.int .i64 0, .int .i64 0, .string ⟨#[]⟩, .slice none 0 0] 24)).heap.size = wr.heap.size + 1 by simp] at hnews
          clear hLj AO hX hO bx
          go_wp2_with (first
            | (at_builtin; refine wpList_append_lies _ rfl _ _ _ rfl (w.heap.size + 3) 24 i0 (.agg #[.int .i64 0, .int .i64 0, .string ⟨#[]⟩, .slice none 0 0]) 4 56 Tryd.underlying22 hi hz0 hz1 hz2 rfl (by omega) (.slice va j vc) j (celsQ qs) rfl ho4 ⟨wr.heap.size + 1, 0, none⟩ 1 1 [.int .i64 0, .int .i64 0, .string ⟨#[]⟩, .slice none 0 0] rfl rfl hnews (by simp [Value.oneCell']) (by omega) (by unfold maxLen; omega) (by omega) (by simp; omega) (wr.heap.size + 1 + 1) (by simp) ?_; intro g gcap w5 hown5 hgr5 hat5 hlt5; have OO := OwnN.snoc hlen ho4 hql hqr hown5 hgr5 (by simpa using hat5) hR4 (by omega) (fun x hx => Nat.lt_succ_of_lt (hg0 x hx)); rw [← htk] at OO; have bel5 : Below (w.heap.size + 3) (wr.alloc (.cells #[.int .i64 0, .int .i64 0, .string ⟨#[]⟩, .slice none 0 0] 24)) w5 := ((Below.refl _ _).alloc hs5 _).grown hgr5 (by simp; omega) (fun k hk => (World.ownsRow.lt ho4 k hk).1); have G0 := A0.keepB bel5 (by omega); have G1 := A1.keepB bel5 (by omega); have G2 := A2.keepB bel5 (by omega); have hb5 := hb1.trans (bel5.mono (by omega)); obtain ⟨p0, p1, p2, p3, p4, p5, p6, p7⟩ := id G2; clear hown5 hgr5 hat5 hlt5 bel5 ho4 hqr hR4))
          go_roundw
          case rel => exact ⟨j + 1, by omega, by go_num, ⟨_, G2.set3 _, OO.set (by omega) _⟩, G0.far (by omega) _, G1.far (by omega) _, hb5.setCell (by simp; omega) _⟩
          case measure => simp [RowKit.intOf]; omega
      · have i1 : ¬ (j : Int) < 1 := by omega
        have hj2 : j = 1 := by omega
        rw [List.take_of_length_le (by omega)] at hO
        clear hln hlen
        subst hj2
        obtain ⟨z0, z1, z2, z3, z4, z5, z6, z7⟩ := id hB2
        obtain ⟨x0, x1, x2, x3, x4, x5, x6, x7⟩ := id hB1
        have E1 := hB1.put (.int .i64 3) (.int .i64 0) (.string ⟨#[]⟩) (.slice va 1 vc)
        obtain ⟨y0, y1, y2, y3, y4, y5, y6, y7⟩ := id E1
        have bq : Below w.heap.size w (put4 wr (w.heap.size + 1) (.int .i64 3) (.int .i64 0) (.string ⟨#[]⟩) (.slice va 1 vc)) := below_put hb (by omega) _ _ _ _
        have hO2 : OwnN (put4 wr (w.heap.size + 1) (.int .i64 3) (.int .i64 0) (.string ⟨#[]⟩) (.slice va 1 vc)) (w.heap.size + 3) (.slice va 1 vc) LL := hO.keep (fun b hb _ => heap_put (by omega) _ _ _ _)
        clear hB0 hB1 hB2 hO E1
        go_wp2
        exact bodyPost_ret (v := .agg #[.int .i64 3, .int .i64 0, .string ⟨#[]⟩, .slice va 1 vc]) (by simp [results, Tryd.results9, go_sem, y0, y1, y2, y3]) rfl ⟨_, rfl, ⟨_, rfl, OwnN.base hO2.rd (by omega)⟩, bq⟩
  rw [if_neg k3]
  have e3 : (k == 3) = false := beq_eq_false_iff_ne.2 k3
  by_cases k4 : k = 4
  · subst k4
    rw [if_pos rfl]
    obtain ⟨a, cap, rfl, hlc, hcm, hcell⟩ := hp.form
    have HC : Hid (∀ (i : Nat) (hi : i < ps.length), ∃ b off c0 c1 c2 c3, a = some ⟨b, off, none⟩ ∧ b < w.heap.size ∧ RdT ok w d ps[i] (.agg #[c0, c1, c2, c3]) ∧ w.cell? ⟨b, off + i * 4, none⟩ = some c0 ∧ w.cell? ⟨b, off + i * 4 + 1, none⟩ = some c1 ∧ w.cell? ⟨b, off + i * 4 + 2, none⟩ = some c2 ∧ w.cell? ⟨b, off + i * 4 + 3, none⟩ = some c3) := hcell
    have hLL : ∃ LL : List (T (d + 1)), LL = [prt ps 0] := ⟨_, rfl⟩
    obtain ⟨LL, hLL⟩ := hLL
    have hLn : Hid (LL.length = 1) := by rw [hLL]; rfl
    have HL : Hid (∀ (j : Nat) (hj : j < LL.length), LL[j] = prt ps j) := fun j hj => by
      subst hLL
      match j, hj with
      | 0, _ => rfl
      | 1, hj => first | rfl | simp at hj
      | j + 2, hj => exact absurd hj (by simp)
    rw [← hLL]
    clear hLL hcell
    go_enter Tryd.func9, Tryd.ntmps9
    go_wp2
    go_loopw [32] (fun c wr => ∃ j : Nat, j ≤ 1 ∧ c = .int .i64 (j : Int) ∧ (∃ sv, B4 wr (w.heap.size + 2) (.int .i64 4) (.int .i64 0) (.string ⟨#[]⟩) sv ∧ OwnN wr (w.heap.size + 3) sv (LL.take j)) ∧ B4 wr w.heap.size (.int .i64 4) (.int .i64 n) (.string s) (.slice a ps.length cap) ∧ B4 wr (w.heap.size + 1) (.int .i64 0) (.int .i64 0) (.string ⟨#[]⟩) (.slice none 0 0) ∧ Below w.heap.size w wr) (fun c _ => 1 - (RowKit.intOf c).toNat)
    case atStart =>
      refine ⟨0, by omega, rfl, ⟨_, B4.new _ _ _ _ _ _ _ (by simp), ownN_nil _ _⟩, ?_, ?_, (((Below.refl _ _).alloc (Nat.le_refl _) _).alloc (by simp) _).alloc (by simp; omega) _⟩
      · exact ((B4.new w _ _ _ _ 24 _ rfl).keep ((Below.refl _ _).alloc (Nat.le_refl _) _)).keep ((Below.refl _ _).alloc (Nat.le_refl _) _)
      · exact (B4.new _ _ _ _ _ 24 _ (by simp)).keep ((Below.refl _ _).alloc (Nat.le_refl _) _)
    case round =>
      obtain ⟨j, hj, rfl, ⟨sv, hB2, hO⟩, hB0, hB1, hb⟩ := hrel
      have hln := hLn.out
      have hlen : (LL.take j).length = j := by rw [List.length_take]; omega
      obtain ⟨va, vc, hsv⟩ := hO.form
      rw [hlen] at hsv
      subst hsv
      have hs3 : w.heap.size + 3 ≤ wr.heap.size := by have := hB2.lt; omega
      by_cases hlt : j < 1
      · have i1 : (j : Int) < 1 := by omega
        have i2 : (0 : Int) ≤ (j : Int) := by omega
        have hLj := HL.out j (by omega)
        have htk : LL.take (j + 1) = LL.take j ++ [LL[j]'(by omega)] := List.take_succ_eq_append_getElem (by omega)
        obtain ⟨lj, hlj⟩ : ∃ lj, LL[j]'(by omega) = lj := ⟨_, rfl⟩
        rw [hlj] at hLj htk
        clear hlj
        clear hln
        have bx := (Below.refl wr.heap.size wr).alloc (Nat.le_refl _) (.cells #[.int .i64 0, .int .i64 0, .string ⟨#[]⟩, .slice none 0 0] 24)
        have hX := B4.new wr (.int .i64 0) (.int .i64 0) (.string ⟨#[]⟩) (.slice none 0 0) 24 _ rfl
        have A0 := hB0.keep bx
        have A1 := hB1.keep bx
        have A2 := hB2.keep bx
        have AO := hO.below bx
        have hb1 := hb.alloc hb.size (.cells #[.int .i64 0, .int .i64 0, .string ⟨#[]⟩, .slice none 0 0] 24)
        have hg0 : ∀ g, (Value.slice va j vc).ownBlock = some g → g < wr.heap.size := fun g hg => by obtain ⟨qs, ho, _⟩ := hO; exact (ownsRow_lt ho g hg).2
        by_cases hin : j < ps.length
        · -- a part
          obtain ⟨b, off, c0, c1, c2, c3, rfl, hbl, hr, q0, q1, q2, q3⟩ := HC.out j hin
          have C0 := (hb1.cell (p := ⟨b, off + j * 4, none⟩) hbl).trans q0
          have C1 := (hb1.cell (p := ⟨b, off + j * 4 + 1, none⟩) hbl).trans q1
          have C2 := (hb1.cell (p := ⟨b, off + j * 4 + 2, none⟩) hbl).trans q2
          have C3 := (hb1.cell (p := ⟨b, off + j * 4 + 3, none⟩) hbl).trans q3
          have hcall := IH ok ps[j] _ _ (RdT.below hb1 (Nat.le_refl _) hr)
          have hLc : lj = cln d ps[j] := by rw [hLj]; unfold prt; rw [List.getElem?_eq_getElem hin]
          have i3 : (j : Int) < (ps.length : Int) := by omega
          obtain ⟨a0, a1, a2, a3, _, _, _, _⟩ := id A0
          clear q0 q1 q2 q3 hr hbl hLj
          go_wp2_with (first
            | (go_at_call 9; refine hcall.mono ?_; rintro e w2 ⟨u, rfl, hRu, b2⟩; obtain ⟨ck, cn, cs, cps, hck⟩ := T.open (cln d ps[j]); rw [hck] at hRu; obtain ⟨csl, rfl, hcp⟩ := rdT_mk.1 hRu; obtain ⟨ca, cc, rfl, _⟩ := hcp.form; have D0 := A0.keep b2; have D1 := A1.keep b2; have D2 := A2.keep b2; have DX := hX.keep b2; have bw2 : Below wr.heap.size wr w2 := bx.trans (b2.mono (by simp)); have hb2 := hb1.trans (b2.mono hb1.size); obtain ⟨x0, x1, x2, x3, x4, x5, x6, x7⟩ := id DX; have EX := DX.put (.int .i64 ck) (.int .i64 cn) (.string cs) (.slice ca cps.length cc); obtain ⟨y0, y1, y2, y3, y4, y5, y6, y7⟩ := id EX; have E2 := D2.farPut (X := wr.heap.size) (by omega) (.int .i64 ck) (.int .i64 cn) (.string cs) (.slice ca cps.length cc); obtain ⟨z0, z1, z2, z3, z4, z5, z6, z7⟩ := id E2; have E0 := D0.farPut (X := wr.heap.size) (by omega) (.int .i64 ck) (.int .i64 cn) (.string cs) (.slice ca cps.length cc); have E1 := D1.farPut (X := wr.heap.size) (by omega) (.int .i64 ck) (.int .i64 cn) (.string cs) (.slice ca cps.length cc); have bw3 := below_put bw2 (Nat.le_refl _) (.int .i64 ck) (.int .i64 cn) (.string cs) (.slice ca cps.length cc); have hb3 := below_put hb2 (X := wr.heap.size) (by omega) (.int .i64 ck) (.int .i64 cn) (.string cs) (.slice ca cps.length cc); have hR3 : RdT (fun b => wr.heap.size + 1 ≤ b) (put4 w2 wr.heap.size (.int .i64 ck) (.int .i64 cn) (.string cs) (.slice ca cps.length cc)) (d + 1) lj (.agg #[.int .i64 ck, .int .i64 cn, .string cs, .slice ca cps.length cc]) := (by rw [hLc, hck]; exact RdT.keep (fun b hb _ => ⟨by simpa using hb, heap_put (by have : wr.heap.size + 1 ≤ b := (by simpa using hb); omega) _ _ _ _⟩) hRu); obtain ⟨W3, hW3⟩ : ∃ W3, put4 w2 wr.heap.size (.int .i64 ck) (.int .i64 cn) (.string cs) (.slice ca cps.length cc) = W3 := ⟨_, rfl⟩; rw [hW3] at y0 y1 y2 y3 y4 y5 y6 y7 z0 z1 z2 z3 z4 z5 z6 z7 E0 E1 E2 EX bw3 hb3 hR3; clear hcall a0 a1 a2 a3 C0 C1 C2 C3 D0 D1 D2 DX bw2 hb2 hRu hcp A0 A1 A2 AO hb1 hX bx b2; have hs5 : w.heap.size + 3 ≤ W3.heap.size := Nat.le_trans hs3 bw3.size; obtain ⟨qs, ho4, hql, hqr⟩ := hO.below (bw3.alloc bw3.size (.cells #[.int .i64 ck, .int .i64 cn, .string cs, .slice ca cps.length cc] 24)); rw [hlen] at ho4; have hR4 := RdT.below ((Below.refl W3.heap.size W3).alloc (Nat.le_refl _) (.cells #[.int .i64 ck, .int .i64 cn, .string cs, .slice ca cps.length cc] 24)) (Nat.le_refl _) hR3; clear hO bw3 hR3)
            | (at_builtin; refine wpList_append_lies _ rfl _ _ _ rfl (w.heap.size + 3) 24 i0 (.agg #[.int .i64 0, .int .i64 0, .string ⟨#[]⟩, .slice none 0 0]) 4 56 Tryd.underlying22 hi hz0 hz1 hz2 rfl (by omega) (.slice va j vc) j (celsQ qs) rfl ho4 ⟨W3.heap.size, 0, none⟩ 1 1 [.int .i64 ck, .int .i64 cn, .string cs, .slice ca cps.length cc] rfl rfl (news4 W3 _ _ _ _ _) (by simp [Value.oneCell']) (by omega) (by unfold maxLen; omega) (by omega) (by simp; omega) (W3.heap.size + 1) (by simp) ?_; intro g gcap w5 hown5 hgr5 hat5 hlt5; have OO := OwnN.snoc hlen ho4 hql hqr hown5 hgr5 (by simpa using hat5) hR4 (by omega) (fun x hx => Nat.lt_succ_of_lt (hg0 x hx)); rw [← htk] at OO; have bel5 : Below (w.heap.size + 3) W3 w5 := ((Below.refl _ _).alloc hs5 _).grown hgr5 (by simp; omega) (fun k hk => (World.ownsRow.lt ho4 k hk).1); have G0 := E0.keepB bel5 (by omega); have G1 := E1.keepB bel5 (by omega); have G2 := E2.keepB bel5 (by omega); have hb5 := hb3.trans (bel5.mono (by omega)); obtain ⟨p0, p1, p2, p3, p4, p5, p6, p7⟩ := id G2; clear hown5 hgr5 hat5 hlt5 bel5 ho4 hqr hR4))
          go_roundw
          case rel => exact ⟨j + 1, by omega, by go_num, ⟨_, G2.set3 _, OO.set (by omega) _⟩, G0.far (by omega) _, G1.far (by omega) _, hb5.setCell (by simp; omega) _⟩
          case measure => simp [RowKit.intOf]; omega
        · -- none
          have hLc : lj = none0 := by rw [hLj]; unfold prt; rw [List.getElem?_eq_none (by omega)]
          have i3 : ¬ (j : Int) < (ps.length : Int) := by omega
          obtain ⟨a0, a1, a2, a3, _, _, _, _⟩ := id A0
          obtain ⟨y0, y1, y2, y3, y4, y5, y6, y7⟩ := id hX
          obtain ⟨z0, z1, z2, z3, z4, z5, z6, z7⟩ := id A2
          have hs5 : w.heap.size + 3 ≤ (wr.alloc (.cells #[.int .i64 0, .int .i64 0, .string ⟨#[]⟩, .slice none 0 0] 24)).heap.size := Nat.le_trans hs3 bx.size
          obtain ⟨qs, ho4, hql, hqr⟩ := hO.below (bx.alloc bx.size (.cells #[.int .i64 0, .int .i64 0, .string ⟨#[]⟩, .slice none 0 0] 24))
          rw [hlen] at ho4
          have hR4 : RdT (fun b => wr.heap.size + 1 ≤ b) ((wr.alloc (.cells #[.int .i64 0, .int .i64 0, .string ⟨#[]⟩, .slice none 0 0] 24)).alloc (.cells #[.int .i64 0, .int .i64 0, .string ⟨#[]⟩, .slice none 0 0] 24)) (d + 1) lj (.agg #[.int .i64 0, .int .i64 0, .string ⟨#[]⟩, .slice none 0 0]) := by rw [hLc]; exact rdT_none _ _
          have hnews := news4 (wr.alloc (.cells #[.int .i64 0, .int .i64 0, .string ⟨#[]⟩, .slice none 0 0] 24)) (.int .i64 0) (.int .i64 0) (.string ⟨#[]⟩) (.slice none 0 0) 24
          rw [show (wr.alloc (.cells #[.int .i64 0, .int .i64 0, .string ⟨#[]⟩, .slice none 0 0] 24)).heap.size = wr.heap.size + 1 by simp] at hnews
          clear hLj AO hX hO bx
          go_wp2_with (first
            | (at_builtin; refine wpList_append_lies _ rfl _ _ _ rfl (w.heap.size + 3) 24 i0 (.agg #[.int .i64 0, .int .i64 0, .string ⟨#[]⟩, .slice none 0 0]) 4 56 Tryd.underlying22 hi hz0 hz1 hz2 rfl (by omega) (.slice va j vc) j (celsQ qs) rfl ho4 ⟨wr.heap.size + 1, 0, none⟩ 1 1 [.int .i64 0, .int .i64 0, .string ⟨#[]⟩, .slice none 0 0] rfl rfl hnews (by simp [Value.oneCell']) (by omega) (by unfold maxLen; omega) (by omega) (by simp; omega) (wr.heap.size + 1 + 1) (by simp) ?_; intro g gcap w5 hown5 hgr5 hat5 hlt5; have OO := OwnN.snoc hlen ho4 hql hqr hown5 hgr5 (by simpa using hat5) hR4 (by omega) (fun x hx => Nat.lt_succ_of_lt (hg0 x hx)); rw [← htk] at OO; have bel5 : Below (w.heap.size + 3) (wr.alloc (.cells #[.int .i64 0, .int .i64 0, .string ⟨#[]⟩, .slice none 0 0] 24)) w5 := ((Below.refl _ _).alloc hs5 _).grown hgr5 (by simp; omega) (fun k hk => (World.ownsRow.lt ho4 k hk).1); have G0 := A0.keepB bel5 (by omega); have G1 := A1.keepB bel5 (by omega); have G2 := A2.keepB bel5 (by omega); have hb5 := hb1.trans (bel5.mono (by omega)); obtain ⟨p0, p1, p2, p3, p4, p5, p6, p7⟩ := id G2; clear hown5 hgr5 hat5 hlt5 bel5 ho4 hqr hR4))
          go_roundw
          case rel => exact ⟨j + 1, by omega, by go_num, ⟨_, G2.set3 _, OO.set (by omega) _⟩, G0.far (by omega) _, G1.far (by omega) _, hb5.setCell (by simp; omega) _⟩
          case measure => simp [RowKit.intOf]; omega
      · have i1 : ¬ (j : Int) < 1 := by omega
        have hj2 : j = 1 := by omega
        rw [List.take_of_length_le (by omega)] at hO
        clear hln hlen
        subst hj2
        obtain ⟨z0, z1, z2, z3, z4, z5, z6, z7⟩ := id hB2
        obtain ⟨x0, x1, x2, x3, x4, x5, x6, x7⟩ := id hB1
        have E1 := hB1.put (.int .i64 4) (.int .i64 0) (.string ⟨#[]⟩) (.slice va 1 vc)
        obtain ⟨y0, y1, y2, y3, y4, y5, y6, y7⟩ := id E1
        have bq : Below w.heap.size w (put4 wr (w.heap.size + 1) (.int .i64 4) (.int .i64 0) (.string ⟨#[]⟩) (.slice va 1 vc)) := below_put hb (by omega) _ _ _ _
        have hO2 : OwnN (put4 wr (w.heap.size + 1) (.int .i64 4) (.int .i64 0) (.string ⟨#[]⟩) (.slice va 1 vc)) (w.heap.size + 3) (.slice va 1 vc) LL := hO.keep (fun b hb _ => heap_put (by omega) _ _ _ _)
        clear hB0 hB1 hB2 hO E1
        go_wp2
        exact bodyPost_ret (v := .agg #[.int .i64 4, .int .i64 0, .string ⟨#[]⟩, .slice va 1 vc]) (by simp [results, Tryd.results9, go_sem, y0, y1, y2, y3]) rfl ⟨_, rfl, ⟨_, rfl, OwnN.base hO2.rd (by omega)⟩, bq⟩
  rw [if_neg k4]
  have e4 : (k == 4) = false := beq_eq_false_iff_ne.2 k4
  by_cases k5 : k = 5
  · subst k5
    rw [if_pos rfl]
    obtain ⟨a, cap, rfl, hlc, hcm, hcell⟩ := hp.form
    have HC : Hid (∀ (i : Nat) (hi : i < ps.length), ∃ b off c0 c1 c2 c3, a = some ⟨b, off, none⟩ ∧ b < w.heap.size ∧ RdT ok w d ps[i] (.agg #[c0, c1, c2, c3]) ∧ w.cell? ⟨b, off + i * 4, none⟩ = some c0 ∧ w.cell? ⟨b, off + i * 4 + 1, none⟩ = some c1 ∧ w.cell? ⟨b, off + i * 4 + 2, none⟩ = some c2 ∧ w.cell? ⟨b, off + i * 4 + 3, none⟩ = some c3) := hcell
    have hLL : ∃ LL : List (T (d + 1)), LL = [prt ps 0, prt ps 1] := ⟨_, rfl⟩
    obtain ⟨LL, hLL⟩ := hLL
    have hLn : Hid (LL.length = 2) := by rw [hLL]; rfl
    have HL : Hid (∀ (j : Nat) (hj : j < LL.length), LL[j] = prt ps j) := fun j hj => by
      subst hLL
      match j, hj with
      | 0, _ => rfl
      | 1, hj => first | rfl | simp at hj
      | j + 2, hj => exact absurd hj (by simp)
    rw [← hLL]
    clear hLL hcell
    go_enter Tryd.func9, Tryd.ntmps9
    go_wp2
    go_region
    go_wp2
    go_loopw [32] (fun c wr => ∃ j : Nat, j ≤ 2 ∧ c = .int .i64 (j : Int) ∧ (∃ sv, B4 wr (w.heap.size + 2) (.int .i64 5) (.int .i64 0) (.string s) sv ∧ OwnN wr (w.heap.size + 3) sv (LL.take j)) ∧ B4 wr w.heap.size (.int .i64 5) (.int .i64 n) (.string s) (.slice a ps.length cap) ∧ B4 wr (w.heap.size + 1) (.int .i64 0) (.int .i64 0) (.string ⟨#[]⟩) (.slice none 0 0) ∧ Below w.heap.size w wr) (fun c _ => 2 - (RowKit.intOf c).toNat)
    case atStart =>
      refine ⟨0, by omega, rfl, ⟨_, (B4.new _ _ _ _ _ _ _ (by simp)).keep ((Below.refl _ _).drew), ownN_nil _ _⟩, ?_, ?_, ((((Below.refl _ _).alloc (Nat.le_refl _) _).alloc (by simp) _).alloc (by simp; omega) _).drew⟩
      · exact (((B4.new w _ _ _ _ 24 _ rfl).keep ((Below.refl _ _).alloc (Nat.le_refl _) _)).keep ((Below.refl _ _).alloc (Nat.le_refl _) _)).keep ((Below.refl _ _).drew)
      · exact ((B4.new _ _ _ _ _ 24 _ (by simp)).keep ((Below.refl _ _).alloc (Nat.le_refl _) _)).keep ((Below.refl _ _).drew)
    case round =>
      obtain ⟨j, hj, rfl, ⟨sv, hB2, hO⟩, hB0, hB1, hb⟩ := hrel
      have hln := hLn.out
      have hlen : (LL.take j).length = j := by rw [List.length_take]; omega
      obtain ⟨va, vc, hsv⟩ := hO.form
      rw [hlen] at hsv
      subst hsv
      have hs3 : w.heap.size + 3 ≤ wr.heap.size := by have := hB2.lt; omega
      by_cases hlt : j < 2
      · have i1 : (j : Int) < 2 := by omega
        have i2 : (0 : Int) ≤ (j : Int) := by omega
        have hLj := HL.out j (by omega)
        have htk : LL.take (j + 1) = LL.take j ++ [LL[j]'(by omega)] := List.take_succ_eq_append_getElem (by omega)
        obtain ⟨lj, hlj⟩ : ∃ lj, LL[j]'(by omega) = lj := ⟨_, rfl⟩
        rw [hlj] at hLj htk
        clear hlj
        clear hln
        have bx := (Below.refl wr.heap.size wr).alloc (Nat.le_refl _) (.cells #[.int .i64 0, .int .i64 0, .string ⟨#[]⟩, .slice none 0 0] 24)
        have hX := B4.new wr (.int .i64 0) (.int .i64 0) (.string ⟨#[]⟩) (.slice none 0 0) 24 _ rfl
        have A0 := hB0.keep bx
        have A1 := hB1.keep bx
        have A2 := hB2.keep bx
        have AO := hO.below bx
        have hb1 := hb.alloc hb.size (.cells #[.int .i64 0, .int .i64 0, .string ⟨#[]⟩, .slice none 0 0] 24)
        have hg0 : ∀ g, (Value.slice va j vc).ownBlock = some g → g < wr.heap.size := fun g hg => by obtain ⟨qs, ho, _⟩ := hO; exact (ownsRow_lt ho g hg).2
        by_cases hin : j < ps.length
        · -- a part
          obtain ⟨b, off, c0, c1, c2, c3, rfl, hbl, hr, q0, q1, q2, q3⟩ := HC.out j hin
          have C0 := (hb1.cell (p := ⟨b, off + j * 4, none⟩) hbl).trans q0
          have C1 := (hb1.cell (p := ⟨b, off + j * 4 + 1, none⟩) hbl).trans q1
          have C2 := (hb1.cell (p := ⟨b, off + j * 4 + 2, none⟩) hbl).trans q2
          have C3 := (hb1.cell (p := ⟨b, off + j * 4 + 3, none⟩) hbl).trans q3
          have hcall := IH ok ps[j] _ _ (RdT.below hb1 (Nat.le_refl _) hr)
          have hLc : lj = cln d ps[j] := by rw [hLj]; unfold prt; rw [List.getElem?_eq_getElem hin]
          have i3 : (j : Int) < (ps.length : Int) := by omega
          obtain ⟨a0, a1, a2, a3, _, _, _, _⟩ := id A0
          clear q0 q1 q2 q3 hr hbl hLj
          go_wp2_with (first
            | (go_at_call 9; refine hcall.mono ?_; rintro e w2 ⟨u, rfl, hRu, b2⟩; obtain ⟨ck, cn, cs, cps, hck⟩ := T.open (cln d ps[j]); rw [hck] at hRu; obtain ⟨csl, rfl, hcp⟩ := rdT_mk.1 hRu; obtain ⟨ca, cc, rfl, _⟩ := hcp.form; have D0 := A0.keep b2; have D1 := A1.keep b2; have D2 := A2.keep b2; have DX := hX.keep b2; have bw2 : Below wr.heap.size wr w2 := bx.trans (b2.mono (by simp)); have hb2 := hb1.trans (b2.mono hb1.size); obtain ⟨x0, x1, x2, x3, x4, x5, x6, x7⟩ := id DX; have EX := DX.put (.int .i64 ck) (.int .i64 cn) (.string cs) (.slice ca cps.length cc); obtain ⟨y0, y1, y2, y3, y4, y5, y6, y7⟩ := id EX; have E2 := D2.farPut (X := wr.heap.size) (by omega) (.int .i64 ck) (.int .i64 cn) (.string cs) (.slice ca cps.length cc); obtain ⟨z0, z1, z2, z3, z4, z5, z6, z7⟩ := id E2; have E0 := D0.farPut (X := wr.heap.size) (by omega) (.int .i64 ck) (.int .i64 cn) (.string cs) (.slice ca cps.length cc); have E1 := D1.farPut (X := wr.heap.size) (by omega) (.int .i64 ck) (.int .i64 cn) (.string cs) (.slice ca cps.length cc); have bw3 := below_put bw2 (Nat.le_refl _) (.int .i64 ck) (.int .i64 cn) (.string cs) (.slice ca cps.length cc); have hb3 := below_put hb2 (X := wr.heap.size) (by omega) (.int .i64 ck) (.int .i64 cn) (.string cs) (.slice ca cps.length cc); have hR3 : RdT (fun b => wr.heap.size + 1 ≤ b) (put4 w2 wr.heap.size (.int .i64 ck) (.int .i64 cn) (.string cs) (.slice ca cps.length cc)) (d + 1) lj (.agg #[.int .i64 ck, .int .i64 cn, .string cs, .slice ca cps.length cc]) := (by rw [hLc, hck]; exact RdT.keep (fun b hb _ => ⟨by simpa using hb, heap_put (by have : wr.heap.size + 1 ≤ b := (by simpa using hb); omega) _ _ _ _⟩) hRu); obtain ⟨W3, hW3⟩ : ∃ W3, put4 w2 wr.heap.size (.int .i64 ck) (.int .i64 cn) (.string cs) (.slice ca cps.length cc) = W3 := ⟨_, rfl⟩; rw [hW3] at y0 y1 y2 y3 y4 y5 y6 y7 z0 z1 z2 z3 z4 z5 z6 z7 E0 E1 E2 EX bw3 hb3 hR3; clear hcall a0 a1 a2 a3 C0 C1 C2 C3 D0 D1 D2 DX bw2 hb2 hRu hcp A0 A1 A2 AO hb1 hX bx b2; have hs5 : w.heap.size + 3 ≤ W3.heap.size := Nat.le_trans hs3 bw3.size; obtain ⟨qs, ho4, hql, hqr⟩ := hO.below (bw3.alloc bw3.size (.cells #[.int .i64 ck, .int .i64 cn, .string cs, .slice ca cps.length cc] 24)); rw [hlen] at ho4; have hR4 := RdT.below ((Below.refl W3.heap.size W3).alloc (Nat.le_refl _) (.cells #[.int .i64 ck, .int .i64 cn, .string cs, .slice ca cps.length cc] 24)) (Nat.le_refl _) hR3; clear hO bw3 hR3)
            | (at_builtin; refine wpList_append_lies _ rfl _ _ _ rfl (w.heap.size + 3) 24 i0 (.agg #[.int .i64 0, .int .i64 0, .string ⟨#[]⟩, .slice none 0 0]) 4 56 Tryd.underlying22 hi hz0 hz1 hz2 rfl (by omega) (.slice va j vc) j (celsQ qs) rfl ho4 ⟨W3.heap.size, 0, none⟩ 1 1 [.int .i64 ck, .int .i64 cn, .string cs, .slice ca cps.length cc] rfl rfl (news4 W3 _ _ _ _ _) (by simp [Value.oneCell']) (by omega) (by unfold maxLen; omega) (by omega) (by simp; omega) (W3.heap.size + 1) (by simp) ?_; intro g gcap w5 hown5 hgr5 hat5 hlt5; have OO := OwnN.snoc hlen ho4 hql hqr hown5 hgr5 (by simpa using hat5) hR4 (by omega) (fun x hx => Nat.lt_succ_of_lt (hg0 x hx)); rw [← htk] at OO; have bel5 : Below (w.heap.size + 3) W3 w5 := ((Below.refl _ _).alloc hs5 _).grown hgr5 (by simp; omega) (fun k hk => (World.ownsRow.lt ho4 k hk).1); have G0 := E0.keepB bel5 (by omega); have G1 := E1.keepB bel5 (by omega); have G2 := E2.keepB bel5 (by omega); have hb5 := hb3.trans (bel5.mono (by omega)); obtain ⟨p0, p1, p2, p3, p4, p5, p6, p7⟩ := id G2; clear hown5 hgr5 hat5 hlt5 bel5 ho4 hqr hR4))
          go_roundw
          case rel => exact ⟨j + 1, by omega, by go_num, ⟨_, G2.set3 _, OO.set (by omega) _⟩, G0.far (by omega) _, G1.far (by omega) _, hb5.setCell (by simp; omega) _⟩
          case measure => simp [RowKit.intOf]; omega
        · -- none
          have hLc : lj = none0 := by rw [hLj]; unfold prt; rw [List.getElem?_eq_none (by omega)]
          have i3 : ¬ (j : Int) < (ps.length : Int) := by omega
          obtain ⟨a0, a1, a2, a3, _, _, _, _⟩ := id A0
          obtain ⟨y0, y1, y2, y3, y4, y5, y6, y7⟩ := id hX
          obtain ⟨z0, z1, z2, z3, z4, z5, z6, z7⟩ := id A2
          have hs5 : w.heap.size + 3 ≤ (wr.alloc (.cells #[.int .i64 0, .int .i64 0, .string ⟨#[]⟩, .slice none 0 0] 24)).heap.size := Nat.le_trans hs3 bx.size
          obtain ⟨qs, ho4, hql, hqr⟩ := hO.below (bx.alloc bx.size (.cells #[.int .i64 0, .int .i64 0, .string ⟨#[]⟩, .slice none 0 0] 24))
          rw [hlen] at ho4
          have hR4 : RdT (fun b => wr.heap.size + 1 ≤ b) ((wr.alloc (.cells #[.int .i64 0, .int .i64 0, .string ⟨#[]⟩, .slice none 0 0] 24)).alloc (.cells #[.int .i64 0, .int .i64 0, .string ⟨#[]⟩, .slice none 0 0] 24)) (d + 1) lj (.agg #[.int .i64 0, .int .i64 0, .string ⟨#[]⟩, .slice none 0 0]) := by rw [hLc]; exact rdT_none _ _
          have hnews := news4 (wr.alloc (.cells #[.int .i64 0, .int .i64 0, .string ⟨#[]⟩, .slice none 0 0] 24)) (.int .i64 0) (.int .i64 0) (.string ⟨#[]⟩) (.slice none 0 0) 24
          rw [show (wr.alloc (.cells #[.int .i64 0, .int .i64 0, .string ⟨#[]⟩, .slice none 0 0] 24)).heap.size = wr.heap.size + 1 by simp] at hnews
          clear hLj AO hX hO bx
          go_wp2_with (first
            | (at_builtin; refine wpList_append_lies _ rfl _ _ _ rfl (w.heap.size + 3) 24 i0 (.agg #[.int .i64 0, .int .i64 0, .string ⟨#[]⟩, .slice none 0 0]) 4 56 Tryd.underlying22 hi hz0 hz1 hz2 rfl (by omega) (.slice va j vc) j (celsQ qs) rfl ho4 ⟨wr.heap.size + 1, 0, none⟩ 1 1 [.int .i64 0, .int .i64 0, .string ⟨#[]⟩, .slice none 0 0] rfl rfl hnews (by simp [Value.oneCell']) (by omega) (by unfold maxLen; omega) (by omega) (by simp; omega) (wr.heap.size + 1 + 1) (by simp) ?_; intro g gcap w5 hown5 hgr5 hat5 hlt5; have OO := OwnN.snoc hlen ho4 hql hqr hown5 hgr5 (by simpa using hat5) hR4 (by omega) (fun x hx => Nat.lt_succ_of_lt (hg0 x hx)); rw [← htk] at OO; have bel5 : Below (w.heap.size + 3) (wr.alloc (.cells #[.int .i64 0, .int .i64 0, .string ⟨#[]⟩, .slice none 0 0] 24)) w5 := ((Below.refl _ _).alloc hs5 _).grown hgr5 (by simp; omega) (fun k hk => (World.ownsRow.lt ho4 k hk).1); have G0 := A0.keepB bel5 (by omega); have G1 := A1.keepB bel5 (by omega); have G2 := A2.keepB bel5 (by omega); have hb5 := hb1.trans (bel5.mono (by omega)); obtain ⟨p0, p1, p2, p3, p4, p5, p6, p7⟩ := id G2; clear hown5 hgr5 hat5 hlt5 bel5 ho4 hqr hR4))
          go_roundw
          case rel => exact ⟨j + 1, by omega, by go_num, ⟨_, G2.set3 _, OO.set (by omega) _⟩, G0.far (by omega) _, G1.far (by omega) _, hb5.setCell (by simp; omega) _⟩
          case measure => simp [RowKit.intOf]; omega
      · have i1 : ¬ (j : Int) < 2 := by omega
        have hj2 : j = 2 := by omega
        rw [List.take_of_length_le (by omega)] at hO
        clear hln hlen
        subst hj2
        obtain ⟨z0, z1, z2, z3, z4, z5, z6, z7⟩ := id hB2
        obtain ⟨x0, x1, x2, x3, x4, x5, x6, x7⟩ := id hB1
        have E1 := hB1.put (.int .i64 5) (.int .i64 0) (.string s) (.slice va 2 vc)
        obtain ⟨y0, y1, y2, y3, y4, y5, y6, y7⟩ := id E1
        have bq : Below w.heap.size w (put4 wr (w.heap.size + 1) (.int .i64 5) (.int .i64 0) (.string s) (.slice va 2 vc)) := below_put hb (by omega) _ _ _ _
        have hO2 : OwnN (put4 wr (w.heap.size + 1) (.int .i64 5) (.int .i64 0) (.string s) (.slice va 2 vc)) (w.heap.size + 3) (.slice va 2 vc) LL := hO.keep (fun b hb _ => heap_put (by omega) _ _ _ _)
        clear hB0 hB1 hB2 hO E1
        go_wp2
        exact bodyPost_ret (v := .agg #[.int .i64 5, .int .i64 0, .string s, .slice va 2 vc]) (by simp [results, Tryd.results9, go_sem, y0, y1, y2, y3]) rfl ⟨_, rfl, ⟨_, rfl, OwnN.base hO2.rd (by omega)⟩, bq⟩
  rw [if_neg k5]
  have e5 : (k == 5) = false := beq_eq_false_iff_ne.2 k5
  clear hp h
  go_enter Tryd.func9, Tryd.ntmps9
  go_wp2
  refine wp_loop_rounds 1 ?_
  rw [rounds_succ]
  go_wp2
  exact bodyPost_ret (v := .agg #[.int .i64 0, .int .i64 0, .string ⟨#[]⟩, .slice none 0 0]) (by simp [results, Tryd.results9, go_sem]) rfl ⟨_, rfl, rdT_none _ _, (((Below.refl _ _).alloc (Nat.le_refl _) _).alloc (by simp) _).alloc (by simp; omega) _⟩
theorem clean_any : ∀ (d : Nat), CleanC d
  | 0 => fun _ t => Empty.elim t
  | d + 1 => clean_step d (clean_any d)
end Go.Proofs.YtpdhmjjmpofphaaDoor

/- The document's Code; SameCode, ourCode; TableCodes. -/
namespace Go.Proofs.YtpdhmjjmpofphaaDoor
open Go.RowKit Go.Lib
set_option linter.unusedSimpArgs false
set_option linter.unusedVariables false
attribute [local go_sem ↓] Go.wp_at_zero Go.wp_at_succ
theorem agg_node {ok : Nat → Prop} {w : World} {d : Nat} {t : T d} {v : Value} (h : RdT ok w d t v) : ∃ (k n : Int) (s : ByteArray) (a : Option Addr) (l c : Nat), v = .agg #[.int .i64 k, .int .i64 n, .string s, .slice a l c] := by
  cases d with
  | zero => exact Empty.elim t
  | succ d =>
    obtain ⟨k, n, s, ps, rfl⟩ := T.open t
    obtain ⟨sl, rfl, hp⟩ := rdT_mk.1 h
    obtain ⟨a, cap, rfl, _⟩ := hp
    exact ⟨_, _, _, _, _, _, rfl⟩
theorem rcode_any : ∀ d, RcP d
  | 0 => fun _ _ t => Empty.elim t
  | d + 1 => by
    intro ok vs t v vv w hcl hsd hcn hr hv hl
    have IH := rcode_any d
    have hvv : ∃ a n c, vv = .slice a n c := by obtain ⟨a, c, rfl, _⟩ := hv.form; exact ⟨_, _, _, rfl⟩
    rcases hcl.cases with ⟨n, rfl⟩ | ⟨s, rfl⟩ | ⟨k, p, hk, rfl, hp⟩ | ⟨s, p, q, rfl, hp, hq⟩ | rfl
    · obtain ⟨sl, rfl, hps⟩ := rdT_mk.1 hr
      obtain ⟨a, cap, rfl, _⟩ := hps
      rw [cdC_lit]
      exact rc_lit n _ a _ cap vv hvv w
    · obtain ⟨sl, rfl, hps⟩ := rdT_mk.1 hr
      obtain ⟨a, cap, rfl, _⟩ := hps
      rw [cdC_ref]
      exact rc_ref 0 s a _ cap hv hl
    · obtain ⟨sl, rfl, hps⟩ := rdT_mk.1 hr
      obtain ⟨a, cap, rfl, hlc, hcm, hcell⟩ := hps.form
      obtain ⟨b, off, c0, c1, c2, c3, rfl, hbl, hR, k0, k1, k2, k3⟩ := hcell 0 (by simp)
      have hR' : RdT ok w d p (.agg #[c0, c1, c2, c3]) := hR
      obtain ⟨x0, x1, x2, x3, x4, x5, he⟩ := agg_node hR'
      simp only [Value.agg.injEq, Array.mk.injEq, List.cons.injEq, and_true] at he
      obtain ⟨rfl, rfl, rfl, rfl⟩ := he
      rw [Nat.zero_mul, Nat.add_zero] at k0 k1 k2 k3
      rw [sdC_mk] at hsd
      have hsp : sdC d p = true := by
        rcases hk with rfl | rfl
        · simpa using hsd
        · simpa using hsd
      rw [cnt_mk] at hcn
      simp only [List.map_cons, List.map_nil, List.sum_cons, List.sum_nil] at hcn
      have hc := fun w1 (b : Below w.heap.size w w1) => IH ok vs p _ vv w1 hp hsp (by omega) (RdT.below b (Nat.le_refl _) hR') (hv.below b (Nat.le_refl _)) hl
      have hlp := cdC_len vs d p hp
      rcases hk with rfl | rfl
      · rw [cdC_not]
        exact rc_not 0 _ b off _ cap (by simp) hvv (by omega) hbl k0 k1 k2 k3 hc
      · rw [cdC_neg]
        exact rc_neg 0 _ b off _ cap (by simp) hvv (by omega) hbl k0 k1 k2 k3 hc
    · obtain ⟨sl, rfl, hps⟩ := rdT_mk.1 hr
      obtain ⟨a, cap, rfl, hlc, hcm, hcell⟩ := hps.form
      obtain ⟨b, off, c0, c1, c2, c3, rfl, hbl, hR, k0, k1, k2, k3⟩ := hcell 0 (by simp)
      obtain ⟨b', off', d0, d1, d2, d3, ha, hbl', hR2, k4, k5, k6, k7⟩ := hcell 1 (by simp)
      simp only [Option.some.injEq, Addr.mk.injEq, and_true] at ha
      obtain ⟨rfl, rfl⟩ := ha
      have hR' : RdT ok w d p (.agg #[c0, c1, c2, c3]) := hR
      have hR2' : RdT ok w d q (.agg #[d0, d1, d2, d3]) := hR2
      obtain ⟨x0, x1, x2, x3, x4, x5, he⟩ := agg_node hR'
      simp only [Value.agg.injEq, Array.mk.injEq, List.cons.injEq, and_true] at he
      obtain ⟨rfl, rfl, rfl, rfl⟩ := he
      obtain ⟨y0, y1, y2, y3, y4, y5, he⟩ := agg_node hR2'
      simp only [Value.agg.injEq, Array.mk.injEq, List.cons.injEq, and_true] at he
      obtain ⟨rfl, rfl, rfl, rfl⟩ := he
      rw [Nat.zero_mul, Nat.add_zero] at k0 k1 k2 k3
      rw [Nat.one_mul] at k4 k5 k6 k7
      rw [sdC_mk] at hsd
      have hspq : sdC d p = true ∧ sdC d q = true := by
        simp only [show ¬ (5 : Int) = 1 by decide, show ¬ (5 : Int) = 2 by decide, show ¬ ((5 : Int) = 3 ∨ (5 : Int) = 4) by decide, if_false, if_true, Bool.and_eq_true, List.all_cons, List.all_nil] at hsd
        exact ⟨hsd.2.1, hsd.2.2.1⟩
      rw [cnt_mk] at hcn
      simp only [List.map_cons, List.map_nil, List.sum_cons, List.sum_nil] at hcn
      have hc := fun w1 (b : Below w.heap.size w w1) => IH ok vs p _ vv w1 hp hspq.1 (by omega) (RdT.below b (Nat.le_refl _) hR') (hv.below b (Nat.le_refl _)) hl
      have hd := fun w1 (b : Below w.heap.size w w1) => IH ok vs q _ vv w1 hq hspq.2 (by omega) (RdT.below b (Nat.le_refl _) hR2') (hv.below b (Nat.le_refl _)) hl
      have hlp := cdC_len vs d p hp
      have hlq := cdC_len vs d q hq
      rw [cdC_bin]
      exact rc_bin 0 s b off cap hvv (by omega) hbl k0 k1 k2 k3 k4 k5 k6 k7 hc hd
    · exfalso
      have : sdC (d + 1) (none0 : T (d + 1)) = false := rfl
      rw [this] at hsd
      cases hsd
set_option maxRecDepth 100000 in
set_option maxHeartbeats 8000000 in
theorem codeR_any {ok : Nat → Prop} {w : World} (hT : Tabs w) {d : Nat} {t : T d} {v : Value} {vs : List Vr} {vv : Value} (hr : RdT ok w d t v) (hcl : Cl d t) (hcn : cnt d t ≤ 1000) (hsh : shrt 1000 d t = true) (hv : RdV w vv vs) (hl : vs.length ≤ 10000) :
    Calls Tryd.prog 8 #[v, vv] w fun e w' => ∃ a n c, e = .returned (.tuple #[.slice a n c, .int .i64 (cdE vs d t).2]) ∧ OwnI w' w.heap.size 64 (.slice a n c) (cdE vs d t).1 ∧ Below w.heap.size w w' := by
  obtain ⟨k, n, s, sa, sl, sc, rfl⟩ := agg_node hr
  have hal : Below w.heap.size w (w.alloc (.cells #[.int .i64 k, .int .i64 n, .string s, .slice sa sl sc] 24)) := (Below.refl _ _).alloc (Nat.le_refl _) _
  have hX : Bn (w.alloc (.cells #[.int .i64 k, .int .i64 n, .string s, .slice sa sl sc] 24)) w.heap.size [.int .i64 k, .int .i64 n, .string s, .slice sa sl sc] := Bn.new w [.int .i64 k, .int .i64 n, .string s, .slice sa sl sc] 24 _ rfl
  have h1 := formed_any (hT.below hal (Nat.le_refl _)) (RdT.below hal (Nat.le_refl _) hr) (by omega) hsh
  have h2 := fun w1 (b : Below w.heap.size w w1) => refRefs_any (hT.below b (Nat.le_refl _)) (RdT.below b (Nat.le_refl _) hr) hcn hsh
  have h3 := fun w1 (b : Below w.heap.size w w1) s => variableR_any (hv.below b (Nat.le_refl _)) hl s
  have h4 := fun w1 (b : Below w.heap.size w w1) (hsd : sdC d t = true) => rcode_any d ok vs t _ vv w1 hcl hsd (by omega) (RdT.below b (Nat.le_refl _) hr) (hv.below b (Nat.le_refl _)) hl
  obtain ⟨va, vc, rfl, _⟩ := hv.form
  unfold cdE
  obtain ⟨C, hC⟩ : ∃ C, cdC vs d t = C := ⟨_, rfl⟩
  obtain ⟨R, hR⟩ : ∃ R, rfT d t = R := ⟨_, rfl⟩
  obtain ⟨vn, hvn⟩ : ∃ n, vs.length = n := ⟨_, rfl⟩
  simp only [hC, hR, hvn] at h2 h3 h4 ⊢
  clear hC hR hvn hv hl hcl hcn hsh hr hT
  cases hf : fmC d t with
  | false =>
    rw [hf] at h1
    rw [if_neg (by decide)]
    clear h2 h3 h4 hf
    go_enter Tryd.func8, Tryd.ntmps8
    go_wp2_with (first
      | (go_at_call 18; refine h1.mono ?_; rintro e w1 ⟨rfl, b1⟩)
      | fail)
    go_ret2
    exact ⟨_, _, _, rfl, ownI_nil _ _ _, hal.trans (b1.mono hal.size)⟩
  | true =>
    rw [hf] at h1
    rw [if_pos rfl]
    have hsd : sdC d t = true := by
      unfold fmC at hf
      simp only [Bool.and_eq_true] at hf
      exact hf.2
    have h4 := fun w1 b => h4 w1 b hsd
    clear hf hsd
    obtain ⟨E, hE⟩ : ∃ E, (if R.all (fun s => decide (0 ≤ vix s vs 0)) = true then (C, (0 : Int)) else ([], 5)) = E := ⟨_, rfl⟩
    rw [hE]
    have HE := hidI hE
    clear hE
    go_enter Tryd.func8, Tryd.ntmps8
    go_upto_region 1 with fail
    generalize (w.alloc (.cells #[.int .i64 k, .int .i64 n, .string s, .slice sa sl sc] 24)) = wx at *
    obtain ⟨z0, _⟩ := hX 0 _ rfl
    obtain ⟨z1, _⟩ := hX 1 _ rfl
    obtain ⟨z2, _⟩ := hX 2 _ rfl
    obtain ⟨z3, _⟩ := hX 3 _ rfl
    have hXl := hX.lt
    go_upto_region 3 with (first
      | (go_at_call 18; refine h1.mono ?_; rintro e w1 ⟨rfl, b1⟩)
      | fail)
    have hX1 := hX.on b1
    have hb1 := hal.trans (b1.mono hal.size)
    have hr2 := h2 _ hb1
    clear z0 z1 z2 z3 hX h1 h2
    obtain ⟨z0, _⟩ := hX1 0 _ rfl
    obtain ⟨z1, _⟩ := hX1 1 _ rfl
    obtain ⟨z2, _⟩ := hX1 2 _ rfl
    obtain ⟨z3, _⟩ := hX1 3 _ rfl
    go_upto_region 5 with (first
      | (go_at_call 19; refine hr2.mono ?_; rintro e w2 ⟨rv, rfl, hrv, b2⟩; obtain ⟨ra, rc, rfl, hrl, hrm, hcell⟩ := rdS_at hrv)
      | fail)
    have hX2 := hX1.on b2
    have hb2 := hb1.trans (b2.mono hb1.size)
    have HC := hidI hcell
    obtain ⟨rn, hrn⟩ : ∃ n, R.length = n := ⟨_, rfl⟩
    rw [hrn] at hrl ⊢
    have HN := hidI hrn
    clear hcell hr2 hrv b1 b2 hrn z0 z1 z2 z3 hX1 hb1 hal
    go_loopw [15] (fun ix wr => ∃ (j : Nat), j ≤ rn ∧ ix = .int .i64 (j : Int) ∧ Hid ((R.take j).all (fun s => decide (0 ≤ vix s vs 0)) = true) ∧ Below w2.heap.size w2 wr) (fun ix _ => rn - (RowKit.intOf ix).toNat)
    case atStart => exact ⟨0, Nat.zero_le _, rfl, rfl, Below.refl _ _⟩
    case round =>
      obtain ⟨j, hj, rfl, HA, hb⟩ := hrel
      have hbw := hb2.trans (hb.mono hb2.size)
      by_cases hlt : j < rn
      · have hjl : j < R.length := by rw [HN.out]; exact hlt
        obtain ⟨g, rfl, hgl, c0⟩ := HC.out j hjl
        have C0 := (hb.cell (p := ⟨g, j, none⟩) hgl).trans c0
        have hmem : R[j] ∈ R := List.getElem_mem hjl
        have hAE : R.take (j + 1) = R.take j ++ [R[j]] := List.take_succ_eq_append_getElem hjl
        obtain ⟨x, hx⟩ : ∃ x, R[j] = x := ⟨_, rfl⟩
        rw [hx] at C0 hmem hAE
        have hcall := h3 _ hbw x
        obtain ⟨V, hV⟩ : ∃ V, vix x vs 0 = V := ⟨_, rfl⟩
        rw [hV] at hcall
        have i1 : (j : Int) < (rn : Int) := by omega
        have i2 : (0 : Int) ≤ (j : Int) := by omega
        clear c0 hx
        by_cases hneg : V < 0
        · have HQ : Hid (R.all (fun s => decide (0 ≤ vix s vs 0)) = false) := by
            show _ = _
            rw [List.all_eq_false]
            exact ⟨x, hmem, by rw [hV]; simp; omega⟩
          clear hmem hAE
          go_wp2_with (first
            | (go_at_call 20; refine hcall.mono ?_; rintro e w3 ⟨rfl, b3⟩)
            | fail)
          go_ret2
          have hE : E = ([], 5) := by rw [← HE.out, HQ.out]; rfl
          subst hE
          exact ⟨_, _, _, rfl, ownI_nil _ _ _, hbw.trans (b3.mono hbw.size)⟩
        · have HA2 : Hid ((R.take (j + 1)).all (fun s => decide (0 ≤ vix s vs 0)) = true) := by
            show _ = _
            rw [hAE, List.all_append, HA.out]
            simp [hV]
            omega
          have i3 : ¬ V < 0 := hneg
          clear hmem hAE HA
          go_wp2_with (first
            | (go_at_call 20; refine hcall.mono ?_; rintro e w3 ⟨rfl, b3⟩)
            | fail)
          go_roundw
          case rel => exact ⟨j + 1, hlt, by go_num, HA2, hb.trans (b3.mono hb.size)⟩
          case measure => simp [RowKit.intOf]; omega
      · have i1 : ¬ (j : Int) < (rn : Int) := by omega
        have HQ : Hid (R.all (fun s => decide (0 ≤ vix s vs 0)) = true) := by
          have := HA.out
          rw [List.take_of_length_le (by rw [HN.out]; omega)] at this
          exact this
        have hcall := h4 _ hbw
        have hX3 := hX2.on hb
        obtain ⟨z0, _⟩ := hX3 0 _ rfl
        obtain ⟨z1, _⟩ := hX3 1 _ rfl
        obtain ⟨z2, _⟩ := hX3 2 _ rfl
        obtain ⟨z3, _⟩ := hX3 3 _ rfl
        clear HA h3 h4
        go_wp2_with (first
          | (go_at_call 21; refine hcall.mono ?_; rintro e w3 ⟨ta, tn, tc, rfl, hoT, b3⟩)
          | fail)
        go_ret2
        have hE : E = (C, 0) := by rw [← HE.out, if_pos HQ.out]
        subst hE
        exact ⟨_, _, _, rfl, hoT.low hbw.size, hbw.trans (b3.mono hbw.size)⟩
set_option maxRecDepth 100000 in
set_option maxHeartbeats 4000000 in
theorem ourCode_any {w : World} {base n c : Nat} {a : Option Addr} {l : List Ins} (h : OwnI w base 47 (.slice a n c) l) (hle : l.length ≤ 50000) :
    Calls Tryd.prog 11 #[.slice a n c] w fun e w' => ∃ a n c, e = .returned (.slice a n c) ∧ OwnI w' w.heap.size 64 (.slice a n c) l ∧ Below w.heap.size w w' := by
  obtain ⟨_, _, he, hlc, hcm⟩ := h.form
  simp only [Value.slice.injEq] at he
  obtain ⟨rfl, hn, rfl⟩ := he
  unfold maxLen at hcm
  have HC := hidI h
  rw [← hn] at hle hlc
  have HN := hidI hn
  have hsn := fun w1 s x => srcI_new (tx := 37) Tryd.underlying37 w1 s x
  clear h hn
  go_enter Tryd.func11, Tryd.ntmps11
  go_wp2
  go_loopw [3, 7] (fun t ix wr => ∃ (j : Nat) (ta : Option Addr) (tc : Nat), j ≤ n ∧ ix = .int .i64 (j : Int) ∧ t = .slice ta j tc ∧ OwnI wr w.heap.size 64 (.slice ta j tc) (l.take j) ∧ Below w.heap.size w wr) (fun _ ix _ => n - (RowKit.intOf ix).toNat)
  case atStart => exact ⟨0, none, 0, Nat.zero_le _, rfl, rfl, ownI_nil _ _ _, Below.refl _ _⟩
  case round =>
    obtain ⟨j, ta, tc, hj, rfl, rfl, hO, hb⟩ := hrel
    by_cases hlt : j < n
    · have hjl : j < l.length := by rw [← HN.out]; exact hlt
      obtain ⟨g, rfl, hgl, c0, c1⟩ := HC.out.at j hjl
      have C0 := (hb.cell (p := ⟨g, j * 2, none⟩) hgl).trans c0
      have C1 := (hb.cell (p := ⟨g, j * 2 + 1, none⟩) hgl).trans c1
      have HS : Hid (l.take (j + 1) = l.take j ++ [((l[j]).1, (l[j]).2)]) := List.take_succ_eq_append_getElem hjl
      have hlj : (l.take j).length = j := by rw [List.length_take]; omega
      have HLJ := hidI hlj
      obtain ⟨xs, hxs⟩ : ∃ x, (l[j]).1 = x := ⟨_, rfl⟩
      obtain ⟨xn, hxn⟩ : ∃ x, (l[j]).2 = x := ⟨_, rfl⟩
      rw [hxs] at C0 HS
      rw [hxn] at C1 HS
      have i1 : (j : Int) < (n : Int) := by omega
      have i2 : (0 : Int) ≤ (j : Int) := by omega
      have hal : Below wr.heap.size wr (wr.alloc (.cells #[.string xs, .int .i64 xn] 64)) := (Below.refl _ _).alloc (Nat.le_refl _) _
      have hO2 := hO.on hal
      have hb2 := hb.trans (hal.mono hb.size)
      have s2 := hsn wr xs xn
      clear c0 c1 hxs hxn hlj hO
      go_wp2_with (first
        | (at_builtin; refine appR rfl _ _ rfl w.heap.size _ (l.take j) rfl hO2 _ [(xs, xn)] rfl s2 (by rw [HLJ.out]; simp; omega) hb2.size ?_; intro vf mf vg w5 HMF ho6 hg6 hat6)
        | fail)
      have hmf : mf = j + 1 := by have := HMF.out; rw [HLJ.out] at this; exact this
      subst hmf
      rw [← HS.out] at ho6
      have hb6 := hb2.grown hg6 hb2.size (fun k hk => (hO2.lt k hk).1)
      go_wp2
      go_roundw
      case rel => exact ⟨j + 1, vf, vg, hlt, by go_num, rfl, ho6, hb6⟩
      case measure => simp [RowKit.intOf]; omega
    · have i1 : ¬ (j : Int) < (n : Int) := by omega
      have hjn : l.take j = l := List.take_of_length_le (by rw [← HN.out]; omega)
      rw [hjn] at hO
      go_wp2
      go_ret
      exact ⟨_, _, _, rfl, hO, hb⟩
set_option maxRecDepth 100000 in
set_option maxHeartbeats 4000000 in
theorem sameCode_any {w : World} {b1 b2 n c n' c' : Nat} {a a' : Option Addr} {l : List Ins} (h : OwnI w b1 64 (.slice a n c) l) (h' : OwnI w b2 64 (.slice a' n' c') l) (hle : l.length ≤ 50000) :
    Calls Tryd.prog 10 #[.slice a n c, .slice a' n' c'] w fun e w' => e = .returned (.bool true) ∧ Below w.heap.size w w' := by
  obtain ⟨_, _, he, hlc, hcm⟩ := h.form
  simp only [Value.slice.injEq] at he
  obtain ⟨rfl, hn, rfl⟩ := he
  obtain ⟨_, _, he, hlc', hcm'⟩ := h'.form
  simp only [Value.slice.injEq] at he
  obtain ⟨rfl, hn', rfl⟩ := he
  have hnn : n' = n := by omega
  subst hnn
  unfold maxLen at hcm hcm'
  have HC := hidI h
  have HC' := hidI h'
  rw [← hn] at hle hlc hlc'
  have HN := hidI hn
  clear h h' hn hn'
  go_enter Tryd.func10, Tryd.ntmps10
  go_wp2
  go_loopw [13] (fun ix wr => ∃ (j : Nat), j ≤ n' ∧ ix = .int .i64 (j : Int) ∧ Below w.heap.size w wr) (fun ix _ => n' - (RowKit.intOf ix).toNat)
  case atStart => exact ⟨0, Nat.zero_le _, rfl, Below.refl _ _⟩
  case round =>
    obtain ⟨j, hj, rfl, hb⟩ := hrel
    by_cases hlt : j < n'
    · have hjl : j < l.length := by rw [← HN.out]; exact hlt
      obtain ⟨g, rfl, hgl, c0, c1⟩ := HC.out.at j hjl
      obtain ⟨g', rfl, hgl', d0, d1⟩ := HC'.out.at j hjl
      have C0 := (hb.cell (p := ⟨g, j * 2, none⟩) hgl).trans c0
      have C1 := (hb.cell (p := ⟨g, j * 2 + 1, none⟩) hgl).trans c1
      have D0 := (hb.cell (p := ⟨g', j * 2, none⟩) hgl').trans d0
      have D1 := (hb.cell (p := ⟨g', j * 2 + 1, none⟩) hgl').trans d1
      obtain ⟨xs, hxs⟩ : ∃ x, (l[j]).1 = x := ⟨_, rfl⟩
      obtain ⟨xn, hxn⟩ : ∃ x, (l[j]).2 = x := ⟨_, rfl⟩
      rw [hxs] at C0 D0
      rw [hxn] at C1 D1
      have i1 : (j : Int) < (n' : Int) := by omega
      have i2 : (0 : Int) ≤ (j : Int) := by omega
      clear c0 c1 d0 d1 hxs hxn
      go_upto_region 6 with fail
      go_quiet (fail)
      have hbq : Below w.heap.size w (wr.drewN nq) := ⟨hb.os, hb.tape, hb.output, hb.size, hb.block⟩
      go_wp2
      go_roundw
      case rel => exact ⟨j + 1, hlt, by go_num, hbq⟩
      case measure => simp [RowKit.intOf]; omega
    · have i1 : ¬ (j : Int) < (n' : Int) := by omega
      go_wp2
      go_ret
      exact ⟨rfl, hb⟩
end Go.Proofs.YtpdhmjjmpofphaaDoor

/- What is asked of the program's calls; what awake then answers. -/
namespace Go.Proofs.YtpdhmjjmpofphaaDoor
open Go.RowKit Go.Lib
set_option linter.unusedSimpArgs false
set_option linter.unusedVariables false

theorem rdV_nil (w : World) : RdV w (.slice none 0 0) [] := ⟨none, 0, rfl, by simp, by simp [maxLen], fun _ => rfl, fun x hx => by cases hx⟩

end Go.Proofs.YtpdhmjjmpofphaaDoor

/- The walk of TableCodes. -/
namespace Go.Proofs.YtpdhmjjmpofphaaDoor
open Go.RowKit Go.Lib
set_option linter.unusedSimpArgs false
set_option linter.unusedVariables false
attribute [local go_sem ↓] Go.wp_at_zero Go.wp_at_succ
set_option maxRecDepth 100000 in
set_option maxHeartbeats 4000000 in
theorem awakeTc (w : World) : Calls Tryd.prog 4 #[] w fun e w' => e = .returned (.bool true) ∧ Below w.heap.size w w' := by
  have hc := codeP_any (w := w) (d := 1) (t := mkT 1 5 ⟨#[]⟩ []) (vs := []) (.inl ⟨rfl, rfl, rfl⟩) (by decide) (by decide) (rdV_nil w) (by simp)
  have e1 : cdE [] 1 (mkT 1 5 ⟨#[]⟩ []) = ([(wPush, 5)], 0) := by kernel_rfl
  rw [e1] at hc
  have e2 : exV 1 (mkT 1 5 ⟨#[]⟩ []) = .iface 45 (.agg #[.int .i64 5]) := rfl
  rw [e2] at hc
  clear e1 e2
  go_enter Tryd.func4, Tryd.ntmps4
  go_upto_region 2 with (first
    | (go_at_call 6; refine hc.mono ?_; rintro e w1 ⟨a, n, c, rfl, hO, b1⟩)
    | fail)
  obtain ⟨_, _, he, hlc, hcm⟩ := hO.form
  simp only [Value.slice.injEq] at he
  obtain ⟨rfl, rfl, rfl⟩ := he
  obtain ⟨g, rfl, hgl, c0, c1⟩ := hO.at 0 (by simp)
  simp only [List.getElem_cons_zero] at c0 c1
  unfold wPush at c0
  clear hO hc
  go_wp2
  go_ret
  exact ⟨rfl, b1⟩
set_option maxRecDepth 100000 in
set_option maxHeartbeats 8000000 in
theorem tableCodes_walk {w : World} (hT : Tabs w) {d : Nat} {t : T d} {v vv : Value} {vs : List Vr} (h : RdT (fun _ => True) w d t v) (hv : RdV w vv vs) :
    Calls Tryd.prog 3 #[v, vv] w fun e w' => e = .returned (.bool true) ∧ Below w.heap.size w w' := by
  match d, t, h with
  | 0, t, _ => exact Empty.elim t
  | d + 1, t, h =>
  obtain ⟨k, n, s, ps, rfl⟩ := T.open t
  have h0 := h
  obtain ⟨sl, rfl, hp⟩ := rdT_mk.1 h
  obtain ⟨sa, scap, rfl, _⟩ := hp
  clear h
  obtain ⟨sn, hsn⟩ : ∃ sn, ps.length = sn := ⟨_, rfl⟩
  rw [hsn] at h0 ⊢
  have hal : Below w.heap.size w (w.alloc (.cells #[.int .i64 k, .int .i64 n, .string s, .slice sa sn scap] 24)) := (Below.refl w.heap.size w).alloc (Nat.le_refl _) _
  have hX : Bn (w.alloc (.cells #[.int .i64 k, .int .i64 n, .string s, .slice sa sn scap] 24)) w.heap.size [.int .i64 k, .int .i64 n, .string s, .slice sa sn scap] := Bn.new w [.int .i64 k, .int .i64 n, .string s, .slice sa sn scap] 24 _ rfl
  have h1 := fun w1 => awakeTc w1
  have h2 := fun w1 (b : Below w.heap.size w w1) => refSmallTop_any (RdT.below b (Nat.le_refl _) h0)
  obtain ⟨va, vcap, rfl, hvc, hvm, hvcell⟩ := hv.form
  obtain ⟨vn, hvn⟩ : ∃ vn, vs.length = vn := ⟨_, rfl⟩
  have HV := hidI hv
  have HC := hidI hvcell
  have HN := hidI hvn
  rw [hvn] at hvc HV ⊢
  clear hvcell hvn hsn hv
  by_cases hsm : 0 ≤ sml (d + 1) (mkT k n s ps) 0 200
  case neg =>
    simp only [decide_eq_false hsm] at h2
    clear hsm
    go_enter Tryd.func3, Tryd.ntmps3
    go_upto_region 1 with fail
    generalize (w.alloc (.cells #[.int .i64 k, .int .i64 n, .string s, .slice sa sn scap] 24)) = wx at *
    go_wp2_with (first
      | (go_at_call 5; refine h2'.mono ?_; rintro e w2 ⟨rfl, b2⟩; have hb2 := hb1.trans (b2.mono hb1.size))
      | (go_at_call 4; refine (h1 w2).mono ?_; rintro e w3 ⟨rfl, b3⟩)
      | (go_at_call 4; refine (h1 wx).mono ?_; rintro e w1 ⟨rfl, b1⟩; have hb1 := hal.trans (b1.mono hal.size); have h2' := h2 w1 hb1; have hX1 := hX.on b1; obtain ⟨z0, _⟩ := hX1 0 _ rfl; obtain ⟨z1, _⟩ := hX1 1 _ rfl; obtain ⟨z2, _⟩ := hX1 2 _ rfl; obtain ⟨z3, _⟩ := hX1 3 _ rfl; clear h2)
      | fail)
    go_ret
    exact ⟨rfl, hb2.trans (b3.mono hb2.size)⟩
  simp only [decide_eq_true hsm] at h2
  obtain ⟨hc1, hc2⟩ := small_cln hsm
  have hcl := cl_cln (d + 1) (mkT k n s ps)
  by_cases hv100 : vn ≤ 100
  case neg =>
    have i0 : (vn : Int) > 100 := by omega
    clear hsm hc1 hc2 hcl
    go_enter Tryd.func3, Tryd.ntmps3
    go_upto_region 1 with fail
    generalize (w.alloc (.cells #[.int .i64 k, .int .i64 n, .string s, .slice sa sn scap] 24)) = wx at *
    go_wp2_with (first
      | (go_at_call 5; refine h2'.mono ?_; rintro e w2 ⟨rfl, b2⟩; have hb2 := hb1.trans (b2.mono hb1.size))
      | (go_at_call 4; refine (h1 w2).mono ?_; rintro e w3 ⟨rfl, b3⟩)
      | (go_at_call 4; refine (h1 wx).mono ?_; rintro e w1 ⟨rfl, b1⟩; have hb1 := hal.trans (b1.mono hal.size); have h2' := h2 w1 hb1; have hX1 := hX.on b1; obtain ⟨z0, _⟩ := hX1 0 _ rfl; obtain ⟨z1, _⟩ := hX1 1 _ rfl; obtain ⟨z2, _⟩ := hX1 2 _ rfl; obtain ⟨z3, _⟩ := hX1 3 _ rfl; clear h2)
      | fail)
    go_ret
    exact ⟨rfl, hb2.trans (b3.mono hb2.size)⟩
  have i0 : ¬ (vn : Int) > 100 := by omega
  have hvl : vs.length ≤ 10000 := by rw [HN.out]; omega
  have h5 := fun w1 (b : Below w.heap.size w w1) => theirs_any (d + 1) _ _ _ w1 (RdT.below b (Nat.le_refl _) h0)
  have h6 := fun w1 (b : Below w.heap.size w w1) => codeP_any (w := w1) (d := d + 2) (t := cln (d + 1) (mkT k n s ps)) (vs := vs) hcl (Nat.le_trans hc1 (by omega)) hc2 (HV.out.below b (Nat.le_refl _)) hvl
  have h7 := fun w1 (b : Below w.heap.size w w1) => clean_any (d + 1) _ _ _ w1 (RdT.below b (Nat.le_refl _) h0)
  have h8 := fun (ok : Nat → Prop) w1 (b : Below w.heap.size w w1) (u : Value) (hu : RdT ok w1 (d + 2) (cln (d + 1) (mkT k n s ps)) u) => codeR_any (hT.below b (Nat.le_refl _)) (vs := vs) hu hcl (Nat.le_trans hc1 (by omega)) hc2 (HV.out.below b (Nat.le_refl _)) hvl
  rw [exV_cln] at h6
  have hlen : (cdE vs (d + 2) (cln (d + 1) (mkT k n s ps))).1.length ≤ 50000 := by
    have := cdC_len vs (d + 2) (cln (d + 1) (mkT k n s ps)) hcl
    have hc1' : cnt (d + 2) (cln (d + 1) (mkT k n s ps)) ≤ 1000 := hc1
    unfold cdE
    split
    · split
      · simp only []; omega
      · simp
    · simp
  obtain ⟨ex, hex⟩ : ∃ ex, exV (d + 1) (mkT k n s ps) = ex := ⟨_, rfl⟩
  simp only [hex] at h5 h6
  obtain ⟨E, hE⟩ : ∃ E, cdE vs (d + 2) (cln (d + 1) (mkT k n s ps)) = E := ⟨_, rfl⟩
  simp only [hE] at h6 h8 hlen
  obtain ⟨E1, E2⟩ := E
  simp only [] at h6 h8 hlen
  clear hE hex hsm
  go_enter Tryd.func3, Tryd.ntmps3
  go_upto_region 1 with fail
  generalize (w.alloc (.cells #[.int .i64 k, .int .i64 n, .string s, .slice sa sn scap] 24)) = wx at *
  go_upto_region 4 with (first
    | (go_at_call 5; refine h2'.mono ?_; rintro e w2 ⟨rfl, b2⟩; have hb2 := hb1.trans (b2.mono hb1.size); have hX2 := hX1.on b2)
    | (go_at_call 4; refine (h1 wx).mono ?_; rintro e w1 ⟨rfl, b1⟩; have hb1 := hal.trans (b1.mono hal.size); have h2' := h2 w1 hb1; have hX1 := hX.on b1; obtain ⟨z0, _⟩ := hX1 0 _ rfl; obtain ⟨z1, _⟩ := hX1 1 _ rfl; obtain ⟨z2, _⟩ := hX1 2 _ rfl; obtain ⟨z3, _⟩ := hX1 3 _ rfl; clear h2)
    | fail)
  clear z0 z1 z2 z3 hX1 b1 b2 hb1 hX hal h2' h1
  go_loopw [25] (fun ix wr => ∃ (j : Nat), j ≤ vn ∧ ix = .int .i64 (j : Int) ∧ Below w2.heap.size w2 wr) (fun ix _ => vn - (RowKit.intOf ix).toNat)
  case atStart => exact ⟨0, Nat.zero_le _, rfl, Below.refl _ _⟩
  case round =>
    obtain ⟨j, hj, rfl, hb⟩ := hrel
    have hbw := hb2.trans (hb.mono hb2.size)
    by_cases hlt : j < vn
    · have hjl : j < vs.length := by rw [HN.out]; exact hlt
      obtain ⟨b, off, rfl, hbl, k0, _⟩ := HC.out j hjl
      have C0 := (hbw.cell (p := ⟨b, off + j * 2, none⟩) hbl).trans k0
      obtain ⟨x, hx⟩ : ∃ x, (vs[j]).1 = x := ⟨_, rfl⟩
      rw [hx] at C0
      have i1 : (j : Int) < (vn : Int) := by omega
      have i2 : (0 : Int) ≤ (j : Int) := by omega
      clear k0 hx
      by_cases hbig : (x.size : Int) > 1000
      · go_wp2
        go_ret
        exact ⟨rfl, hbw⟩
      · go_wp2
        go_roundw
        case rel => exact ⟨j + 1, hlt, by go_num, hb⟩
        case measure => simp [RowKit.intOf]; omega
    · have i1 : ¬ (j : Int) < (vn : Int) := by omega
      have hX3 := hX2.on hb
      obtain ⟨z0, _⟩ := hX3 0 _ rfl
      obtain ⟨z1, _⟩ := hX3 1 _ rfl
      obtain ⟨z2, _⟩ := hX3 2 _ rfl
      obtain ⟨z3, _⟩ := hX3 3 _ rfl
      have s5 := h5 _ hbw
      clear HC h5
      go_upto_region 10 with (first
        | (go_at_call 7; refine s5.mono ?_; rintro e w3 ⟨rfl, b3⟩; have hb3 := hbw.trans (b3.mono hbw.size); have s6 := h6 _ hb3)
        | (go_at_call 6; refine s6.mono ?_; rintro e w4 ⟨ca, cn, cc, rfl, hoC, b4⟩)
        | fail)
      have hb4 := hb3.trans (b4.mono hb3.size)
      have hX5 := (hX3.on b3).on b4
      clear z0 z1 z2 z3 s5 s6 h6 b3 hb3 hX3
      obtain ⟨z0, _⟩ := hX5 0 _ rfl
      obtain ⟨z1, _⟩ := hX5 1 _ rfl
      obtain ⟨z2, _⟩ := hX5 2 _ rfl
      obtain ⟨z3, _⟩ := hX5 3 _ rfl
      have s7 := h7 _ hb4
      clear h7
      go_upto_region 11 with (first
        | (go_at_call 9; refine s7.mono ?_; rintro e w5 ⟨u, rfl, hu, b5⟩; have hb5 := hb4.trans (b5.mono hb4.size); have s8 := h8 _ _ hb5 u hu; obtain ⟨u0, u1, u2, u3, u4, u5, rfl⟩ := agg_node hu)
        | (go_at_call 8; refine s8.mono ?_; rintro e w6 ⟨da, dn, dc, rfl, hoD, b6⟩)
        | fail)
      have hoC6 := (hoC.on b5).on b6
      have hb6 := hb5.trans (b6.mono hb5.size)
      have s9 := ourCode_any hoC6 hlen
      have HD := hidI hoD
      clear z0 z1 z2 z3 s7 s8 h8 hu hoC hoC6 hoD b5 hX5
      go_wp2_with (first
        | (go_at_call 11; refine s9.mono ?_; rintro e w7 ⟨oa, on, oc, rfl, hoO, b7⟩; have s10 := sameCode_any hoO (HD.out.on b7) hlen)
        | (go_at_call 10; refine s10.mono ?_; rintro e w8 ⟨rfl, b8⟩)
        | fail)
      go_ret
      have hb7 := hb6.trans (b7.mono hb6.size)
      exact ⟨rfl, hb7.trans (b8.mono hb7.size)⟩
end Go.Proofs.YtpdhmjjmpofphaaDoor

/- An argument that is a slice of bytes, opened: the bytes that it reads as, each from 0 to 255, and their number within the form's reach. -/
namespace Go.Proofs.YtpdhmjjmpofphaaDoor
open Go.ChangeShapes Go.WideShapes Go.ChangeAt Go.RowKit

end Go.Proofs.YtpdhmjjmpofphaaDoor

/- Arguments that are trees of nodes, or lists of variables, opened. -/
namespace Go.Proofs.YtpdhmjjmpofphaaDoor
open Go.ChangeShapes Go.WideShapes Go.ChangeAt Go.RowKit
set_option linter.unusedSimpArgs false
set_option linter.unusedVariables false

theorem half2 (g : Nat) : (g + 2) / 2 = g / 2 + 1 := by omega
theorem pick {α : Type} {p : Nat → α → Prop} : ∀ (n : Nat), (∀ i, i < n → ∃ a, p i a) → ∃ l : List α, l.length = n ∧ ∀ (i : Nat) (h : i < l.length), p i l[i]
  | 0, _ => ⟨[], rfl, fun i h => absurd h (by simp)⟩
  | n + 1, H => by
    obtain ⟨l, hl, hp⟩ := pick n (fun i hi => H i (by omega))
    obtain ⟨a, ha⟩ := H n (by omega)
    refine ⟨l ++ [a], by simp [hl], fun i h => ?_⟩
    rcases Nat.lt_or_ge i l.length with hi | hi
    · rw [List.getElem_append_left hi]; exact hp i hi
    · have : i = n := by simp at h; omega
      subst this
      have e : (l ++ [a])[i]'h = a := by simp [← hl]
      rw [e]; exact ha
set_option maxRecDepth 100000 in
theorem open_node {H : Type} {enc : TypeId × Value → H} {W : World} : ∀ (m fuel : Nat), fuel ≤ m → ∀ {cs : List Value} {x : DataW H × List MemPlace}, DataW.trod enc Tryd.prog W 0 (fun _ => true) true fuel 24 cs = some x →
    ∃ (d : Nat) (t : T d) (c0 c1 c2 c3 : Value), d = fuel / 2 ∧ cs = [c0, c1, c2, c3] ∧ RdT (fun _ => True) W d t (.agg #[c0, c1, c2, c3])
  | 0, fuel, hf, cs, x, h => by
    obtain rfl : fuel = 0 := by omega
    simp [DataW.trod] at h
  | m + 1, fuel, hf, cs, x, h => by
    obtain ⟨xs, n, rfl, rfl, hl, hlen, hfd⟩ := DataW.trod_struct Tryd.underlying24 h
    have hc : Tryd.prog.cellsOf 24 = 4 := by kernel_rfl
    have cI : Tryd.prog.cellsOf 3 = 1 := by kernel_rfl
    have cL : Tryd.prog.cellsOf 2 = 1 := by kernel_rfl
    have c9 : Tryd.prog.cellsOf 9 = 1 := by kernel_rfl
    have cP : Tryd.prog.cellsOf 22 = 1 := by kernel_rfl
    rw [hc] at hl
    have f0 : DataW.trod enc Tryd.prog W 0 (fun _ => true) true n 3 ((cs.drop 0).take (Tryd.prog.cellsOf 3)) = xs[0]? := hfd 0 _ rfl
    have f1 : DataW.trod enc Tryd.prog W 0 (fun _ => true) true n 2 ((cs.drop 1).take (Tryd.prog.cellsOf 2)) = xs[1]? := hfd 1 _ rfl
    have f2 : DataW.trod enc Tryd.prog W 0 (fun _ => true) true n 9 ((cs.drop 2).take (Tryd.prog.cellsOf 9)) = xs[2]? := hfd 2 _ rfl
    have f3 : DataW.trod enc Tryd.prog W 0 (fun _ => true) true n 22 ((cs.drop 3).take (Tryd.prog.cellsOf 22)) = xs[3]? := hfd 3 _ rfl
    rw [cI] at f0
    rw [cL] at f1
    rw [c9] at f2
    rw [cP] at f3
    match cs, hl, xs, hlen with
    | [a, b, c, e], _, [y0, y1, y2, y3], _ =>
      simp only [List.drop_zero, List.take_succ_cons, List.take_zero, List.drop_succ_cons, List.getElem?_cons_zero, List.getElem?_cons_succ] at f0 f1 f2 f3
      obtain ⟨k, e0, rfl, _⟩ := DataW.trod_int Tryd.underlying3 f0
      obtain ⟨nn, e1, rfl, _⟩ := DataW.trod_int Tryd.underlying2 f1
      obtain ⟨s, e2, rfl, _⟩ := DataW.trod_string Tryd.underlying9 f2
      simp only [List.cons.injEq, and_true] at e0 e1 e2
      subst e0 e1 e2
      obtain ⟨g, rfl⟩ : ∃ g, n = g + 1 := by
        cases n with
        | zero => simp [DataW.trod] at f3
        | succ g => exact ⟨g, rfl⟩
      rcases DataW.trod_slice Tryd.underlying22 f3 with ⟨hcs, _⟩ | ⟨ad, len, cap, elems, rest, n', hn', hcs, _, _, hlc, hcm, hel, helt, _, _⟩
      · simp only [List.cons.injEq, and_true] at hcs
        subst hcs
        refine ⟨g / 2 + 1, mkT k nn s [], _, _, _, _, (half2 g).symm, rfl, rdT_mk.2 ⟨_, rfl, none, 0, rfl, by simp, by simp [maxLen], fun _ => rfl, fun x hx => by cases hx⟩⟩
      · obtain rfl : n' = g := by omega
        simp only [List.cons.injEq, and_true] at hcs
        subst hcs
        rw [hc] at helt
        have hall : ∀ i, i < len → ∃ q : T (n' / 2) × Value × Value × Value × Value, W.cells? 0 (ad.add (i * 4)) 4 = some [q.2.1, q.2.2.1, q.2.2.2.1, q.2.2.2.2] ∧ RdT (fun _ => True) W (n' / 2) q.1 (.agg #[q.2.1, q.2.2.1, q.2.2.2.1, q.2.2.2.2]) := by
          intro i hi
          have h1 := helt i hi
          rw [List.getElem?_eq_getElem (by omega)] at h1
          obtain ⟨cs', h2, h3⟩ := Option.bind_eq_some_iff.1 h1
          obtain ⟨d, t, c0, c1, c2, c3, rfl, rfl, hr⟩ := open_node m n' (by omega) h3
          exact ⟨(t, c0, c1, c2, c3), h2, hr⟩
        obtain ⟨l, hll, hfy⟩ := pick len hall
        refine ⟨n' / 2 + 1, mkT k nn s (l.map (fun q => q.1)), _, _, _, _, (half2 n').symm, rfl, rdT_mk.2 ⟨_, rfl, some ad, cap, by simp [hll], by simpa [hll] using hlc, hcm, by simp, ?_⟩⟩
        intro z hz i hi
        obtain rfl := Option.some.inj hz
        have hi' : i < l.length := by simpa using hi
        obtain ⟨g1, g2⟩ := hfy i hi'
        obtain ⟨_, _, hcell⟩ := World.cells?_some g1
        have k0 := hcell 0 (by omega)
        have k1 := hcell 1 (by omega)
        have k2 := hcell 2 (by omega)
        have k3 := hcell 3 (by omega)
        rw [Go.Deep.add_add] at k0 k1 k2 k3
        simp only [Nat.add_zero] at k0
        refine ⟨trivial, (l[i]).2.1, (l[i]).2.2.1, (l[i]).2.2.2.1, (l[i]).2.2.2.2, ?_, by simpa using k0, by simpa using k1, by simpa using k2, by simpa using k3⟩
        simp only [List.getElem_map]
        exact g2

/-- A tree that came in. -/
theorem open_tree {H : Type} {enc : TypeId × Value → H} {W : World} {v : Value} {x : DataW H} {p : List MemPlace} (hv : ∃ cs, v = .agg cs)
    (h : DataW.Trod enc Tryd.prog W 0 (fun _ => true) true 24 v x p) : ∃ (d : Nat) (t : T d), RdT (fun _ => True) W d t v := by
  obtain ⟨cs, rfl⟩ := hv
  obtain ⟨fuel, hf⟩ := h
  obtain ⟨d, t, c0, c1, c2, c3, _, hcs, hr⟩ := open_node fuel fuel (Nat.le_refl _) hf
  refine ⟨d, t, ?_⟩
  have e : cs = #[c0, c1, c2, c3] := by
    have : cs.toList = [c0, c1, c2, c3] := hcs
    exact Array.toList_inj.1 (by rw [this])
  rw [e]
  exact hr
end Go.Proofs.YtpdhmjjmpofphaaDoor
