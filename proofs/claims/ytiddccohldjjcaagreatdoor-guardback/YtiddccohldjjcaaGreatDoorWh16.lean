import Derived.Test.YtiddccohldjjcaaGreatDoorWh06
import Derived.Test.YtiddccohldjjcaaGreatDoorWh12
import Derived.Test.YtiddccohldjjcaaGreatDoorWh15
import Derived.Deep.RegionHeld
import Derived.Test.YtiddccohldjjcaaGreatDoorWh14
import Derived.Test.YtiddccohldjjcaaGreatDoorRows
import Derived.Lib.LaidU8
import Derived.Lib.LaidTab
import Derived.MakeChecks
import Derived.Test.YtiddccohldjjcaaGreatDoorWh02
import Derived.ProofKit
import Derived.OpenShut
import Derived.ShutString
import Derived.ChangeOld
import Derived.SizedLaws
import Derived.Below
import Derived.Test.YtiddccohldjjcaaGreatDoorWh05

/- What Clean makes of a tree: the walk. -/
namespace Go.Proofs.YtiddccohldjjcaaGreatDoor
open Go.RowKit
set_option linter.unusedSimpArgs false
set_option linter.unusedVariables false

theorem Tryz.infoN : (Tryz.prog.info? 24).map (fun i => (i.zero, i.size, i.bytes)) = some (some (.agg #[.int .i64 0, .int .i64 0, .string ⟨#[]⟩, .slice none 0 0]), 4, 56) := by kernel_rfl

def CleanC (d : Nat) : Prop := ∀ (ok : Nat → Prop) (t : T d) (v : Value) (w : World), RdT ok w d t v →
  Calls Tryz.prog 11 #[v] w fun e w' => ∃ u, e = .returned u ∧ RdT (fun b => w.heap.size ≤ b) w' (d + 1) (cln d t) u ∧ Below w.heap.size w w'

set_option maxRecDepth 100000 in
set_option maxHeartbeats 8000000 in
theorem clean_step (d : Nat) (IH : CleanC d) : CleanC (d + 1) := by
  intro ok t v w h
  obtain ⟨k, n, s, ps, rfl⟩ := T.open t
  obtain ⟨sl, rfl, hp⟩ := rdT_mk.1 h
  obtain ⟨i0, hi, hz0, hz1, hz2⟩ := info_parts Tryz.infoN
  rw [cln_mk]
  by_cases k1 : k = 1
  · subst k1
    rw [if_pos rfl]
    clear hp h
    go_enter Tryz.func11, Tryz.ntmps11
    go_wp2
    exact bodyPost_ret (v := .agg #[.int .i64 1, .int .i64 n, .string ⟨#[]⟩, .slice none 0 0]) (by simp [results, Tryz.results11, go_sem]) rfl ⟨_, rfl, ⟨_, rfl, rdP_none _ _⟩, (((Below.refl _ _).alloc (Nat.le_refl _) _).alloc (by simp) _).alloc (by simp; omega) _⟩
  rw [if_neg k1]
  have e1 : (k == 1) = false := beq_eq_false_iff_ne.2 k1
  by_cases k2 : k = 2
  · subst k2
    rw [if_pos rfl]
    clear hp h
    go_enter Tryz.func11, Tryz.ntmps11
    go_wp2
    exact bodyPost_ret (v := .agg #[.int .i64 2, .int .i64 0, .string s, .slice none 0 0]) (by simp [results, Tryz.results11, go_sem]) rfl ⟨_, rfl, ⟨_, rfl, rdP_none _ _⟩, (((Below.refl _ _).alloc (Nat.le_refl _) _).alloc (by simp) _).alloc (by simp; omega) _⟩
  rw [if_neg k2]
  have e2 : (k == 2) = false := beq_eq_false_iff_ne.2 k2
  by_cases k3 : k = 3
  · subst k3
    rw [if_pos rfl]
    obtain ⟨a, cap, rfl, hlc, hcm, hcell⟩ := hp.form
    have HC : Hid (∀ (i : Nat) (hi : i < ps.length), ∃ b off c0 c1 c2 c3, a = some ⟨b, off, none⟩ ∧ b < w.heap.size ∧ RdT ok w d ps[i] (.agg #[c0, c1, c2, c3]) ∧ w.cell? ⟨b, off + i * 4, none⟩ = some c0 ∧ w.cell? ⟨b, off + i * 4 + 1, none⟩ = some c1 ∧ w.cell? ⟨b, off + i * 4 + 2, none⟩ = some c2 ∧ w.cell? ⟨b, off + i * 4 + 3, none⟩ = some c3) := hcell
    have hLL : ∃ LL : List (T (d + 1)), LL = [prt ps 0] := ⟨_, rfl⟩
    obtain ⟨LL, hLL⟩ := hLL
    have hLn : Hid (LL.length = 1) := by rw [hLL]; rfl
    have HL : Hid (∀ (j : Nat) (hj : j < LL.length), LL[j] = prt ps j) := fun j hj => by
      subst hLL
      match j, hj with
      | 0, _ => rfl
      | 1, hj => first | rfl | simp at hj
      | j + 2, hj => exact absurd hj (by simp)
    rw [← hLL]
    clear hLL hcell
    go_enter Tryz.func11, Tryz.ntmps11
    go_wp2
    go_loopw [32] (fun c wr => ∃ j : Nat, j ≤ 1 ∧ c = .int .i64 (j : Int) ∧ (∃ sv, B4 wr (w.heap.size + 2) (.int .i64 3) (.int .i64 0) (.string ⟨#[]⟩) sv ∧ OwnN wr (w.heap.size + 3) sv (LL.take j)) ∧ B4 wr w.heap.size (.int .i64 3) (.int .i64 n) (.string s) (.slice a ps.length cap) ∧ B4 wr (w.heap.size + 1) (.int .i64 0) (.int .i64 0) (.string ⟨#[]⟩) (.slice none 0 0) ∧ Below w.heap.size w wr) (fun c _ => 1 - (RowKit.intOf c).toNat)
    case atStart =>
      refine ⟨0, by omega, rfl, ⟨_, B4.new _ _ _ _ _ _ _ (by simp), ownN_nil _ _⟩, ?_, ?_, (((Below.refl _ _).alloc (Nat.le_refl _) _).alloc (by simp) _).alloc (by simp; omega) _⟩
      · exact ((B4.new w _ _ _ _ 24 _ rfl).keep ((Below.refl _ _).alloc (Nat.le_refl _) _)).keep ((Below.refl _ _).alloc (Nat.le_refl _) _)
      · exact (B4.new _ _ _ _ _ 24 _ (by simp)).keep ((Below.refl _ _).alloc (Nat.le_refl _) _)
    case round =>
      obtain ⟨j, hj, rfl, ⟨sv, hB2, hO⟩, hB0, hB1, hb⟩ := hrel
      have hln := hLn.out
      have hlen : (LL.take j).length = j := by rw [List.length_take]; omega
      obtain ⟨va, vc, hsv⟩ := hO.form
      rw [hlen] at hsv
      subst hsv
      have hs3 : w.heap.size + 3 ≤ wr.heap.size := by have := hB2.lt; omega
      by_cases hlt : j < 1
      · have i1 : (j : Int) < 1 := by omega
        have i2 : (0 : Int) ≤ (j : Int) := by omega
        have hLj := HL.out j (by omega)
        have htk : LL.take (j + 1) = LL.take j ++ [LL[j]'(by omega)] := List.take_succ_eq_append_getElem (by omega)
        obtain ⟨lj, hlj⟩ : ∃ lj, LL[j]'(by omega) = lj := ⟨_, rfl⟩
        rw [hlj] at hLj htk
        clear hlj
        clear hln
        have bx := (Below.refl wr.heap.size wr).alloc (Nat.le_refl _) (.cells #[.int .i64 0, .int .i64 0, .string ⟨#[]⟩, .slice none 0 0] 24)
        have hX := B4.new wr (.int .i64 0) (.int .i64 0) (.string ⟨#[]⟩) (.slice none 0 0) 24 _ rfl
        have A0 := hB0.keep bx
        have A1 := hB1.keep bx
        have A2 := hB2.keep bx
        have AO := hO.below bx
        have hb1 := hb.alloc hb.size (.cells #[.int .i64 0, .int .i64 0, .string ⟨#[]⟩, .slice none 0 0] 24)
        have hg0 : ∀ g, (Value.slice va j vc).ownBlock = some g → g < wr.heap.size := fun g hg => by obtain ⟨qs, ho, _⟩ := hO; exact (ownsRow_lt ho g hg).2
        by_cases hin : j < ps.length
        · -- a part
          obtain ⟨b, off, c0, c1, c2, c3, rfl, hbl, hr, q0, q1, q2, q3⟩ := HC.out j hin
          have C0 := (hb1.cell (p := ⟨b, off + j * 4, none⟩) hbl).trans q0
          have C1 := (hb1.cell (p := ⟨b, off + j * 4 + 1, none⟩) hbl).trans q1
          have C2 := (hb1.cell (p := ⟨b, off + j * 4 + 2, none⟩) hbl).trans q2
          have C3 := (hb1.cell (p := ⟨b, off + j * 4 + 3, none⟩) hbl).trans q3
          have hcall := IH ok ps[j] _ _ (RdT.below hb1 (Nat.le_refl _) hr)
          have hLc : lj = cln d ps[j] := by rw [hLj]; unfold prt; rw [List.getElem?_eq_getElem hin]
          have i3 : (j : Int) < (ps.length : Int) := by omega
          obtain ⟨a0, a1, a2, a3, _, _, _, _⟩ := id A0
          clear q0 q1 q2 q3 hr hbl hLj
          go_wp2_with (first
            | (go_at_call 11; refine hcall.mono ?_; rintro e w2 ⟨u, rfl, hRu, b2⟩; obtain ⟨ck, cn, cs, cps, hck⟩ := T.open (cln d ps[j]); rw [hck] at hRu; obtain ⟨csl, rfl, hcp⟩ := rdT_mk.1 hRu; obtain ⟨ca, cc, rfl, _⟩ := hcp.form; have D0 := A0.keep b2; have D1 := A1.keep b2; have D2 := A2.keep b2; have DX := hX.keep b2; have bw2 : Below wr.heap.size wr w2 := bx.trans (b2.mono (by simp)); have hb2 := hb1.trans (b2.mono hb1.size); obtain ⟨x0, x1, x2, x3, x4, x5, x6, x7⟩ := id DX; have EX := DX.put (.int .i64 ck) (.int .i64 cn) (.string cs) (.slice ca cps.length cc); obtain ⟨y0, y1, y2, y3, y4, y5, y6, y7⟩ := id EX; have E2 := D2.farPut (X := wr.heap.size) (by omega) (.int .i64 ck) (.int .i64 cn) (.string cs) (.slice ca cps.length cc); obtain ⟨z0, z1, z2, z3, z4, z5, z6, z7⟩ := id E2; have E0 := D0.farPut (X := wr.heap.size) (by omega) (.int .i64 ck) (.int .i64 cn) (.string cs) (.slice ca cps.length cc); have E1 := D1.farPut (X := wr.heap.size) (by omega) (.int .i64 ck) (.int .i64 cn) (.string cs) (.slice ca cps.length cc); have bw3 := below_put bw2 (Nat.le_refl _) (.int .i64 ck) (.int .i64 cn) (.string cs) (.slice ca cps.length cc); have hb3 := below_put hb2 (X := wr.heap.size) (by omega) (.int .i64 ck) (.int .i64 cn) (.string cs) (.slice ca cps.length cc); have hR3 : RdT (fun b => wr.heap.size + 1 ≤ b) (put4 w2 wr.heap.size (.int .i64 ck) (.int .i64 cn) (.string cs) (.slice ca cps.length cc)) (d + 1) lj (.agg #[.int .i64 ck, .int .i64 cn, .string cs, .slice ca cps.length cc]) := (by rw [hLc, hck]; exact RdT.keep (fun b hb _ => ⟨by simpa using hb, heap_put (by have : wr.heap.size + 1 ≤ b := (by simpa using hb); omega) _ _ _ _⟩) hRu); obtain ⟨W3, hW3⟩ : ∃ W3, put4 w2 wr.heap.size (.int .i64 ck) (.int .i64 cn) (.string cs) (.slice ca cps.length cc) = W3 := ⟨_, rfl⟩; rw [hW3] at y0 y1 y2 y3 y4 y5 y6 y7 z0 z1 z2 z3 z4 z5 z6 z7 E0 E1 E2 EX bw3 hb3 hR3; clear hcall a0 a1 a2 a3 C0 C1 C2 C3 D0 D1 D2 DX bw2 hb2 hRu hcp A0 A1 A2 AO hb1 hX bx b2; have hs5 : w.heap.size + 3 ≤ W3.heap.size := Nat.le_trans hs3 bw3.size; obtain ⟨qs, ho4, hql, hqr⟩ := hO.below (bw3.alloc bw3.size (.cells #[.int .i64 ck, .int .i64 cn, .string cs, .slice ca cps.length cc] 24)); rw [hlen] at ho4; have hR4 := RdT.below ((Below.refl W3.heap.size W3).alloc (Nat.le_refl _) (.cells #[.int .i64 ck, .int .i64 cn, .string cs, .slice ca cps.length cc] 24)) (Nat.le_refl _) hR3; clear hO bw3 hR3)
            | (at_builtin; refine wpList_append_lies _ rfl _ _ _ rfl (w.heap.size + 3) 24 i0 (.agg #[.int .i64 0, .int .i64 0, .string ⟨#[]⟩, .slice none 0 0]) 4 56 Tryz.underlying22 hi hz0 hz1 hz2 rfl (by omega) (.slice va j vc) j (celsQ qs) rfl ho4 ⟨W3.heap.size, 0, none⟩ 1 1 [.int .i64 ck, .int .i64 cn, .string cs, .slice ca cps.length cc] rfl rfl (news4 W3 _ _ _ _ _) (by simp [Value.oneCell']) (by omega) (by unfold maxLen; omega) (by omega) (by simp; omega) (W3.heap.size + 1) (by simp) ?_; intro g gcap w5 hown5 hgr5 hat5 hlt5; have OO := OwnN.snoc hlen ho4 hql hqr hown5 hgr5 (by simpa using hat5) hR4 (by omega) (fun x hx => Nat.lt_succ_of_lt (hg0 x hx)); rw [← htk] at OO; have bel5 : Below (w.heap.size + 3) W3 w5 := ((Below.refl _ _).alloc hs5 _).grown hgr5 (by simp; omega) (fun k hk => (World.ownsRow.lt ho4 k hk).1); have G0 := E0.keepB bel5 (by omega); have G1 := E1.keepB bel5 (by omega); have G2 := E2.keepB bel5 (by omega); have hb5 := hb3.trans (bel5.mono (by omega)); obtain ⟨p0, p1, p2, p3, p4, p5, p6, p7⟩ := id G2; clear hown5 hgr5 hat5 hlt5 bel5 ho4 hqr hR4))
          go_roundw
          case rel => exact ⟨j + 1, by omega, by go_num, ⟨_, G2.set3 _, OO.set (by omega) _⟩, G0.far (by omega) _, G1.far (by omega) _, hb5.setCell (by simp; omega) _⟩
          case measure => simp [RowKit.intOf]; omega
        · -- none
          have hLc : lj = none0 := by rw [hLj]; unfold prt; rw [List.getElem?_eq_none (by omega)]
          have i3 : ¬ (j : Int) < (ps.length : Int) := by omega
          obtain ⟨a0, a1, a2, a3, _, _, _, _⟩ := id A0
          obtain ⟨y0, y1, y2, y3, y4, y5, y6, y7⟩ := id hX
          obtain ⟨z0, z1, z2, z3, z4, z5, z6, z7⟩ := id A2
          have hs5 : w.heap.size + 3 ≤ (wr.alloc (.cells #[.int .i64 0, .int .i64 0, .string ⟨#[]⟩, .slice none 0 0] 24)).heap.size := Nat.le_trans hs3 bx.size
          obtain ⟨qs, ho4, hql, hqr⟩ := hO.below (bx.alloc bx.size (.cells #[.int .i64 0, .int .i64 0, .string ⟨#[]⟩, .slice none 0 0] 24))
          rw [hlen] at ho4
          have hR4 : RdT (fun b => wr.heap.size + 1 ≤ b) ((wr.alloc (.cells #[.int .i64 0, .int .i64 0, .string ⟨#[]⟩, .slice none 0 0] 24)).alloc (.cells #[.int .i64 0, .int .i64 0, .string ⟨#[]⟩, .slice none 0 0] 24)) (d + 1) lj (.agg #[.int .i64 0, .int .i64 0, .string ⟨#[]⟩, .slice none 0 0]) := by rw [hLc]; exact rdT_none _ _
          have hnews := news4 (wr.alloc (.cells #[.int .i64 0, .int .i64 0, .string ⟨#[]⟩, .slice none 0 0] 24)) (.int .i64 0) (.int .i64 0) (.string ⟨#[]⟩) (.slice none 0 0) 24
          rw [show (wr.alloc (.cells #[.int .i64 0, .int .i64 0, .string ⟨#[]⟩, .slice none 0 0] 24)).heap.size = wr.heap.size + 1 by simp] at hnews
          clear hLj AO hX hO bx
          go_wp2_with (first
            | (at_builtin; refine wpList_append_lies _ rfl _ _ _ rfl (w.heap.size + 3) 24 i0 (.agg #[.int .i64 0, .int .i64 0, .string ⟨#[]⟩, .slice none 0 0]) 4 56 Tryz.underlying22 hi hz0 hz1 hz2 rfl (by omega) (.slice va j vc) j (celsQ qs) rfl ho4 ⟨wr.heap.size + 1, 0, none⟩ 1 1 [.int .i64 0, .int .i64 0, .string ⟨#[]⟩, .slice none 0 0] rfl rfl hnews (by simp [Value.oneCell']) (by omega) (by unfold maxLen; omega) (by omega) (by simp; omega) (wr.heap.size + 1 + 1) (by simp) ?_; intro g gcap w5 hown5 hgr5 hat5 hlt5; have OO := OwnN.snoc hlen ho4 hql hqr hown5 hgr5 (by simpa using hat5) hR4 (by omega) (fun x hx => Nat.lt_succ_of_lt (hg0 x hx)); rw [← htk] at OO; have bel5 : Below (w.heap.size + 3) (wr.alloc (.cells #[.int .i64 0, .int .i64 0, .string ⟨#[]⟩, .slice none 0 0] 24)) w5 := ((Below.refl _ _).alloc hs5 _).grown hgr5 (by simp; omega) (fun k hk => (World.ownsRow.lt ho4 k hk).1); have G0 := A0.keepB bel5 (by omega); have G1 := A1.keepB bel5 (by omega); have G2 := A2.keepB bel5 (by omega); have hb5 := hb1.trans (bel5.mono (by omega)); obtain ⟨p0, p1, p2, p3, p4, p5, p6, p7⟩ := id G2; clear hown5 hgr5 hat5 hlt5 bel5 ho4 hqr hR4))
          go_roundw
          case rel => exact ⟨j + 1, by omega, by go_num, ⟨_, G2.set3 _, OO.set (by omega) _⟩, G0.far (by omega) _, G1.far (by omega) _, hb5.setCell (by simp; omega) _⟩
          case measure => simp [RowKit.intOf]; omega
      · have i1 : ¬ (j : Int) < 1 := by omega
        have hj2 : j = 1 := by omega
        rw [List.take_of_length_le (by omega)] at hO
        clear hln hlen
        subst hj2
        obtain ⟨z0, z1, z2, z3, z4, z5, z6, z7⟩ := id hB2
        obtain ⟨x0, x1, x2, x3, x4, x5, x6, x7⟩ := id hB1
        have E1 := hB1.put (.int .i64 3) (.int .i64 0) (.string ⟨#[]⟩) (.slice va 1 vc)
        obtain ⟨y0, y1, y2, y3, y4, y5, y6, y7⟩ := id E1
        have bq : Below w.heap.size w (put4 wr (w.heap.size + 1) (.int .i64 3) (.int .i64 0) (.string ⟨#[]⟩) (.slice va 1 vc)) := below_put hb (by omega) _ _ _ _
        have hO2 : OwnN (put4 wr (w.heap.size + 1) (.int .i64 3) (.int .i64 0) (.string ⟨#[]⟩) (.slice va 1 vc)) (w.heap.size + 3) (.slice va 1 vc) LL := hO.keep (fun b hb _ => heap_put (by omega) _ _ _ _)
        clear hB0 hB1 hB2 hO E1
        go_wp2
        exact bodyPost_ret (v := .agg #[.int .i64 3, .int .i64 0, .string ⟨#[]⟩, .slice va 1 vc]) (by simp [results, Tryz.results11, go_sem, y0, y1, y2, y3]) rfl ⟨_, rfl, ⟨_, rfl, OwnN.base hO2.rd (by omega)⟩, bq⟩
  rw [if_neg k3]
  have e3 : (k == 3) = false := beq_eq_false_iff_ne.2 k3
  by_cases k4 : k = 4
  · subst k4
    rw [if_pos rfl]
    obtain ⟨a, cap, rfl, hlc, hcm, hcell⟩ := hp.form
    have HC : Hid (∀ (i : Nat) (hi : i < ps.length), ∃ b off c0 c1 c2 c3, a = some ⟨b, off, none⟩ ∧ b < w.heap.size ∧ RdT ok w d ps[i] (.agg #[c0, c1, c2, c3]) ∧ w.cell? ⟨b, off + i * 4, none⟩ = some c0 ∧ w.cell? ⟨b, off + i * 4 + 1, none⟩ = some c1 ∧ w.cell? ⟨b, off + i * 4 + 2, none⟩ = some c2 ∧ w.cell? ⟨b, off + i * 4 + 3, none⟩ = some c3) := hcell
    have hLL : ∃ LL : List (T (d + 1)), LL = [prt ps 0] := ⟨_, rfl⟩
    obtain ⟨LL, hLL⟩ := hLL
    have hLn : Hid (LL.length = 1) := by rw [hLL]; rfl
    have HL : Hid (∀ (j : Nat) (hj : j < LL.length), LL[j] = prt ps j) := fun j hj => by
      subst hLL
      match j, hj with
      | 0, _ => rfl
      | 1, hj => first | rfl | simp at hj
      | j + 2, hj => exact absurd hj (by simp)
    rw [← hLL]
    clear hLL hcell
    go_enter Tryz.func11, Tryz.ntmps11
    go_wp2
    go_loopw [32] (fun c wr => ∃ j : Nat, j ≤ 1 ∧ c = .int .i64 (j : Int) ∧ (∃ sv, B4 wr (w.heap.size + 2) (.int .i64 4) (.int .i64 0) (.string ⟨#[]⟩) sv ∧ OwnN wr (w.heap.size + 3) sv (LL.take j)) ∧ B4 wr w.heap.size (.int .i64 4) (.int .i64 n) (.string s) (.slice a ps.length cap) ∧ B4 wr (w.heap.size + 1) (.int .i64 0) (.int .i64 0) (.string ⟨#[]⟩) (.slice none 0 0) ∧ Below w.heap.size w wr) (fun c _ => 1 - (RowKit.intOf c).toNat)
    case atStart =>
      refine ⟨0, by omega, rfl, ⟨_, B4.new _ _ _ _ _ _ _ (by simp), ownN_nil _ _⟩, ?_, ?_, (((Below.refl _ _).alloc (Nat.le_refl _) _).alloc (by simp) _).alloc (by simp; omega) _⟩
      · exact ((B4.new w _ _ _ _ 24 _ rfl).keep ((Below.refl _ _).alloc (Nat.le_refl _) _)).keep ((Below.refl _ _).alloc (Nat.le_refl _) _)
      · exact (B4.new _ _ _ _ _ 24 _ (by simp)).keep ((Below.refl _ _).alloc (Nat.le_refl _) _)
    case round =>
      obtain ⟨j, hj, rfl, ⟨sv, hB2, hO⟩, hB0, hB1, hb⟩ := hrel
      have hln := hLn.out
      have hlen : (LL.take j).length = j := by rw [List.length_take]; omega
      obtain ⟨va, vc, hsv⟩ := hO.form
      rw [hlen] at hsv
      subst hsv
      have hs3 : w.heap.size + 3 ≤ wr.heap.size := by have := hB2.lt; omega
      by_cases hlt : j < 1
      · have i1 : (j : Int) < 1 := by omega
        have i2 : (0 : Int) ≤ (j : Int) := by omega
        have hLj := HL.out j (by omega)
        have htk : LL.take (j + 1) = LL.take j ++ [LL[j]'(by omega)] := List.take_succ_eq_append_getElem (by omega)
        obtain ⟨lj, hlj⟩ : ∃ lj, LL[j]'(by omega) = lj := ⟨_, rfl⟩
        rw [hlj] at hLj htk
        clear hlj
        clear hln
        have bx := (Below.refl wr.heap.size wr).alloc (Nat.le_refl _) (.cells #[.int .i64 0, .int .i64 0, .string ⟨#[]⟩, .slice none 0 0] 24)
        have hX := B4.new wr (.int .i64 0) (.int .i64 0) (.string ⟨#[]⟩) (.slice none 0 0) 24 _ rfl
        have A0 := hB0.keep bx
        have A1 := hB1.keep bx
        have A2 := hB2.keep bx
        have AO := hO.below bx
        have hb1 := hb.alloc hb.size (.cells #[.int .i64 0, .int .i64 0, .string ⟨#[]⟩, .slice none 0 0] 24)
        have hg0 : ∀ g, (Value.slice va j vc).ownBlock = some g → g < wr.heap.size := fun g hg => by obtain ⟨qs, ho, _⟩ := hO; exact (ownsRow_lt ho g hg).2
        by_cases hin : j < ps.length
        · -- a part
          obtain ⟨b, off, c0, c1, c2, c3, rfl, hbl, hr, q0, q1, q2, q3⟩ := HC.out j hin
          have C0 := (hb1.cell (p := ⟨b, off + j * 4, none⟩) hbl).trans q0
          have C1 := (hb1.cell (p := ⟨b, off + j * 4 + 1, none⟩) hbl).trans q1
          have C2 := (hb1.cell (p := ⟨b, off + j * 4 + 2, none⟩) hbl).trans q2
          have C3 := (hb1.cell (p := ⟨b, off + j * 4 + 3, none⟩) hbl).trans q3
          have hcall := IH ok ps[j] _ _ (RdT.below hb1 (Nat.le_refl _) hr)
          have hLc : lj = cln d ps[j] := by rw [hLj]; unfold prt; rw [List.getElem?_eq_getElem hin]
          have i3 : (j : Int) < (ps.length : Int) := by omega
          obtain ⟨a0, a1, a2, a3, _, _, _, _⟩ := id A0
          clear q0 q1 q2 q3 hr hbl hLj
          go_wp2_with (first
            | (go_at_call 11; refine hcall.mono ?_; rintro e w2 ⟨u, rfl, hRu, b2⟩; obtain ⟨ck, cn, cs, cps, hck⟩ := T.open (cln d ps[j]); rw [hck] at hRu; obtain ⟨csl, rfl, hcp⟩ := rdT_mk.1 hRu; obtain ⟨ca, cc, rfl, _⟩ := hcp.form; have D0 := A0.keep b2; have D1 := A1.keep b2; have D2 := A2.keep b2; have DX := hX.keep b2; have bw2 : Below wr.heap.size wr w2 := bx.trans (b2.mono (by simp)); have hb2 := hb1.trans (b2.mono hb1.size); obtain ⟨x0, x1, x2, x3, x4, x5, x6, x7⟩ := id DX; have EX := DX.put (.int .i64 ck) (.int .i64 cn) (.string cs) (.slice ca cps.length cc); obtain ⟨y0, y1, y2, y3, y4, y5, y6, y7⟩ := id EX; have E2 := D2.farPut (X := wr.heap.size) (by omega) (.int .i64 ck) (.int .i64 cn) (.string cs) (.slice ca cps.length cc); obtain ⟨z0, z1, z2, z3, z4, z5, z6, z7⟩ := id E2; have E0 := D0.farPut (X := wr.heap.size) (by omega) (.int .i64 ck) (.int .i64 cn) (.string cs) (.slice ca cps.length cc); have E1 := D1.farPut (X := wr.heap.size) (by omega) (.int .i64 ck) (.int .i64 cn) (.string cs) (.slice ca cps.length cc); have bw3 := below_put bw2 (Nat.le_refl _) (.int .i64 ck) (.int .i64 cn) (.string cs) (.slice ca cps.length cc); have hb3 := below_put hb2 (X := wr.heap.size) (by omega) (.int .i64 ck) (.int .i64 cn) (.string cs) (.slice ca cps.length cc); have hR3 : RdT (fun b => wr.heap.size + 1 ≤ b) (put4 w2 wr.heap.size (.int .i64 ck) (.int .i64 cn) (.string cs) (.slice ca cps.length cc)) (d + 1) lj (.agg #[.int .i64 ck, .int .i64 cn, .string cs, .slice ca cps.length cc]) := (by rw [hLc, hck]; exact RdT.keep (fun b hb _ => ⟨by simpa using hb, heap_put (by have : wr.heap.size + 1 ≤ b := (by simpa using hb); omega) _ _ _ _⟩) hRu); obtain ⟨W3, hW3⟩ : ∃ W3, put4 w2 wr.heap.size (.int .i64 ck) (.int .i64 cn) (.string cs) (.slice ca cps.length cc) = W3 := ⟨_, rfl⟩; rw [hW3] at y0 y1 y2 y3 y4 y5 y6 y7 z0 z1 z2 z3 z4 z5 z6 z7 E0 E1 E2 EX bw3 hb3 hR3; clear hcall a0 a1 a2 a3 C0 C1 C2 C3 D0 D1 D2 DX bw2 hb2 hRu hcp A0 A1 A2 AO hb1 hX bx b2; have hs5 : w.heap.size + 3 ≤ W3.heap.size := Nat.le_trans hs3 bw3.size; obtain ⟨qs, ho4, hql, hqr⟩ := hO.below (bw3.alloc bw3.size (.cells #[.int .i64 ck, .int .i64 cn, .string cs, .slice ca cps.length cc] 24)); rw [hlen] at ho4; have hR4 := RdT.below ((Below.refl W3.heap.size W3).alloc (Nat.le_refl _) (.cells #[.int .i64 ck, .int .i64 cn, .string cs, .slice ca cps.length cc] 24)) (Nat.le_refl _) hR3; clear hO bw3 hR3)
            | (at_builtin; refine wpList_append_lies _ rfl _ _ _ rfl (w.heap.size + 3) 24 i0 (.agg #[.int .i64 0, .int .i64 0, .string ⟨#[]⟩, .slice none 0 0]) 4 56 Tryz.underlying22 hi hz0 hz1 hz2 rfl (by omega) (.slice va j vc) j (celsQ qs) rfl ho4 ⟨W3.heap.size, 0, none⟩ 1 1 [.int .i64 ck, .int .i64 cn, .string cs, .slice ca cps.length cc] rfl rfl (news4 W3 _ _ _ _ _) (by simp [Value.oneCell']) (by omega) (by unfold maxLen; omega) (by omega) (by simp; omega) (W3.heap.size + 1) (by simp) ?_; intro g gcap w5 hown5 hgr5 hat5 hlt5; have OO := OwnN.snoc hlen ho4 hql hqr hown5 hgr5 (by simpa using hat5) hR4 (by omega) (fun x hx => Nat.lt_succ_of_lt (hg0 x hx)); rw [← htk] at OO; have bel5 : Below (w.heap.size + 3) W3 w5 := ((Below.refl _ _).alloc hs5 _).grown hgr5 (by simp; omega) (fun k hk => (World.ownsRow.lt ho4 k hk).1); have G0 := E0.keepB bel5 (by omega); have G1 := E1.keepB bel5 (by omega); have G2 := E2.keepB bel5 (by omega); have hb5 := hb3.trans (bel5.mono (by omega)); obtain ⟨p0, p1, p2, p3, p4, p5, p6, p7⟩ := id G2; clear hown5 hgr5 hat5 hlt5 bel5 ho4 hqr hR4))
          go_roundw
          case rel => exact ⟨j + 1, by omega, by go_num, ⟨_, G2.set3 _, OO.set (by omega) _⟩, G0.far (by omega) _, G1.far (by omega) _, hb5.setCell (by simp; omega) _⟩
          case measure => simp [RowKit.intOf]; omega
        · -- none
          have hLc : lj = none0 := by rw [hLj]; unfold prt; rw [List.getElem?_eq_none (by omega)]
          have i3 : ¬ (j : Int) < (ps.length : Int) := by omega
          obtain ⟨a0, a1, a2, a3, _, _, _, _⟩ := id A0
          obtain ⟨y0, y1, y2, y3, y4, y5, y6, y7⟩ := id hX
          obtain ⟨z0, z1, z2, z3, z4, z5, z6, z7⟩ := id A2
          have hs5 : w.heap.size + 3 ≤ (wr.alloc (.cells #[.int .i64 0, .int .i64 0, .string ⟨#[]⟩, .slice none 0 0] 24)).heap.size := Nat.le_trans hs3 bx.size
          obtain ⟨qs, ho4, hql, hqr⟩ := hO.below (bx.alloc bx.size (.cells #[.int .i64 0, .int .i64 0, .string ⟨#[]⟩, .slice none 0 0] 24))
          rw [hlen] at ho4
          have hR4 : RdT (fun b => wr.heap.size + 1 ≤ b) ((wr.alloc (.cells #[.int .i64 0, .int .i64 0, .string ⟨#[]⟩, .slice none 0 0] 24)).alloc (.cells #[.int .i64 0, .int .i64 0, .string ⟨#[]⟩, .slice none 0 0] 24)) (d + 1) lj (.agg #[.int .i64 0, .int .i64 0, .string ⟨#[]⟩, .slice none 0 0]) := by rw [hLc]; exact rdT_none _ _
          have hnews := news4 (wr.alloc (.cells #[.int .i64 0, .int .i64 0, .string ⟨#[]⟩, .slice none 0 0] 24)) (.int .i64 0) (.int .i64 0) (.string ⟨#[]⟩) (.slice none 0 0) 24
          rw [show (wr.alloc (.cells #[.int .i64 0, .int .i64 0, .string ⟨#[]⟩, .slice none 0 0] 24)).heap.size = wr.heap.size + 1 by simp] at hnews
          clear hLj AO hX hO bx
          go_wp2_with (first
            | (at_builtin; refine wpList_append_lies _ rfl _ _ _ rfl (w.heap.size + 3) 24 i0 (.agg #[.int .i64 0, .int .i64 0, .string ⟨#[]⟩, .slice none 0 0]) 4 56 Tryz.underlying22 hi hz0 hz1 hz2 rfl (by omega) (.slice va j vc) j (celsQ qs) rfl ho4 ⟨wr.heap.size + 1, 0, none⟩ 1 1 [.int .i64 0, .int .i64 0, .string ⟨#[]⟩, .slice none 0 0] rfl rfl hnews (by simp [Value.oneCell']) (by omega) (by unfold maxLen; omega) (by omega) (by simp; omega) (wr.heap.size + 1 + 1) (by simp) ?_; intro g gcap w5 hown5 hgr5 hat5 hlt5; have OO := OwnN.snoc hlen ho4 hql hqr hown5 hgr5 (by simpa using hat5) hR4 (by omega) (fun x hx => Nat.lt_succ_of_lt (hg0 x hx)); rw [← htk] at OO; have bel5 : Below (w.heap.size + 3) (wr.alloc (.cells #[.int .i64 0, .int .i64 0, .string ⟨#[]⟩, .slice none 0 0] 24)) w5 := ((Below.refl _ _).alloc hs5 _).grown hgr5 (by simp; omega) (fun k hk => (World.ownsRow.lt ho4 k hk).1); have G0 := A0.keepB bel5 (by omega); have G1 := A1.keepB bel5 (by omega); have G2 := A2.keepB bel5 (by omega); have hb5 := hb1.trans (bel5.mono (by omega)); obtain ⟨p0, p1, p2, p3, p4, p5, p6, p7⟩ := id G2; clear hown5 hgr5 hat5 hlt5 bel5 ho4 hqr hR4))
          go_roundw
          case rel => exact ⟨j + 1, by omega, by go_num, ⟨_, G2.set3 _, OO.set (by omega) _⟩, G0.far (by omega) _, G1.far (by omega) _, hb5.setCell (by simp; omega) _⟩
          case measure => simp [RowKit.intOf]; omega
      · have i1 : ¬ (j : Int) < 1 := by omega
        have hj2 : j = 1 := by omega
        rw [List.take_of_length_le (by omega)] at hO
        clear hln hlen
        subst hj2
        obtain ⟨z0, z1, z2, z3, z4, z5, z6, z7⟩ := id hB2
        obtain ⟨x0, x1, x2, x3, x4, x5, x6, x7⟩ := id hB1
        have E1 := hB1.put (.int .i64 4) (.int .i64 0) (.string ⟨#[]⟩) (.slice va 1 vc)
        obtain ⟨y0, y1, y2, y3, y4, y5, y6, y7⟩ := id E1
        have bq : Below w.heap.size w (put4 wr (w.heap.size + 1) (.int .i64 4) (.int .i64 0) (.string ⟨#[]⟩) (.slice va 1 vc)) := below_put hb (by omega) _ _ _ _
        have hO2 : OwnN (put4 wr (w.heap.size + 1) (.int .i64 4) (.int .i64 0) (.string ⟨#[]⟩) (.slice va 1 vc)) (w.heap.size + 3) (.slice va 1 vc) LL := hO.keep (fun b hb _ => heap_put (by omega) _ _ _ _)
        clear hB0 hB1 hB2 hO E1
        go_wp2
        exact bodyPost_ret (v := .agg #[.int .i64 4, .int .i64 0, .string ⟨#[]⟩, .slice va 1 vc]) (by simp [results, Tryz.results11, go_sem, y0, y1, y2, y3]) rfl ⟨_, rfl, ⟨_, rfl, OwnN.base hO2.rd (by omega)⟩, bq⟩
  rw [if_neg k4]
  have e4 : (k == 4) = false := beq_eq_false_iff_ne.2 k4
  by_cases k5 : k = 5
  · subst k5
    rw [if_pos rfl]
    obtain ⟨a, cap, rfl, hlc, hcm, hcell⟩ := hp.form
    have HC : Hid (∀ (i : Nat) (hi : i < ps.length), ∃ b off c0 c1 c2 c3, a = some ⟨b, off, none⟩ ∧ b < w.heap.size ∧ RdT ok w d ps[i] (.agg #[c0, c1, c2, c3]) ∧ w.cell? ⟨b, off + i * 4, none⟩ = some c0 ∧ w.cell? ⟨b, off + i * 4 + 1, none⟩ = some c1 ∧ w.cell? ⟨b, off + i * 4 + 2, none⟩ = some c2 ∧ w.cell? ⟨b, off + i * 4 + 3, none⟩ = some c3) := hcell
    have hLL : ∃ LL : List (T (d + 1)), LL = [prt ps 0, prt ps 1] := ⟨_, rfl⟩
    obtain ⟨LL, hLL⟩ := hLL
    have hLn : Hid (LL.length = 2) := by rw [hLL]; rfl
    have HL : Hid (∀ (j : Nat) (hj : j < LL.length), LL[j] = prt ps j) := fun j hj => by
      subst hLL
      match j, hj with
      | 0, _ => rfl
      | 1, hj => first | rfl | simp at hj
      | j + 2, hj => exact absurd hj (by simp)
    rw [← hLL]
    clear hLL hcell
    go_enter Tryz.func11, Tryz.ntmps11
    go_wp2
    go_region
    go_wp2
    go_loopw [32] (fun c wr => ∃ j : Nat, j ≤ 2 ∧ c = .int .i64 (j : Int) ∧ (∃ sv, B4 wr (w.heap.size + 2) (.int .i64 5) (.int .i64 0) (.string s) sv ∧ OwnN wr (w.heap.size + 3) sv (LL.take j)) ∧ B4 wr w.heap.size (.int .i64 5) (.int .i64 n) (.string s) (.slice a ps.length cap) ∧ B4 wr (w.heap.size + 1) (.int .i64 0) (.int .i64 0) (.string ⟨#[]⟩) (.slice none 0 0) ∧ Below w.heap.size w wr) (fun c _ => 2 - (RowKit.intOf c).toNat)
    case atStart =>
      refine ⟨0, by omega, rfl, ⟨_, (B4.new _ _ _ _ _ _ _ (by simp)).keep ((Below.refl _ _).drew), ownN_nil _ _⟩, ?_, ?_, ((((Below.refl _ _).alloc (Nat.le_refl _) _).alloc (by simp) _).alloc (by simp; omega) _).drew⟩
      · exact (((B4.new w _ _ _ _ 24 _ rfl).keep ((Below.refl _ _).alloc (Nat.le_refl _) _)).keep ((Below.refl _ _).alloc (Nat.le_refl _) _)).keep ((Below.refl _ _).drew)
      · exact ((B4.new _ _ _ _ _ 24 _ (by simp)).keep ((Below.refl _ _).alloc (Nat.le_refl _) _)).keep ((Below.refl _ _).drew)
    case round =>
      obtain ⟨j, hj, rfl, ⟨sv, hB2, hO⟩, hB0, hB1, hb⟩ := hrel
      have hln := hLn.out
      have hlen : (LL.take j).length = j := by rw [List.length_take]; omega
      obtain ⟨va, vc, hsv⟩ := hO.form
      rw [hlen] at hsv
      subst hsv
      have hs3 : w.heap.size + 3 ≤ wr.heap.size := by have := hB2.lt; omega
      by_cases hlt : j < 2
      · have i1 : (j : Int) < 2 := by omega
        have i2 : (0 : Int) ≤ (j : Int) := by omega
        have hLj := HL.out j (by omega)
        have htk : LL.take (j + 1) = LL.take j ++ [LL[j]'(by omega)] := List.take_succ_eq_append_getElem (by omega)
        obtain ⟨lj, hlj⟩ : ∃ lj, LL[j]'(by omega) = lj := ⟨_, rfl⟩
        rw [hlj] at hLj htk
        clear hlj
        clear hln
        have bx := (Below.refl wr.heap.size wr).alloc (Nat.le_refl _) (.cells #[.int .i64 0, .int .i64 0, .string ⟨#[]⟩, .slice none 0 0] 24)
        have hX := B4.new wr (.int .i64 0) (.int .i64 0) (.string ⟨#[]⟩) (.slice none 0 0) 24 _ rfl
        have A0 := hB0.keep bx
        have A1 := hB1.keep bx
        have A2 := hB2.keep bx
        have AO := hO.below bx
        have hb1 := hb.alloc hb.size (.cells #[.int .i64 0, .int .i64 0, .string ⟨#[]⟩, .slice none 0 0] 24)
        have hg0 : ∀ g, (Value.slice va j vc).ownBlock = some g → g < wr.heap.size := fun g hg => by obtain ⟨qs, ho, _⟩ := hO; exact (ownsRow_lt ho g hg).2
        by_cases hin : j < ps.length
        · -- a part
          obtain ⟨b, off, c0, c1, c2, c3, rfl, hbl, hr, q0, q1, q2, q3⟩ := HC.out j hin
          have C0 := (hb1.cell (p := ⟨b, off + j * 4, none⟩) hbl).trans q0
          have C1 := (hb1.cell (p := ⟨b, off + j * 4 + 1, none⟩) hbl).trans q1
          have C2 := (hb1.cell (p := ⟨b, off + j * 4 + 2, none⟩) hbl).trans q2
          have C3 := (hb1.cell (p := ⟨b, off + j * 4 + 3, none⟩) hbl).trans q3
          have hcall := IH ok ps[j] _ _ (RdT.below hb1 (Nat.le_refl _) hr)
          have hLc : lj = cln d ps[j] := by rw [hLj]; unfold prt; rw [List.getElem?_eq_getElem hin]
          have i3 : (j : Int) < (ps.length : Int) := by omega
          obtain ⟨a0, a1, a2, a3, _, _, _, _⟩ := id A0
          clear q0 q1 q2 q3 hr hbl hLj
          go_wp2_with (first
            | (go_at_call 11; refine hcall.mono ?_; rintro e w2 ⟨u, rfl, hRu, b2⟩; obtain ⟨ck, cn, cs, cps, hck⟩ := T.open (cln d ps[j]); rw [hck] at hRu; obtain ⟨csl, rfl, hcp⟩ := rdT_mk.1 hRu; obtain ⟨ca, cc, rfl, _⟩ := hcp.form; have D0 := A0.keep b2; have D1 := A1.keep b2; have D2 := A2.keep b2; have DX := hX.keep b2; have bw2 : Below wr.heap.size wr w2 := bx.trans (b2.mono (by simp)); have hb2 := hb1.trans (b2.mono hb1.size); obtain ⟨x0, x1, x2, x3, x4, x5, x6, x7⟩ := id DX; have EX := DX.put (.int .i64 ck) (.int .i64 cn) (.string cs) (.slice ca cps.length cc); obtain ⟨y0, y1, y2, y3, y4, y5, y6, y7⟩ := id EX; have E2 := D2.farPut (X := wr.heap.size) (by omega) (.int .i64 ck) (.int .i64 cn) (.string cs) (.slice ca cps.length cc); obtain ⟨z0, z1, z2, z3, z4, z5, z6, z7⟩ := id E2; have E0 := D0.farPut (X := wr.heap.size) (by omega) (.int .i64 ck) (.int .i64 cn) (.string cs) (.slice ca cps.length cc); have E1 := D1.farPut (X := wr.heap.size) (by omega) (.int .i64 ck) (.int .i64 cn) (.string cs) (.slice ca cps.length cc); have bw3 := below_put bw2 (Nat.le_refl _) (.int .i64 ck) (.int .i64 cn) (.string cs) (.slice ca cps.length cc); have hb3 := below_put hb2 (X := wr.heap.size) (by omega) (.int .i64 ck) (.int .i64 cn) (.string cs) (.slice ca cps.length cc); have hR3 : RdT (fun b => wr.heap.size + 1 ≤ b) (put4 w2 wr.heap.size (.int .i64 ck) (.int .i64 cn) (.string cs) (.slice ca cps.length cc)) (d + 1) lj (.agg #[.int .i64 ck, .int .i64 cn, .string cs, .slice ca cps.length cc]) := (by rw [hLc, hck]; exact RdT.keep (fun b hb _ => ⟨by simpa using hb, heap_put (by have : wr.heap.size + 1 ≤ b := (by simpa using hb); omega) _ _ _ _⟩) hRu); obtain ⟨W3, hW3⟩ : ∃ W3, put4 w2 wr.heap.size (.int .i64 ck) (.int .i64 cn) (.string cs) (.slice ca cps.length cc) = W3 := ⟨_, rfl⟩; rw [hW3] at y0 y1 y2 y3 y4 y5 y6 y7 z0 z1 z2 z3 z4 z5 z6 z7 E0 E1 E2 EX bw3 hb3 hR3; clear hcall a0 a1 a2 a3 C0 C1 C2 C3 D0 D1 D2 DX bw2 hb2 hRu hcp A0 A1 A2 AO hb1 hX bx b2; have hs5 : w.heap.size + 3 ≤ W3.heap.size := Nat.le_trans hs3 bw3.size; obtain ⟨qs, ho4, hql, hqr⟩ := hO.below (bw3.alloc bw3.size (.cells #[.int .i64 ck, .int .i64 cn, .string cs, .slice ca cps.length cc] 24)); rw [hlen] at ho4; have hR4 := RdT.below ((Below.refl W3.heap.size W3).alloc (Nat.le_refl _) (.cells #[.int .i64 ck, .int .i64 cn, .string cs, .slice ca cps.length cc] 24)) (Nat.le_refl _) hR3; clear hO bw3 hR3)
            | (at_builtin; refine wpList_append_lies _ rfl _ _ _ rfl (w.heap.size + 3) 24 i0 (.agg #[.int .i64 0, .int .i64 0, .string ⟨#[]⟩, .slice none 0 0]) 4 56 Tryz.underlying22 hi hz0 hz1 hz2 rfl (by omega) (.slice va j vc) j (celsQ qs) rfl ho4 ⟨W3.heap.size, 0, none⟩ 1 1 [.int .i64 ck, .int .i64 cn, .string cs, .slice ca cps.length cc] rfl rfl (news4 W3 _ _ _ _ _) (by simp [Value.oneCell']) (by omega) (by unfold maxLen; omega) (by omega) (by simp; omega) (W3.heap.size + 1) (by simp) ?_; intro g gcap w5 hown5 hgr5 hat5 hlt5; have OO := OwnN.snoc hlen ho4 hql hqr hown5 hgr5 (by simpa using hat5) hR4 (by omega) (fun x hx => Nat.lt_succ_of_lt (hg0 x hx)); rw [← htk] at OO; have bel5 : Below (w.heap.size + 3) W3 w5 := ((Below.refl _ _).alloc hs5 _).grown hgr5 (by simp; omega) (fun k hk => (World.ownsRow.lt ho4 k hk).1); have G0 := E0.keepB bel5 (by omega); have G1 := E1.keepB bel5 (by omega); have G2 := E2.keepB bel5 (by omega); have hb5 := hb3.trans (bel5.mono (by omega)); obtain ⟨p0, p1, p2, p3, p4, p5, p6, p7⟩ := id G2; clear hown5 hgr5 hat5 hlt5 bel5 ho4 hqr hR4))
          go_roundw
          case rel => exact ⟨j + 1, by omega, by go_num, ⟨_, G2.set3 _, OO.set (by omega) _⟩, G0.far (by omega) _, G1.far (by omega) _, hb5.setCell (by simp; omega) _⟩
          case measure => simp [RowKit.intOf]; omega
        · -- none
          have hLc : lj = none0 := by rw [hLj]; unfold prt; rw [List.getElem?_eq_none (by omega)]
          have i3 : ¬ (j : Int) < (ps.length : Int) := by omega
          obtain ⟨a0, a1, a2, a3, _, _, _, _⟩ := id A0
          obtain ⟨y0, y1, y2, y3, y4, y5, y6, y7⟩ := id hX
          obtain ⟨z0, z1, z2, z3, z4, z5, z6, z7⟩ := id A2
          have hs5 : w.heap.size + 3 ≤ (wr.alloc (.cells #[.int .i64 0, .int .i64 0, .string ⟨#[]⟩, .slice none 0 0] 24)).heap.size := Nat.le_trans hs3 bx.size
          obtain ⟨qs, ho4, hql, hqr⟩ := hO.below (bx.alloc bx.size (.cells #[.int .i64 0, .int .i64 0, .string ⟨#[]⟩, .slice none 0 0] 24))
          rw [hlen] at ho4
          have hR4 : RdT (fun b => wr.heap.size + 1 ≤ b) ((wr.alloc (.cells #[.int .i64 0, .int .i64 0, .string ⟨#[]⟩, .slice none 0 0] 24)).alloc (.cells #[.int .i64 0, .int .i64 0, .string ⟨#[]⟩, .slice none 0 0] 24)) (d + 1) lj (.agg #[.int .i64 0, .int .i64 0, .string ⟨#[]⟩, .slice none 0 0]) := by rw [hLc]; exact rdT_none _ _
          have hnews := news4 (wr.alloc (.cells #[.int .i64 0, .int .i64 0, .string ⟨#[]⟩, .slice none 0 0] 24)) (.int .i64 0) (.int .i64 0) (.string ⟨#[]⟩) (.slice none 0 0) 24
          rw [show (wr.alloc (.cells #[.int .i64 0, .int .i64 0, .string ⟨#[]⟩, .slice none 0 0] 24)).heap.size = wr.heap.size + 1 by simp] at hnews
          clear hLj AO hX hO bx
          go_wp2_with (first
            | (at_builtin; refine wpList_append_lies _ rfl _ _ _ rfl (w.heap.size + 3) 24 i0 (.agg #[.int .i64 0, .int .i64 0, .string ⟨#[]⟩, .slice none 0 0]) 4 56 Tryz.underlying22 hi hz0 hz1 hz2 rfl (by omega) (.slice va j vc) j (celsQ qs) rfl ho4 ⟨wr.heap.size + 1, 0, none⟩ 1 1 [.int .i64 0, .int .i64 0, .string ⟨#[]⟩, .slice none 0 0] rfl rfl hnews (by simp [Value.oneCell']) (by omega) (by unfold maxLen; omega) (by omega) (by simp; omega) (wr.heap.size + 1 + 1) (by simp) ?_; intro g gcap w5 hown5 hgr5 hat5 hlt5; have OO := OwnN.snoc hlen ho4 hql hqr hown5 hgr5 (by simpa using hat5) hR4 (by omega) (fun x hx => Nat.lt_succ_of_lt (hg0 x hx)); rw [← htk] at OO; have bel5 : Below (w.heap.size + 3) (wr.alloc (.cells #[.int .i64 0, .int .i64 0, .string ⟨#[]⟩, .slice none 0 0] 24)) w5 := ((Below.refl _ _).alloc hs5 _).grown hgr5 (by simp; omega) (fun k hk => (World.ownsRow.lt ho4 k hk).1); have G0 := A0.keepB bel5 (by omega); have G1 := A1.keepB bel5 (by omega); have G2 := A2.keepB bel5 (by omega); have hb5 := hb1.trans (bel5.mono (by omega)); obtain ⟨p0, p1, p2, p3, p4, p5, p6, p7⟩ := id G2; clear hown5 hgr5 hat5 hlt5 bel5 ho4 hqr hR4))
          go_roundw
          case rel => exact ⟨j + 1, by omega, by go_num, ⟨_, G2.set3 _, OO.set (by omega) _⟩, G0.far (by omega) _, G1.far (by omega) _, hb5.setCell (by simp; omega) _⟩
          case measure => simp [RowKit.intOf]; omega
      · have i1 : ¬ (j : Int) < 2 := by omega
        have hj2 : j = 2 := by omega
        rw [List.take_of_length_le (by omega)] at hO
        clear hln hlen
        subst hj2
        obtain ⟨z0, z1, z2, z3, z4, z5, z6, z7⟩ := id hB2
        obtain ⟨x0, x1, x2, x3, x4, x5, x6, x7⟩ := id hB1
        have E1 := hB1.put (.int .i64 5) (.int .i64 0) (.string s) (.slice va 2 vc)
        obtain ⟨y0, y1, y2, y3, y4, y5, y6, y7⟩ := id E1
        have bq : Below w.heap.size w (put4 wr (w.heap.size + 1) (.int .i64 5) (.int .i64 0) (.string s) (.slice va 2 vc)) := below_put hb (by omega) _ _ _ _
        have hO2 : OwnN (put4 wr (w.heap.size + 1) (.int .i64 5) (.int .i64 0) (.string s) (.slice va 2 vc)) (w.heap.size + 3) (.slice va 2 vc) LL := hO.keep (fun b hb _ => heap_put (by omega) _ _ _ _)
        clear hB0 hB1 hB2 hO E1
        go_wp2
        exact bodyPost_ret (v := .agg #[.int .i64 5, .int .i64 0, .string s, .slice va 2 vc]) (by simp [results, Tryz.results11, go_sem, y0, y1, y2, y3]) rfl ⟨_, rfl, ⟨_, rfl, OwnN.base hO2.rd (by omega)⟩, bq⟩
  rw [if_neg k5]
  have e5 : (k == 5) = false := beq_eq_false_iff_ne.2 k5
  clear hp h
  go_enter Tryz.func11, Tryz.ntmps11
  go_wp2
  refine wp_loop_rounds 1 ?_
  rw [rounds_succ]
  go_wp2
  exact bodyPost_ret (v := .agg #[.int .i64 0, .int .i64 0, .string ⟨#[]⟩, .slice none 0 0]) (by simp [results, Tryz.results11, go_sem]) rfl ⟨_, rfl, rdT_none _ _, (((Below.refl _ _).alloc (Nat.le_refl _) _).alloc (by simp) _).alloc (by simp; omega) _⟩
theorem clean_any : ∀ (d : Nat), CleanC d
  | 0 => fun _ t => Empty.elim t
  | d + 1 => clean_step d (clean_any d)
end Go.Proofs.YtiddccohldjjcaaGreatDoor

/- GuardPrints: the walk. -/
namespace Go.Proofs.YtiddccohldjjcaaGreatDoor
open Go.RowKit Go.Lib
set_option linter.unusedSimpArgs false
set_option linter.unusedVariables false
attribute [local go_sem ↓] Go.wp_at_zero Go.wp_at_succ
set_option maxRecDepth 100000 in
set_option maxHeartbeats 4000000 in
theorem guardPrints_walk {w : World} (hT : Tabs w) (hw : Pow w) {d : Nat} {t : T d} {v : Value} (h : RdT (fun _ => True) w d t v) (q : ByteArray) (hq : q.size ≤ 140737488351232) :
    Calls Tryz.prog 3 #[v, .string q] w fun r w' => r = .returned (.bool true) ∧ Below w.heap.size w w' := by
  match d, t, h with
  | 0, t, _ => exact Empty.elim t
  | d + 1, t, h =>
  obtain ⟨k, n, s, ps, rfl⟩ := T.open t
  have h0 := h
  obtain ⟨sl, rfl, _⟩ := rdT_mk.1 h
  clear h
  have bb := (Below.refl w.heap.size w).alloc (Nat.le_refl _) (.cells #[.int .i64 k, .int .i64 n, .string s, sl] 24)
  have hA := At4.new w (.int .i64 k) (.int .i64 n) (.string s) sl 24
  have h1 := fun w1 => awakeG w1
  have h2 := fun w1 (b : Below w.heap.size w w1) => refSmallTop_any (RdT.below b (Nat.le_refl _) h0)
  have s1 := h1 (w.alloc (.cells #[.int .i64 k, .int .i64 n, .string s, sl] 24))
  by_cases hsm : 0 ≤ sml (d + 1) (mkT k n s ps) 0 200
  case neg =>
    simp only [decide_eq_false hsm] at h2
    clear hsm
    go_enter Tryz.func3, Tryz.ntmps3
    go_wp2_with (first
      | (go_at_call 6; refine s1.mono ?_; rintro r wn ⟨rfl, bn⟩; have bb := bthen bb bn; have hA := hA.on bn; obtain ⟨y0, y1, y2, y3⟩ := id hA; have s2 := h2 wn bb; clear s1)
      | (go_at_call 7; refine s2.mono ?_; rintro r wn ⟨rfl, bn⟩; have bb := bthen bb bn; have hA := hA.on bn; obtain ⟨y0, y1, y2, y3⟩ := id hA; have s3 := h1 wn; clear s2)
      | (go_at_call 6; refine s3.mono ?_; rintro r wn ⟨rfl, bn⟩; have bb := bthen bb bn; clear s3))
    go_ret
    exact ⟨rfl, bb⟩
  simp only [decide_eq_true hsm] at h2
  obtain ⟨hc1, hsh⟩ := small_cln hsm
  have hcl := cl_cln (d + 1) (mkT k n s ps)
  have h5 := fun w1 (b : Below w.heap.size w w1) => theirs_any (d + 1) _ _ _ w1 (RdT.below b (Nat.le_refl _) h0)
  have h6 := fun w1 hp => printP w1 hcl hc1 hsh hp
  rw [exV_cln] at h6
  have h7 := fun w1 (b : Below w.heap.size w w1) => clean_any (d + 1) _ _ _ w1 (RdT.below b (Nat.le_refl _) h0)
  have h8 := fun w1 (lo : Nat) (x : Value) (b : Below w.heap.size w w1) (hx : RdT (fun b => lo ≤ b) w1 (d + 2) (cln (d + 1) (mkT k n s ps)) x) => printR (hT.below b (Nat.le_refl _)) (hw.below b) hx hcl hc1 hsh
  have h9 := fun w1 => pReserved_any q w1
  have h10 := fun w1 => rReserved_any q w1
  obtain ⟨ex, hex⟩ : ∃ ex, exV (d + 1) (mkT k n s ps) = ex := ⟨_, rfl⟩
  have hfo : ex = .nilIface ∨ ∃ u y, ex = .iface u y := by rw [← hex]; exact exV_form _ _
  simp only [hex] at h5 h6
  generalize (⟨(prC (d + 2) (cln (d + 1) (mkT k n s ps))).1.toArray⟩ : ByteArray) = tx at *
  generalize (prC (d + 2) (cln (d + 1) (mkT k n s ps))).2 = no at *
  generalize rsvB (bl q) = zq at *
  clear hex hsm hcl hc1 hsh
  rcases hfo with rfl | ⟨u, y, rfl⟩
  all_goals
    go_enter Tryz.func3, Tryz.ntmps3
    go_wp2_with (first
      | (go_at_call 6; refine s1.mono ?_; rintro r wn ⟨rfl, bn⟩; have bb := bthen bb bn; have hA := hA.on bn; obtain ⟨y0, y1, y2, y3⟩ := id hA; have s2 := h2 wn bb; clear s1)
      | (go_at_call 7; refine s2.mono ?_; rintro r wn ⟨rfl, bn⟩; have bb := bthen bb bn; have hA := hA.on bn; obtain ⟨y0, y1, y2, y3⟩ := id hA; have s3 := h5 wn bb; clear s2)
      | (go_at_call 9; refine s3.mono ?_; rintro r wn ⟨rfl, bn⟩; have bb := bthen bb bn; have hA := hA.on bn; obtain ⟨y0, y1, y2, y3⟩ := id hA; have s4 := h6 wn (hw.below bb); clear s3)
      | (go_at_call 8; refine s4.mono ?_; rintro r wn ⟨rfl, bn⟩; have bb := bthen bb bn; have hA := hA.on bn; obtain ⟨y0, y1, y2, y3⟩ := id hA; have s5 := h7 wn bb; clear s4)
      | (go_at_call 11; refine s5.mono ?_; rintro r wn ⟨x1, rfl, hx1, bn⟩; have bb := bthen bb bn; have hA := hA.on bn; obtain ⟨y0, y1, y2, y3⟩ := id hA; have s6 := h8 wn _ x1 bb hx1; clear s5)
      | (go_at_call 10; refine s6.mono ?_; rintro r wn ⟨rfl, bn⟩; have bb := bthen bb bn; clear s6)
      | (go_at_call 12; refine (h9 _).mono ?_; rintro r wm ⟨rfl, rfl⟩)
      | (go_at_call 13; refine (h10 _).mono ?_; rintro r wm ⟨rfl, rfl⟩))
    go_ret
    exact ⟨rfl, bb⟩
end Go.Proofs.YtiddccohldjjcaaGreatDoor

/- The table of powers of ten, by the row's list. -/
namespace Go.Proofs.YtiddccohldjjcaaGreatDoor
open Go.RowKit Go.Lib
theorem pow_of {w : World} {L : List (String × DataW Unit)} (h : laidMetH Tryz.prog L w) (hp : (L.all fun x => x.2.handleName?.isNone) = true) (m : ("internal/strconv.uint64pow10", Rows.laid_internal_strconv_uint64pow10) ∈ L) : Pow w := by
  rw [MakeChecks.laidMetH_plain _ _ _ hp] at h
  have h1 := Lib.laidMet.reads h m
  have d1 : (Rows.laid_internal_strconv_uint64pow10 : DataW Unit) = Lib.tabData .u64 Lib.pow10Tab := by kernel_rfl
  rw [d1] at h1
  obtain ⟨g, t, cs, fuel, p, hg, ht, hvar, hd⟩ := h1
  have hg2 : ((Tryz.prog.globalNamed "internal/strconv.uint64pow10").bind fun g => (Tryz.prog.globals[g]?).map (·.type)) = some 140 := by kernel_rfl
  rw [hg, Option.bind_some, ht] at hg2
  obtain rfl := Option.some.inj hg2
  unfold Pow Lib.TabIs
  rw [hvar, ← cells_of_tab Tryz.underlying140 Tryz.underlying117 (by kernel_rfl) (by kernel_rfl) hd]
end Go.Proofs.YtiddccohldjjcaaGreatDoor

/- An argument that is a slice of bytes, opened: the bytes that it reads as, each from 0 to 255, and their number within the form's reach. -/
namespace Go.Proofs.YtiddccohldjjcaaGreatDoor
open Go.ChangeShapes Go.WideShapes Go.ChangeAt Go.RowKit

/-- What the datum of a slice of len elements is. -/
def IsSlice {H : Type} (d : DataW H) (len : Nat) : Prop := (d = .nil ∧ len = 0) ∨ ∃ elems spare, d = .slice elems spare ∧ elems.length = len

theorem open_bytes {H : Type} {enc : TypeId × Value → H} {P : Program} {W : World} {t e : TypeId} {a : Option Addr} {len cap : Nat} {d : DataW H} {p : List MemPlace}
    (ht : P.underlying t = some (.slice e)) (he : P.underlying e = some (.int .u8)) (hc : P.cellsOf e = 1) (h : DataW.Trod enc P W 0 (fun _ => true) true t (.slice a len cap) d p) :
    ∃ bs, Rd W (.slice a len cap) bs ∧ (∀ x ∈ bs, 0 ≤ x ∧ x ≤ 255) ∧ bs.length = len ∧ IsSlice d len := by
  obtain ⟨fuel, hf⟩ := h
  rcases open_ints ht he hc hf with ⟨hcs, hx⟩ | ⟨x, l, c, zs, hcs, _, hl, hm, hz, hx, hcell, hwz⟩
  · simp [Value.cells] at hcs
    obtain ⟨rfl, rfl, rfl⟩ := hcs
    simp only [Prod.mk.injEq] at hx
    exact ⟨[], ⟨none, 0, rfl, by simp, by simp [maxLen], by simp, fun x hx => by cases hx⟩, by simp, rfl, .inl ⟨hx.1, rfl⟩⟩
  · simp [Value.cells] at hcs
    obtain ⟨rfl, rfl, rfl⟩ := hcs
    simp only [Prod.mk.injEq] at hx
    have hzc : zs.length = cap := by simpa using hz
    have hlen : (zs.take len).length = len := by rw [List.length_take]; omega
    refine ⟨zs.take len, ⟨some x, cap, by rw [hlen], by omega, hm, by simp, ?_⟩, ?_, hlen, .inr ⟨_, _, hx.1, by simp [lits]; omega⟩⟩
    · intro y hy i hi
      obtain rfl := Option.some.inj hy
      rw [hlen] at hi
      rw [hcell i (by omega)]
      simp [List.getD, hi]
    · intro n hn
      have := hwz n (List.mem_of_mem_take hn)
      simpa [Lit.wf, IntKind.min, IntKind.max, IntKind.signed, IntKind.bits] using this

theorem sized_bytes {H : Type} {P : Program} {ts : List TypeId} {ds : List (DataW H)} (h : (DataW.weightsEach P ts ds).all (· ≤ reachBytes) = true) {j : Nat} {t e : TypeId} {d : DataW H} {len : Nat}
    (ht : ts[j]? = some t) (hd : ds[j]? = some d) (hu : P.underlying t = some (.slice e)) (hb : P.bytesOf e = 1) (hs : IsSlice d len) : len ≤ 140737488351232 := by
  rcases hs with ⟨_, rfl⟩ | ⟨elems, spare, rfl, hl⟩
  · omega
  · have := sized_slice h ht hd hu
    rw [hb] at this
    simp only [reachBytes] at this
    omega

theorem sized_text {H : Type} {P : Program} {ts : List TypeId} {ds : List (DataW H)} (h : (DataW.weightsEach P ts ds).all (· ≤ reachBytes) = true) {j : Nat} {t : TypeId} {s : ByteArray}
    (ht : ts[j]? = some t) (hd : ds[j]? = some (.lit (.string s.data.toList))) : s.size ≤ 140737488351232 := by
  have := sized_string h ht hd
  simp only [reachBytes, Array.length_toList] at this
  exact this

end Go.Proofs.YtiddccohldjjcaaGreatDoor

/- Variables in memory; what an expression's value is. -/
namespace Go.Proofs.YtiddccohldjjcaaGreatDoor
open Go.RowKit Go.Lib
set_option linter.unusedSimpArgs false
set_option linter.unusedVariables false

abbrev Vr := ByteArray × Int
/-- The slice v reads as the variables vs. -/
def RdV (w : World) (v : Value) (vs : List Vr) : Prop :=
  ∃ a cap, v = .slice a vs.length cap ∧ vs.length ≤ cap ∧ cap ≤ maxLen ∧ (a = none → vs = []) ∧
    ∀ x, a = some x → ∀ (i : Nat) (h : i < vs.length), w.cell? (x.add (i * 2)) = some (.string (vs[i]).1) ∧ w.cell? (x.add (i * 2 + 1)) = some (.int .i64 (vs[i]).2)
theorem RdV.below {w w' : World} {v : Value} {vs : List Vr} {B : Nat} (h : RdV w v vs) (hb : Below B w w') (hB : w.heap.size ≤ B) : RdV w' v vs := by
  obtain ⟨a, cap, rfl, hc, hm, hn, hcell⟩ := h
  refine ⟨a, cap, rfl, hc, hm, hn, fun x hx i hi => ?_⟩
  obtain ⟨h1, h2⟩ := hcell x hx i hi
  have hk : ∀ p u, w.cell? p = some u → w'.cell? p = some u := fun p u hp => by rw [hb.cell (Nat.lt_of_lt_of_le (World.block_lt_of_cell? w _ hp) hB)]; exact hp
  exact ⟨hk _ _ h1, hk _ _ h2⟩
theorem RdV.form {w : World} {v : Value} {vs : List Vr} (h : RdV w v vs) : ∃ a cap, v = .slice a vs.length cap ∧ vs.length ≤ cap ∧ cap ≤ 9223372036854775807 ∧
    ∀ (i : Nat) (hi : i < vs.length), ∃ b off, a = some ⟨b, off, none⟩ ∧ b < w.heap.size ∧ w.cell? ⟨b, off + i * 2, none⟩ = some (.string (vs[i]).1) ∧ w.cell? ⟨b, off + i * 2 + 1, none⟩ = some (.int .i64 (vs[i]).2) := by
  obtain ⟨a, cap, rfl, hc, hm, hn, hcell⟩ := h
  refine ⟨a, cap, rfl, hc, by unfold maxLen at hm; omega, fun i hi => ?_⟩
  cases a with
  | none => have := hn rfl; subst this; simp at hi
  | some x =>
    obtain ⟨b, off, spot⟩ := x
    obtain ⟨h1, h2⟩ := hcell _ rfl i hi
    obtain ⟨z1, _⟩ := hcell _ rfl 0 (by omega)
    have hspot : spot = none := by simpa [Addr.add] using World.cell?_spot z1
    subst hspot
    rw [add_plain] at h1 h2
    exact ⟨b, off, rfl, World.block_lt_of_cell? w _ h1, h1, h2⟩

def wth (n : Int) : Int × Int := if n < -1000000000 ∨ 1000000000 < n then (0, 3) else (n, 0)
def tru (b : Bool) : Int := if b = true then 1 else 0
def look : List Vr → ByteArray → Int × Int
  | [], _ => (0, 5)
  | x :: r, s => if x.1 = s then wth x.2 else look r s
def bin (s : List UInt8) (x y : Int) : Int × Int :=
  if s = [43] then wth (x + y) else if s = [45] then wth (x - y) else if s = [42] then wth (x * y) else if s = [60] then (tru (decide (x < y)), 0) else if s = [60, 61] then (tru (decide (x ≤ y)), 0)
  else if s = [61, 61] then (tru (x == y), 0) else if s = [33, 61] then (tru (x != y), 0) else (tru (y != 0), 0)
/-- The value, and the error, of a formed expression. -/
def evC (vs : List Vr) : (d : Nat) → T d → Int × Int := fold (fun k n s l =>
  if k = 1 then (n, 0) else if k = 2 then look vs s else if (l.getD 0 (0, 0)).2 ≠ 0 then (0, (l.getD 0 (0, 0)).2) else if k = 3 then (tru ((l.getD 0 (0, 0)).1 == 0), 0) else if k = 4 then (-(l.getD 0 (0, 0)).1, 0)
  else if bl s = [38, 38] ∧ (l.getD 0 (0, 0)).1 = 0 then (0, 0) else if bl s = [124, 124] ∧ (l.getD 0 (0, 0)).1 ≠ 0 then (1, 0)
  else if (l.getD 1 (0, 0)).2 ≠ 0 then (0, (l.getD 1 (0, 0)).2) else bin (bl s) (l.getD 0 (0, 0)).1 (l.getD 1 (0, 0)).1)
theorem evC_1 (vs : List Vr) {d : Nat} (n : Int) (s : ByteArray) (ps : List (T d)) : evC vs (d + 1) (mkT 1 n s ps) = (n, 0) := rfl
theorem evC_2 (vs : List Vr) {d : Nat} (n : Int) (s : ByteArray) (ps : List (T d)) : evC vs (d + 1) (mkT 2 n s ps) = look vs s := rfl
theorem evC_3 (vs : List Vr) {d : Nat} (n : Int) (s : ByteArray) (p : T d) : evC vs (d + 1) (mkT 3 n s [p]) = if (evC vs d p).2 ≠ 0 then (0, (evC vs d p).2) else (tru ((evC vs d p).1 == 0), 0) := rfl
theorem evC_4 (vs : List Vr) {d : Nat} (n : Int) (s : ByteArray) (p : T d) : evC vs (d + 1) (mkT 4 n s [p]) = if (evC vs d p).2 ≠ 0 then (0, (evC vs d p).2) else (-(evC vs d p).1, 0) := rfl
theorem evC_5 (vs : List Vr) {d : Nat} (n : Int) (s : ByteArray) (p q : T d) : evC vs (d + 1) (mkT 5 n s [p, q]) = if (evC vs d p).2 ≠ 0 then (0, (evC vs d p).2)
    else if bl s = [38, 38] ∧ (evC vs d p).1 = 0 then (0, 0) else if bl s = [124, 124] ∧ (evC vs d p).1 ≠ 0 then (1, 0)
    else if (evC vs d q).2 ≠ 0 then (0, (evC vs d q).2) else bin (bl s) (evC vs d p).1 (evC vs d q).1 := rfl
theorem wth_bd (n : Int) : -1000000000 ≤ (wth n).1 ∧ (wth n).1 ≤ 1000000000 := by unfold wth; split <;> simp only <;> omega
theorem tru_bd (b : Bool) : 0 ≤ tru b ∧ tru b ≤ 1 := by unfold tru; split <;> omega
theorem look_bd : ∀ (vs : List Vr) (s : ByteArray), -1000000000 ≤ (look vs s).1 ∧ (look vs s).1 ≤ 1000000000
  | [], s => by simp [look]
  | x :: r, s => by
    unfold look
    split
    · exact wth_bd _
    · exact look_bd r s
theorem bin_bd (s : List UInt8) (x y : Int) : -1000000000 ≤ (bin s x y).1 ∧ (bin s x y).1 ≤ 1000000000 := by
  unfold bin
  have h1 := wth_bd (x + y)
  have h2 := wth_bd (x - y)
  have h3 := wth_bd (x * y)
  have h4 := tru_bd (decide (x < y))
  have h5 := tru_bd (decide (x ≤ y))
  have h6 := tru_bd (x == y)
  have h7 := tru_bd (x != y)
  have h8 := tru_bd (y != 0)
  repeat' split
  all_goals first | assumption | (simp only; omega)
theorem evC_bd (vs : List Vr) : ∀ (d : Nat) (t : T d), Cl d t → sdC d t = true → -1000000000 ≤ (evC vs d t).1 ∧ (evC vs d t).1 ≤ 1000000000
  | 0, t, _, _ => Empty.elim t
  | d + 1, t, hc, hs => by
    rcases hc.cases with ⟨n, rfl⟩ | ⟨s, rfl⟩ | ⟨k, p, hk, rfl, hp⟩ | ⟨s, p, q, rfl, hp, hq⟩ | rfl
    · rw [sdC_mk, if_pos rfl] at hs
      simp only [Bool.and_eq_true, decide_eq_true_eq] at hs
      rw [evC_1]; simp only; omega
    · rw [evC_2]; exact look_bd _ _
    · have hsp : sdC d p = true := by
        rw [sdC_mk, if_neg (by omega), if_neg (by omega), if_pos hk] at hs
        simpa using hs
      have ih := evC_bd vs d p hp hsp
      have ht := tru_bd ((evC vs d p).1 == 0)
      rcases hk with rfl | rfl
      · rw [evC_3]; split <;> simp only <;> omega
      · rw [evC_4]; split <;> simp only <;> omega
    · have hb := bin_bd (bl s) (evC vs d p).1 (evC vs d q).1
      rw [evC_5]
      repeat' split
      all_goals first | exact hb | (simp only; omega)
    · unfold none0 at hs
      rw [sdC_mk] at hs
      simp at hs
end Go.Proofs.YtiddccohldjjcaaGreatDoor
