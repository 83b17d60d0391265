import Derived.Test.YtifgbioacknjpaaGreatDoorWsc17
import Derived.Test.YtifgbioacknjpaaGreatDoorWsc08
import Derived.Test.YtifgbioacknjpaaGreatDoorWsc19
import Derived.Test.YtifgbioacknjpaaGreatDoorWsc16
import Derived.Test.YtifgbioacknjpaaGreatDoorWsc14
import Derived.Test.YtifgbioacknjpaaGreatDoorRows
import Derived.Test.YtifgbioacknjpaaGreatDoorWsc02
import Derived.Deep.RegionHeld
import Derived.Deep.DrawnRows
import Derived.Test.YtifgbioacknjpaaGreatDoorWsc10
import Derived.Deep.RegionHeldLaw
import Derived.Deep.RegionLaw
import Derived.Test.YtifgbioacknjpaaGreatDoorWsc18
import Derived.Test.YtifgbioacknjpaaGreatDoorWsc11

/- The document's Formed. -/
namespace Go.Proofs.YtifgbioacknjpaaGreatDoor
open Go.RowKit Go.Lib
set_option linter.unusedSimpArgs false
set_option linter.unusedVariables false
attribute [local go_sem ↓] Go.wp_at_zero Go.wp_at_succ

def DChK (d : Nat) (c : ChD d) : Prop := c.1.1.length ≤ 140737488351232 ∧ (∀ v ∈ c.2.2.1, v.1.length ≤ 140737488351232) ∧ ∀ s ∈ c.2.2.2, DStK d s
theorem fd_call1 (d : Nat) {ok : Nat → Prop} {w wr : World} {l : List (St d)} {a : Option Addr} {m cap : Nat} (h : RdK ok w 11 (rStD d ok w) l (.slice a m cap)) (j : Nat) (hj : j < l.length) (hk : DStK d l[j]) (hT : Tabs wr) (hb : Below w.heap.size w wr) (bx : Bool) (hx : stF d 1 l[j] = bx) : ∃ b off gn gl gc ga ge gd gu gw gr q1 q2 q3 q4 q5 q6, a = some ⟨b, off, none⟩ ∧ wr.cell? ⟨b, off + j * 11, none⟩ = some (.string gn) ∧ wr.cell? ⟨b, off + j * 11 + 1, none⟩ = some (.int .i64 gl) ∧ wr.cell? ⟨b, off + j * 11 + 2, none⟩ = some (.int .i64 gc) ∧ wr.cell? ⟨b, off + j * 11 + 3, none⟩ = some (.bool ga) ∧ wr.cell? ⟨b, off + j * 11 + 4, none⟩ = some (.bool ge) ∧ wr.cell? ⟨b, off + j * 11 + 5, none⟩ = some (.string gd) ∧ wr.cell? ⟨b, off + j * 11 + 6, none⟩ = some (.string gu) ∧ wr.cell? ⟨b, off + j * 11 + 7, none⟩ = some (.int .i64 gw) ∧ wr.cell? ⟨b, off + j * 11 + 8, none⟩ = some (.int .i64 gr) ∧ wr.cell? ⟨b, off + j * 11 + 9, none⟩ = some (.slice q1 q2 q3) ∧ wr.cell? ⟨b, off + j * 11 + 10, none⟩ = some (.slice q4 q5 q6) ∧ Calls Tryz.prog 48 #[.agg #[.string gn, .int .i64 gl, .int .i64 gc, .bool ga, .bool ge, .string gd, .string gu, .int .i64 gw, .int .i64 gr, .slice q1 q2 q3, .slice q4 q5 q6], .int .i64 1] wr fun e w' => e = .returned (.bool bx) ∧ Below wr.heap.size wr w' := by
  obtain ⟨b, off, gn, gl, gc, ga, ge, gd, gu, gw, gr, q1, q2, q3, q4, q5, q6, ha, _, hbl, hrd, hco⟩ := stD_let h j hj
  have hc1 := fd_any d ok wr l[j] _ 1 ((kp_stD d) hrd (fun k hk hl => ⟨hk, hb.block k hl⟩)) hk hT (by omega)
  have e : ((1 : Nat) : Int) = 1 := rfl
  rw [hx, e] at hc1
  refine ⟨b, off, gn, gl, gc, ga, ge, gd, gu, gw, gr, q1, q2, q3, q4, q5, q6, ha, ?_, ?_, ?_, ?_, ?_, ?_, ?_, ?_, ?_, ?_, ?_, hc1⟩
  · exact (hb.cell (p := ⟨b, off + j * 11 + 0, none⟩) hbl).trans (hco 0 _ rfl)
  · exact (hb.cell (p := ⟨b, off + j * 11 + 1, none⟩) hbl).trans (hco 1 _ rfl)
  · exact (hb.cell (p := ⟨b, off + j * 11 + 2, none⟩) hbl).trans (hco 2 _ rfl)
  · exact (hb.cell (p := ⟨b, off + j * 11 + 3, none⟩) hbl).trans (hco 3 _ rfl)
  · exact (hb.cell (p := ⟨b, off + j * 11 + 4, none⟩) hbl).trans (hco 4 _ rfl)
  · exact (hb.cell (p := ⟨b, off + j * 11 + 5, none⟩) hbl).trans (hco 5 _ rfl)
  · exact (hb.cell (p := ⟨b, off + j * 11 + 6, none⟩) hbl).trans (hco 6 _ rfl)
  · exact (hb.cell (p := ⟨b, off + j * 11 + 7, none⟩) hbl).trans (hco 7 _ rfl)
  · exact (hb.cell (p := ⟨b, off + j * 11 + 8, none⟩) hbl).trans (hco 8 _ rfl)
  · exact (hb.cell (p := ⟨b, off + j * 11 + 9, none⟩) hbl).trans (hco 9 _ rfl)
  · exact (hb.cell (p := ⟨b, off + j * 11 + 10, none⟩) hbl).trans (hco 10 _ rfl)
theorem vD_call {ok : Nat → Prop} {w : World} {l : List (List UInt8 × Int × Pl)} {a : Option Addr} {m cap : Nat} (h : RdK ok w 4 (rVarD ok w) l (.slice a m cap)) (j : Nat) (hj : j < l.length) (hk : l[j].1.length ≤ 140737488351232) : ∃ b off gn gi, a = some ⟨b, off, none⟩ ∧ gn.size ≤ 140737488351232 ∧ varF l[j] = (plainB (bl gn) && decide (-1000000000 ≤ gi ∧ gi ≤ 1000000000)) ∧ ∀ wr, Below w.heap.size w wr → wr.cell? ⟨b, off + j * 4, none⟩ = some (.string gn) ∧ wr.cell? ⟨b, off + j * 4 + 1, none⟩ = some (.int .i64 gi) := by
  obtain ⟨a1, cap1, he, h1, h2, h3⟩ := h
  simp only [Value.slice.injEq] at he
  obtain ⟨rfl, rfl, rfl⟩ := he
  obtain ⟨b, off, cs, ha, ho, hbl, hl, hr, hc⟩ := h3 j hj
  obtain rfl : cs = varD l[j] := hr
  obtain ⟨gn, g1, g2, g3⟩ := strD _ hk
  refine ⟨b, off, gn, l[j].2.1, ha, g3, by rw [g2]; rfl, fun wr hb => ⟨?_, ?_⟩⟩
  · rw [← g1]; exact (hb.cell (p := ⟨b, off + j * 4 + 0, none⟩) hbl).trans (hc 0 _ rfl)
  · exact (hb.cell (p := ⟨b, off + j * 4 + 1, none⟩) hbl).trans (hc 1 _ rfl)
set_option maxRecDepth 100000 in
set_option maxHeartbeats 4000000 in
theorem dformed_any (d : Nat) (ok : Nat → Prop) (w : World) (c : ChD d) (v : Value) (h : RdD ok w d c v) (hk : DChK d c) (hT : Tabs w) : Calls Tryz.prog 18 #[v] w fun e w' => e = .returned (.bool (chF d c)) ∧ Below w.heap.size w w' := by
  obtain ⟨sv, ss, rfl, hVs, hSt⟩ := h
  obtain ⟨p1, p3, rfl, hp1, hp2⟩ := hVs.form
  obtain ⟨p4, p6, rfl, hp4, hp5⟩ := hSt.form
  unfold maxLen at hp2 hp5
  obtain ⟨k1, k2, k3⟩ := hk
  obtain ⟨sn, e1, e2, e3⟩ := strD _ k1
  obtain ⟨m, hm⟩ : ∃ m, c.2.2.1.length = m := ⟨_, rfl⟩
  obtain ⟨i, hi⟩ : ∃ m, c.2.2.2.length = m := ⟨_, rfl⟩
  obtain ⟨nv, hnv⟩ : ∃ x, c.2.1 = x := ⟨_, rfl⟩
  obtain ⟨sl, hsl⟩ : ∃ x, c.1.2.1 = x := ⟨_, rfl⟩
  obtain ⟨sc, hsc⟩ : ∃ x, c.1.2.2 = x := ⟨_, rfl⟩
  obtain ⟨bv, hbv⟩ : ∃ x, c.2.2.1.all varF = x := ⟨_, rfl⟩
  obtain ⟨bi, hbi⟩ : ∃ x, c.2.2.2.all (stF d 1) = x := ⟨_, rfl⟩
  have hV : chF d c = (plainB (bl sn) && nbB nv && bv && bi) := by
    rw [e2, ← hbv, ← hbi, ← hnv]; rfl
  obtain ⟨V, hVV⟩ : ∃ x, chF d c = x := ⟨_, rfl⟩
  rw [hVV]
  rw [hVV] at hV
  rw [e1, hm, hi, hnv, hsl, hsc]
  have HV := mkHid hV
  have HBV := mkHid hbv
  have HBI := mkHid hbi
  have HVS := mkHid hVs
  have HST := mkHid hSt
  have HM := mkHid hm
  have HI := mkHid hi
  have HK2 := mkHid k2
  have HK3 := mkHid k3
  rw [hm] at hp1
  rw [hi] at hp4
  have hal : Below w.heap.size w (w.alloc (.cells #[.string sn, .int .i64 nv, .int .i64 sl, .int .i64 sc, .slice p1 m p3, .slice p4 i p6] 27)) := (Below.refl w.heap.size w).alloc (Nat.le_refl _) _
  have hX : Bn (w.alloc (.cells #[.string sn, .int .i64 nv, .int .i64 sl, .int .i64 sc, .slice p1 m p3, .slice p4 i p6] 27)) w.heap.size [.string sn, .int .i64 nv, .int .i64 sl, .int .i64 sc, .slice p1 m p3, .slice p4 i p6] := Bn.new w [.string sn, .int .i64 nv, .int .i64 sl, .int .i64 sc, .slice p1 m p3, .slice p4 i p6] 27 _ rfl
  have hpl : ∀ (s : ByteArray), s.size ≤ 140737488351232 → ∀ w1, Below w.heap.size w w1 → Calls Tryz.prog 46 #[.string s] w1 fun e w' => e = .returned (.bool (plainB (bl s))) ∧ Below w1.heap.size w1 w' := fun s hs w1 b1 => plain_any (hT.below b1 (Nat.le_refl _)) s hs
  clear e1 e2 k1 k2 k3 hm hi hnv hsl hsc hbv hbi hV hVV hVs hSt
  go_enter Tryz.func18, Tryz.ntmps18
  go_upto_region 1 with fail
  generalize (w.alloc (.cells #[.string sn, .int .i64 nv, .int .i64 sl, .int .i64 sc, .slice p1 m p3, .slice p4 i p6] 27)) = wx at *
  have hlt := hX.lt
  obtain ⟨x0, _⟩ := hX 0 _ rfl
  obtain ⟨bn, hbn⟩ : ∃ x, plainB (bl sn) = x := ⟨_, rfl⟩
  have hp1a := hpl sn e3 _ hal
  rw [hbn] at hp1a
  have HBN := mkHid hbn
  clear hbn
  cases bn with
  | false =>
    have e : V = false := by rw [HV.out, HBN.out]; simp
    subst e
    go_wp2_with (first
      | (go_at_call 46; refine hp1a.mono ?_; rintro e w1 ⟨rfl, b1⟩)
      | fail)
    go_ret
    exact ⟨rfl, hal.trans (b1.mono hal.size)⟩
  | true =>
    obtain ⟨cn, hcn⟩ : ∃ x, nbB nv = x := ⟨_, rfl⟩
    have hnu : ∀ w, Calls Tryz.prog 47 #[.int .i64 nv] w fun e w' => e = .returned (.bool cn) ∧ w = w' := fun w => by rw [← hcn]; exact dnumber_any nv w
    have HCN := mkHid hcn
    clear hcn
    cases cn with
    | false =>
      have e : V = false := by rw [HV.out, HCN.out]; simp
      subst e
      go_wp2_with (first
        | (go_at_call 46; refine hp1a.mono ?_; rintro e w1 ⟨rfl, b1⟩; have hX1 := hX.on b1; obtain ⟨x1, _⟩ := hX1 1 _ rfl)
        | (go_at_call 47; refine (hnu _).mono ?_; rintro e w2 ⟨rfl, rfl⟩)
        | fail)
      go_ret
      exact ⟨rfl, hal.trans (b1.mono hal.size)⟩
    | true =>
      go_upto_region 3 with (first
        | (go_at_call 46; refine hp1a.mono ?_; rintro e w1 ⟨rfl, b1⟩; have hX1 := hX.on b1; obtain ⟨x1, _⟩ := hX1 1 _ rfl)
        | (go_at_call 47; refine (hnu _).mono ?_; rintro e w2 ⟨rfl, rfl⟩)
        | fail)
      have hb1 := hal.trans (b1.mono hal.size)
      have HV2 : Hid (V = (bv && bi)) := by
        show V = (bv && bi)
        rw [HV.out, HBN.out, HCN.out]; simp
      clear HV HBN HCN hnu hp1a hX hal b1 x0 x1 hlt
      obtain ⟨x4, _⟩ := hX1 4 _ rfl
      go_wp2
      go_loopw [18] (fun ix wr => ∃ (g : Nat), g ≤ m ∧ ix = .int .i64 (g : Int) ∧ Hid (∀ x ∈ c.2.2.1.take g, varF x = true) ∧ Below w1.heap.size w1 wr) (fun ix _ => m - (RowKit.intOf ix).toNat)
      case atStart => exact ⟨0, Nat.zero_le _, rfl, (show Hid _ from fun o ho => by simp at ho), Below.refl _ _⟩
      case round =>
        clear x4
        obtain ⟨g, hg, rfl, HO, hbg⟩ := hrel
        have hbr := hb1.trans (hbg.mono hb1.size)
        have hXr := hX1.on hbg
        obtain ⟨x4, _⟩ := hXr 4 _ rfl
        by_cases hgl : g < m
        · have hgt : g < c.2.2.1.length := by rw [HM.out]; exact hgl
          obtain ⟨b0, oo, gn, gi, rfl, hgs, hvf, hce⟩ := vD_call HVS.out g hgt (HK2.out _ (List.getElem_mem hgt))
          have hbad : Hid (varF c.2.2.1[g] = false → V = false) := fun hq => by
            show V = false
            rw [HV2.out, ← HBV.out, List.all_eq_false.2 ⟨_, List.getElem_mem hgt, by rw [hq]; decide⟩]; rfl
          have HVF := mkHid hvf
          obtain ⟨O0, _⟩ := hce _ hbr
          have hp2a := hpl gn hgs _ hbr
          obtain ⟨bn, hbn⟩ : ∃ x, plainB (bl gn) = x := ⟨_, rfl⟩
          rw [hbn] at hp2a
          have HBN := mkHid hbn
          have HCE := mkHid hce
          clear hbn hvf hce
          have i3 : (g : Int) < (m : Int) := by omega
          have i4 : (0 : Int) ≤ (g : Int) := by omega
          cases bn with
          | false =>
            have e : V = false := hbad.out (by rw [HVF.out, HBN.out]; rfl)
            subst e
            go_wp2_with (first
              | (go_at_call 46; refine hp2a.mono ?_; rintro e w7 ⟨rfl, b7⟩)
              | fail)
            go_ret
            exact ⟨rfl, hbr.trans (b7.mono hbr.size)⟩
          | true =>
            by_cases l1 : gi < -1000000000
            · have e : V = false := hbad.out (by rw [HVF.out, decide_eq_false (by omega)]; simp)
              subst e
              go_wp2_with (first
                | (go_at_call 46; refine hp2a.mono ?_; rintro e w7 ⟨rfl, b7⟩; obtain ⟨_, O1⟩ := HCE.out _ (hbr.trans (b7.mono hbr.size)); obtain ⟨y4, _⟩ := (hXr.on b7) 4 _ rfl)
                | fail)
              go_ret
              exact ⟨rfl, hbr.trans (b7.mono hbr.size)⟩
            · by_cases l2 : 1000000000 < gi
              · have e : V = false := hbad.out (by rw [HVF.out, decide_eq_false (by omega)]; simp)
                subst e
                go_wp2_with (first
                  | (go_at_call 46; refine hp2a.mono ?_; rintro e w7 ⟨rfl, b7⟩; obtain ⟨_, O1⟩ := HCE.out _ (hbr.trans (b7.mono hbr.size)); obtain ⟨y4, _⟩ := (hXr.on b7) 4 _ rfl)
                  | fail)
                go_ret
                exact ⟨rfl, hbr.trans (b7.mono hbr.size)⟩
              · have HOK : Hid (varF c.2.2.1[g] = true) := by
                  show varF c.2.2.1[g] = true
                  rw [HVF.out, HBN.out, decide_eq_true (by omega)]; rfl
                go_wp2_with (first
                  | (go_at_call 46; refine hp2a.mono ?_; rintro e w7 ⟨rfl, b7⟩; obtain ⟨_, O1⟩ := HCE.out _ (hbr.trans (b7.mono hbr.size)); obtain ⟨y4, _⟩ := (hXr.on b7) 4 _ rfl)
                  | fail)
                go_roundw
                case rel =>
                  refine ⟨g + 1, hgl, by go_num, ?_, hbg.trans (b7.mono hbg.size)⟩
                  show ∀ s ∈ c.2.2.1.take (g + 1), _
                  rw [List.take_succ_eq_append_getElem hgt]
                  intro s hs
                  rcases List.mem_append.1 hs with hs | hs
                  · exact HO.out s hs
                  · rw [List.mem_singleton.1 hs]; exact HOK.out
                case measure => simp [RowKit.intOf]; omega
        · have i3 : ¬ (g : Int) < (m : Int) := by omega
          have HBT : Hid (V = bi) := by
            show V = bi
            have hs := HO.out
            rw [List.take_of_length_le (by rw [HM.out]; omega)] at hs
            rw [HV2.out, ← HBV.out, List.all_eq_true.2 hs]; rfl
          obtain ⟨x5, _⟩ := hXr 5 _ rfl
          clear HO HV2 HBV hX1 hb1 hbg
          obtain ⟨w5, hw5⟩ : ∃ x, x = wr := ⟨_, rfl⟩
          subst hw5
          go_wp2
          go_loopw [51] (fun ix wr => ∃ (g : Nat), g ≤ i ∧ ix = .int .i64 (g : Int) ∧ Hid (∀ x ∈ c.2.2.2.take g, stF d 1 x = true) ∧ Below w5.heap.size w5 wr) (fun ix _ => i - (RowKit.intOf ix).toNat)
          case atStart => exact ⟨0, Nat.zero_le _, rfl, (show Hid _ from fun o ho => by simp at ho), Below.refl _ _⟩
          case round =>
            clear x5
            obtain ⟨f, hf, rfl, HS, hbf⟩ := hrel
            have hb6 := hbr.trans (hbf.mono hbr.size)
            obtain ⟨x5, _⟩ := (hXr.on hbf) 5 _ rfl
            by_cases hfl : f < i
            · have hft : f < c.2.2.2.length := by rw [HI.out]; exact hfl
              have hkx := HK3.out _ (List.getElem_mem hft)
              have hbad : Hid (stF d 1 c.2.2.2[f] = false → V = false) := fun hq => by
                show V = false
                rw [HBT.out, ← HBI.out, List.all_eq_false.2 ⟨_, List.getElem_mem hft, by rw [hq]; decide⟩]
              obtain ⟨bx, hbx⟩ : ∃ x, stF d 1 c.2.2.2[f] = x := ⟨_, rfl⟩
              obtain ⟨b0, oo, gn, gl, gc, ga, ge, gd, gu, gw, gr, q1, q2, q3, q4, q5, q6, rfl, O0, O1, O2, O3, O4, O5, O6, O7, O8, O9, O10, hc2⟩ := fd_call1 d HST.out f hft hkx (hT.below hb6 (Nat.le_refl _)) hb6 bx hbx
              have HBX := mkHid hbx
              clear hbx hkx
              have i3 : (f : Int) < (i : Int) := by omega
              have i4 : (0 : Int) ≤ (f : Int) := by omega
              cases bx with
              | false =>
                have e : V = false := hbad.out HBX.out
                subst e
                go_wp2_with (first
                  | (go_at_call 48; refine hc2.mono ?_; rintro e w7 ⟨rfl, b7⟩)
                  | fail)
                go_ret
                exact ⟨rfl, hb6.trans (b7.mono hb6.size)⟩
              | true =>
                go_wp2_with (first
                  | (go_at_call 48; refine hc2.mono ?_; rintro e w7 ⟨rfl, b7⟩)
                  | fail)
                go_roundw
                case rel =>
                  refine ⟨f + 1, hfl, by go_num, ?_, hbf.trans (b7.mono hbf.size)⟩
                  show ∀ s ∈ c.2.2.2.take (f + 1), _
                  rw [List.take_succ_eq_append_getElem hft]
                  intro s hs
                  rcases List.mem_append.1 hs with hs | hs
                  · exact HS.out s hs
                  · rw [List.mem_singleton.1 hs]; exact HBX.out
                case measure => simp [RowKit.intOf]; omega
            · have i3 : ¬ (f : Int) < (i : Int) := by omega
              have e : V = true := by
                have hs := HS.out
                rw [List.take_of_length_le (by rw [HI.out]; omega)] at hs
                rw [HBT.out, ← HBI.out, List.all_eq_true]; exact hs
              subst e
              go_wp2
              go_ret
              exact ⟨rfl, hb6⟩
end Go.Proofs.YtifgbioacknjpaaGreatDoor

/- How long a chart's text may be; the document's chart and the program's have one text. Math alone. -/
namespace Go.Proofs.YtifgbioacknjpaaGreatDoor
open Go.RowKit Go.Lib
set_option linter.unusedSimpArgs false
set_option linter.unusedVariables false

theorem flat_le (M : Nat) : ∀ (l : List (List UInt8)), (∀ c ∈ l, c.length ≤ M) → l.flatten.length ≤ l.length * M
  | [], _ => by simp
  | x :: r, h => by
    have h1 := h x (by simp)
    have h2 := flat_le M r (fun c hc => h c (by simp [hc]))
    rw [List.flatten_cons, List.length_append, List.length_cons, Nat.succ_mul]
    omega
theorem mapf_le {α : Type} (f : α → List (List UInt8)) (M : Nat) : ∀ (l : List α), (∀ x ∈ l, (f x).length ≤ M) → (l.map f).flatten.length ≤ l.length * M
  | [], _ => by simp
  | x :: r, h => by
    have h1 := h x (by simp)
    have h2 := mapf_le f M r (fun c hc => h c (by simp [hc]))
    rw [List.map_cons, List.flatten_cons, List.length_append, List.length_cons, Nat.succ_mul]
    omega
/-- Few ons and sets. -/
def CtS : (d : Nat) → St d → Prop
  | 0, t => Empty.elim t
  | d + 1, t => (t.1.2.2.2.2.length ≤ 400 ∧ ∀ o ∈ t.1.2.2.2.2, o.2.2.2.1.length ≤ 400) ∧ ∀ x ∈ t.2, CtS d x
theorem ct_dc : ∀ (d : Nat) (t : St d), SmS d t → CtS d (dcS d t)
  | 0, t, _ => Empty.elim t
  | d + 1, t, h => by
    obtain ⟨⟨_, _, _, h4, h5⟩, h6⟩ := h
    refine ⟨⟨?_, fun o ho => ?_⟩, fun x hx => ?_⟩
    · show (t.1.2.2.2.2.map dcO).length ≤ 400
      rw [List.length_map]; exact h4
    · obtain ⟨o', ho', rfl⟩ := List.mem_map.1 (show o ∈ t.1.2.2.2.2.map dcO from ho)
      show (o'.2.2.2.1.map thT).length ≤ 400
      rw [List.length_map]; exact (h5 o' ho').2.2.2.1
    · obtain ⟨x', hx', rfl⟩ := List.mem_map.1 (show x ∈ t.2.map (dcS d) from hx)
      exact ct_dc d x' (h6 x' hx')
theorem tot_cons {d : Nat} (t : St (d + 1)) (l : List (St (d + 1))) : totS (d + 1) (t :: l) = (1 + totS d t.2) + totS (d + 1) l := by
  show ((t :: l).map (fun t : St (d + 1) => 1 + totS d t.2)).sum = _
  rw [List.map_cons, List.sum_cons]; rfl
theorem tot_dc : ∀ (d : Nat) (l : List (St d)), totS d (l.map (dcS d)) = totS d l
  | 0, l => rfl
  | d + 1, [] => rfl
  | d + 1, t :: l => by
    rw [List.map_cons, tot_cons, tot_cons, tot_dc (d + 1) l]
    show 1 + totS d (t.2.map (dcS d)) + _ = _
    rw [tot_dc d t.2]
theorem onW_cnt (n : Nat) {o : OnC} (h : o.2.2.2.1.length ≤ 400) : (onW n o).length ≤ 405 := by
  unfold onW grdW
  simp only [List.length_append, List.length_map, List.length_cons, List.length_nil]
  split <;> simp <;> omega
theorem kndW_cnt (n : Nat) (h : HdC) : (kndW n h).length ≤ 3 := by
  unfold kndW lnW
  split
  · simp
  · split
    · simp
    · split <;> simp
theorem stW_cnt (d : Nat) (IH : ∀ (n : Nat) (l : List (St d)), (∀ t ∈ l, CtS d t) → (l.map (stW d n)).flatten.length ≤ 162009 * totS d l) (n : Nat) (t : St (d + 1)) (h : CtS (d + 1) t) : (stW (d + 1) n t).length ≤ 162009 * (1 + totS d t.2) := by
  obtain ⟨⟨h1, h2⟩, h3⟩ := h
  have a1 := mapf_le (onW (n + 1)) 405 t.1.2.2.2.2 (fun o ho => onW_cnt _ (h2 o ho))
  have a2 := kndW_cnt (n + 1) t.1
  have a3 := IH (n + 1) t.2 h3
  show (lnW n (stnW t.1.1.1) ++ (kndW (n + 1) t.1 ++ ((t.1.2.2.2.2.map (onW (n + 1))).flatten ++ ((t.2.map (stW d (n + 1))).flatten ++ lnW n [125])))).length ≤ _
  simp only [List.length_append]
  have e1 : ∀ s, (lnW n s).length = 3 := fun s => rfl
  rw [e1, e1]
  have := Nat.mul_le_mul_right 405 h1
  omega
theorem stsW_cnt : ∀ (d n : Nat) (l : List (St d)), (∀ t ∈ l, CtS d t) → (l.map (stW d n)).flatten.length ≤ 162009 * totS d l
  | 0, n, [], _ => by simp
  | 0, n, t :: l, _ => Empty.elim t
  | d + 1, n, [], _ => by simp
  | d + 1, n, t :: l, h => by
    have a1 := stW_cnt d (stsW_cnt d) n t (h t (by simp))
    have a2 := stsW_cnt (d + 1) n l (fun x hx => h x (by simp [hx]))
    rw [List.map_cons, List.flatten_cons, List.length_append, tot_cons, Nat.mul_add]
    omega
theorem chW_len {d : Nat} {c : ChX d} (hf : chF d c = true) (hc : ∀ t ∈ c.2.2.2, StCl d t) (hv : c.2.2.1.length ≤ 200) (ht : totS d c.2.2.2 ≤ 400) (hct : ∀ t ∈ c.2.2.2, CtS d t) : (chW d c).flatten.length ≤ 17592186044416 := by
  have h1 := flat_le 100000 (chW d c) (smL_ch hf hc)
  have h2 := mapf_le varW 3 c.2.2.1 (fun v _ => by unfold varW lnW; simp)
  have h3 := stsW_cnt d 1 c.2.2.2 hct
  have h4 : (chW d c).length ≤ 100000000 := by
    unfold chW
    simp only [List.length_append]
    have e1 : ∀ s, (lnW 0 s).length = 3 := fun s => rfl
    rw [e1, e1]
    have := Nat.mul_le_mul_left 162009 ht
    omega
  have := Nat.mul_le_mul_right 100000 h4
  omega
theorem kd_if (x : Sx) : kdB (clX x) = isIf (exX x) := by
  rw [← exX_cl]
  show kdB ⟨x.1 + 1, cln x.1 x.2⟩ = isIf (exV (x.1 + 1) (cln x.1 x.2))
  rcases Cl.cases (cl_cln x.1 x.2) with ⟨n, h⟩ | ⟨q, h⟩ | ⟨k, p, hk, h, _⟩ | ⟨q, p1, p2, h, _, _⟩ | h
  · rw [h]; rfl
  · rw [h]; rfl
  · rw [h]
    rcases hk with rfl | rfl <;> rfl
  · rw [h]; rfl
  · rw [h]; rfl
theorem grd_same (g : Bool × Sx) : (dcG g).1 = (g.1 && isIf (exX g.2)) ∧ ((dcG g).1 = true → (dcG g).2 = clX g.2) := by
  refine ⟨by show (g.1 && kdB (clX g.2)) = _; rw [kd_if], fun h => ?_⟩
  have h2 : (g.1 && kdB (clX g.2)) = true := h
  rw [Bool.and_eq_true] at h2
  show (if g.1 = true then clX g.2 else noX) = _
  rw [if_pos h2.1]
theorem onF_dc (o : OnC) : onF (dcO o) = onF (thO o) := by
  obtain ⟨h1, h2⟩ := grd_same o.2.1
  show (plainB o.1 && ((!(dcG o.2.1).1 || exF (dcG o.2.1).2) && (plainB o.2.2.1 && (o.2.2.2.1.map thT).all setF))) = (plainB o.1 && ((!(o.2.1.1 && isIf (exX o.2.1.2)) || exF (clX o.2.1.2)) && (plainB o.2.2.1 && (o.2.2.2.1.map thT).all setF)))
  rw [← h1]
  cases hb : (dcG o.2.1).1 with
  | false => rfl
  | true => rw [h2 hb]
theorem onQ_dc (n : Nat) (o : OnC) : onQ n (dcO o) = onQ n (thO o) := by
  obtain ⟨h1, h2⟩ := grd_same o.2.1
  have e : grdQ (dcO o).2.1 = grdQ (thO o).2.1 := by
    show (if (dcG o.2.1).1 = true then [spQ, kwQ wIf, spQ] ++ exQ (dcG o.2.1).2 else []) = (if (o.2.1.1 && isIf (exX o.2.1.2)) = true then [spQ, kwQ wIf, spQ] ++ exQ (clX o.2.1.2) else [])
    rw [← h1]
    cases hb : (dcG o.2.1).1 with
    | false => rfl
    | true => rw [h2 hb]
  unfold onQ
  rw [e]; rfl
theorem stF_dc : ∀ (d n : Nat) (t : St d), stF d n (dcS d t) = stF d n (thS d t)
  | 0, _, t => Empty.elim t
  | d + 1, n, t => by
    show (decide (n ≤ 6) && plainB t.1.1.1 && kndF t.1 && (t.1.2.2.2.2.map dcO).all onF && (t.2.map (dcS d)).all (stF d (n + 1))) = (decide (n ≤ 6) && plainB t.1.1.1 && kndF t.1 && (t.1.2.2.2.2.map thO).all onF && (t.2.map (thS d)).all (stF d (n + 1)))
    rw [List.all_map, List.all_map, List.all_map, List.all_map]
    have e1 : (onF ∘ dcO) = (onF ∘ thO) := funext fun o => onF_dc o
    have e2 : (stF d (n + 1) ∘ dcS d) = (stF d (n + 1) ∘ thS d) := funext fun x => stF_dc d (n + 1) x
    rw [e1, e2]
theorem stQ_dc : ∀ (d n : Nat) (t : St d), stQ d n (dcS d t) = stQ d n (thS d t)
  | 0, _, t => Empty.elim t
  | d + 1, n, t => by
    show tbQ n ++ ([kwQ wState, spQ, kwQ t.1.1.1, spQ, sgQ 123, nlQ] ++ (kndQ (n + 1) t.1 ++ (((t.1.2.2.2.2.map dcO).map (onQ (n + 1))).flatten ++ (((t.2.map (dcS d)).map (stQ d (n + 1))).flatten ++ (tbQ n ++ [sgQ 125, nlQ]))))) = tbQ n ++ ([kwQ wState, spQ, kwQ t.1.1.1, spQ, sgQ 123, nlQ] ++ (kndQ (n + 1) t.1 ++ (((t.1.2.2.2.2.map thO).map (onQ (n + 1))).flatten ++ (((t.2.map (thS d)).map (stQ d (n + 1))).flatten ++ (tbQ n ++ [sgQ 125, nlQ])))))
    rw [List.map_map, List.map_map, List.map_map, List.map_map]
    have e1 : (onQ (n + 1) ∘ dcO) = (onQ (n + 1) ∘ thO) := funext fun o => onQ_dc (n + 1) o
    have e2 : (stQ d (n + 1) ∘ dcS d) = (stQ d (n + 1) ∘ thS d) := funext fun x => stQ_dc d (n + 1) x
    rw [e1, e2]
theorem chF_dc (d : Nat) (c : ChD d) : chF d (dcC d c) = chF d (thC d c) := by
  show (plainB c.1.1 && nbB c.2.1 && c.2.2.1.all varF && (c.2.2.2.map (dcS d)).all (stF d 1)) = (plainB c.1.1 && nbB c.2.1 && c.2.2.1.all varF && (c.2.2.2.map (thS d)).all (stF d 1))
  rw [List.all_map, List.all_map]
  have e2 : (stF d 1 ∘ dcS d) = (stF d 1 ∘ thS d) := funext fun x => stF_dc d 1 x
  rw [e2]
theorem chQ_dc (d : Nat) (c : ChD d) : chQ d (dcC d c) = chQ d (thC d c) := by
  show [kwQ wChart, spQ, kwQ c.1.1, spQ, nuQ c.2.1, spQ, sgQ 123, nlQ] ++ ((c.2.2.1.map varQ).flatten ++ (((c.2.2.2.map (dcS d)).map (stQ d 1)).flatten ++ [sgQ 125, nlQ])) = [kwQ wChart, spQ, kwQ c.1.1, spQ, nuQ c.2.1, spQ, sgQ 123, nlQ] ++ ((c.2.2.1.map varQ).flatten ++ (((c.2.2.2.map (thS d)).map (stQ d 1)).flatten ++ [sgQ 125, nlQ]))
  rw [List.map_map, List.map_map]
  have e2 : (stQ d 1 ∘ dcS d) = (stQ d 1 ∘ thS d) := funext fun x => stQ_dc d 1 x
  rw [e2]
theorem prG_dc (d : Nat) (c : ChD d) : prG d (dcC d c) = prG d (thC d c) := by
  unfold prG
  rw [chF_dc, chQ_dc]
/-- What the document needs of a small chart. -/
theorem dcO_k {o : OnC} (h : OnS o) : DOnK (dcO o) := by
  obtain ⟨h1, h2, h3, h4, h5⟩ := h
  refine ⟨by show o.1.length ≤ _; omega, by show o.2.2.1.length ≤ _; omega, fun hg => ?_, fun s hs => ?_⟩
  · have e := (grd_same o.2.1).2 hg
    obtain ⟨q1, q2⟩ := smx_ok h3
    show cntX (dcG o.2.1).2 ≤ 1000 ∧ shrt 1000 (dcG o.2.1).2.1 (dcG o.2.1).2.2 = true
    rw [e]
    exact ⟨q2, q1.2.2⟩
  · obtain ⟨s', hs', rfl⟩ := List.mem_map.1 (show s ∈ o.2.2.2.1.map thT from hs)
    obtain ⟨q1, q2⟩ := h5 s' hs'
    obtain ⟨q3, q4⟩ := smx_ok q2
    exact ⟨by show s'.1.length ≤ _; omega, q4, q3.2.2⟩
theorem dcO_cl (o : OnC) : OnCl (dcO o) := ⟨fun hg => by
    have e := (grd_same o.2.1).2 hg
    show ClX (dcG o.2.1).2
    rw [e]
    exact cl_cln _ _, fun s hs => by
  obtain ⟨s', hs', rfl⟩ := List.mem_map.1 (show s ∈ o.2.2.2.1.map thT from hs)
  exact cl_cln _ _⟩
theorem dcS_k : ∀ (d : Nat) (t : St d), SmS d t → DStK d (dcS d t)
  | 0, t, _ => Empty.elim t
  | d + 1, t, h => by
    obtain ⟨⟨h1, h2, h3, h4, h5⟩, h6⟩ := h
    refine ⟨⟨by show t.1.1.1.length ≤ _; omega, by show t.1.2.2.1.1.length ≤ _; omega, by show t.1.2.2.1.2.length ≤ _; omega, fun o ho => ?_⟩, fun x hx => ?_⟩
    · obtain ⟨o', ho', rfl⟩ := List.mem_map.1 (show o ∈ t.1.2.2.2.2.map dcO from ho)
      exact dcO_k (h5 o' ho')
    · obtain ⟨x', hx', rfl⟩ := List.mem_map.1 (show x ∈ t.2.map (dcS d) from hx)
      exact dcS_k d x' (h6 x' hx')
theorem dcS_cl : ∀ (d : Nat) (t : St d), StCl d (dcS d t)
  | 0, t => Empty.elim t
  | d + 1, t => ⟨fun o ho => by
      obtain ⟨o', ho', rfl⟩ := List.mem_map.1 (show o ∈ t.1.2.2.2.2.map dcO from ho)
      exact dcO_cl o', fun x hx => by
      obtain ⟨x', hx', rfl⟩ := List.mem_map.1 (show x ∈ t.2.map (dcS d) from hx)
      exact dcS_cl d x'⟩
/-- A chart that the document prints. -/
def DPr (d : Nat) (c : ChD d) : Prop := DChK d c ∧ (∀ t ∈ c.2.2.2, StCl d t) ∧ c.2.2.1.length ≤ 200 ∧ totS d c.2.2.2 ≤ 400 ∧ ∀ t ∈ c.2.2.2, CtS d t
theorem dpr_dc {d : Nat} {c : ChD d} (h : SmCh d c) (hw : WfC d c) : DPr d (dcC d c) := by
  have hv0 : ∀ v ∈ (thC d c).2.2.1, v.1.length ≤ 140737488351232 := (chK_th h hw).2.1
  have hv : ∀ v ∈ c.2.2.1, v.1.length ≤ 140737488351232 := hv0
  obtain ⟨h1, h2, h3, h4⟩ := h
  have h1' : c.1.1.length ≤ 140737488351232 := by omega
  have e1 : (dcC d c).1.1 = c.1.1 := rfl
  have e2 : (dcC d c).2.2.1 = c.2.2.1 := rfl
  have e3 : (dcC d c).2.2.2 = c.2.2.2.map (dcS d) := rfl
  refine ⟨⟨by rw [e1]; exact h1', by rw [e2]; exact hv, fun t ht => ?_⟩, fun t ht => ?_, by rw [e2]; exact h2, ?_, fun t ht => ?_⟩
  · obtain ⟨t', ht', rfl⟩ := List.mem_map.1 (show t ∈ c.2.2.2.map (dcS d) from ht)
    exact dcS_k d t' (h4 t' ht')
  · obtain ⟨t', ht', rfl⟩ := List.mem_map.1 (show t ∈ c.2.2.2.map (dcS d) from ht)
    exact dcS_cl d t'
  · rw [e3, tot_dc]; exact h3
  · obtain ⟨t', ht', rfl⟩ := List.mem_map.1 (show t ∈ c.2.2.2.map (dcS d) from ht)
    exact ct_dc d t' (h4 t' ht')
/-- What the words say of the text. -/
theorem prG_words {d : Nat} {c : ChX d} (h : chF d c = true) (hc : ∀ t ∈ c.2.2.2, StCl d t) : prG d c = if (wordsS (txQ (chQ d c))).2.2 = 0 then (txQ (chQ d c), 0) else ([], 4) := by
  have hw := words_Q (fitQ_ch h hc)
  unfold prG
  rw [if_pos h]
  by_cases hs : (txQ (chQ d c)).length ≤ 12000 ∧ (tkQ (chQ d c)).length ≤ 3000
  · rw [if_pos hs] at hw ⊢
    have e : (wordsS (txQ (chQ d c))).2.2 = 0 := congrArg Prod.snd hw
    rw [if_pos e]
  · rw [if_neg hs] at hw ⊢
    have e : (wordsS (txQ (chQ d c))).2.2 = 4 := congrArg Prod.snd hw
    rw [if_neg (by rw [e]; decide)]
end Go.Proofs.YtifgbioacknjpaaGreatDoor

/- What the document's Same does. -/
namespace Go.Proofs.YtifgbioacknjpaaGreatDoor
open Go.RowKit Go.Lib
set_option linter.unusedSimpArgs false
set_option linter.unusedVariables false
attribute [local go_sem ↓] Go.wp_at_zero Go.wp_at_succ




theorem vars_cells {ok : Nat → Prop} {w : World} {l : List (List UInt8 × Int × Pl)} {a : Option Addr} {n cap : Nat} (h : RdK ok w 4 (rVarD ok w) l (.slice a n cap)) (j : Nat) (hj : j < l.length) : ∃ b off, a = some ⟨b, off, none⟩ ∧ b < w.heap.size ∧ ∀ i u, (varD l[j])[i]? = some u → w.cell? ⟨b, off + j * 4 + i, none⟩ = some u := by
  obtain ⟨a1, cap1, he, h1, h2, h3⟩ := h
  simp only [Value.slice.injEq] at he
  obtain ⟨rfl, rfl, rfl⟩ := he
  obtain ⟨b, off, cs, ha, _, hb, hl, hr, hc⟩ := h3 j hj
  have hr : cs = varD l[j] := hr
  subst hr
  exact ⟨b, off, ha, hb, hc⟩

set_option maxRecDepth 100000 in
set_option maxHeartbeats 16000000 in
theorem dprint_any (d : Nat) (ok : Nat → Prop) (w : World) (c : ChD d) (v : Value) (h : RdD ok w d c v) (hD : DPr d c) (hT : Tabs w) (hPw : Pow w) : Calls Tryz.prog 16 #[v] w fun e w' => e = .returned (.tuple #[.string ⟨(prG d c).1.toArray⟩, .int .i64 (prG d c).2]) ∧ Below w.heap.size w w' := by
  have hfm := fun w1 (b1 : Below w.heap.size w w1) => dformed_any d ok w1 c v (h.keep (fun k hk hl => ⟨hk, b1.block k hl⟩)) hD.1 (hT.below b1 (Nat.le_refl _))
  obtain ⟨hDK, hDc, hDv, hDt, hDn⟩ := hD
  obtain ⟨sv, ss, rfl, hVs, hSt⟩ := h
  obtain ⟨p1, p3, rfl, hp1, hp2⟩ := hVs.form
  obtain ⟨p4, p6, rfl, hp4, hp5⟩ := hSt.form
  unfold maxLen at hp2 hp5
  obtain ⟨k1, k2, k3⟩ := hDK
  obtain ⟨sn, e1, e2, e3⟩ := strD _ k1
  obtain ⟨m, hm⟩ : ∃ m, c.2.2.1.length = m := ⟨_, rfl⟩
  obtain ⟨i, hi⟩ : ∃ m, c.2.2.2.length = m := ⟨_, rfl⟩
  obtain ⟨nv, hnv⟩ : ∃ x, c.2.1 = x := ⟨_, rfl⟩
  obtain ⟨sl, hsl⟩ : ∃ x, c.1.2.1 = x := ⟨_, rfl⟩
  obtain ⟨sc, hsc⟩ : ∃ x, c.1.2.2 = x := ⟨_, rfl⟩
  rw [e1, hm, hi, hnv, hsl, hsc] at hfm ⊢
  rw [hm] at hp1
  rw [hi] at hp4
  have hal := (Below.refl w.heap.size w).alloc (Nat.le_refl _) (.cells #[.string sn, .int .i64 nv, .int .i64 sl, .int .i64 sc, .slice p1 m p3, .slice p4 i p6] 27)
  have hX : Bn (w.alloc (.cells #[.string sn, .int .i64 nv, .int .i64 sl, .int .i64 sc, .slice p1 m p3, .slice p4 i p6] 27)) w.heap.size [.string sn, .int .i64 nv, .int .i64 sl, .int .i64 sc, .slice p1 m p3, .slice p4 i p6] := Bn.new w [.string sn, .int .i64 nv, .int .i64 sl, .int .i64 sc, .slice p1 m p3, .slice p4 i p6] 27 _ rfl
  have hfm1 := hfm _ hal
  cases hf : chF d c with
  | false =>
    have eP : prG d c = ([], 1) := by unfold prG; rw [hf]; rfl
    rw [eP]
    rw [hf] at hfm1
    obtain ⟨x0, _⟩ := hX 0 _ rfl
    obtain ⟨x1, _⟩ := hX 1 _ rfl
    obtain ⟨x2, _⟩ := hX 2 _ rfl
    obtain ⟨x3, _⟩ := hX 3 _ rfl
    obtain ⟨x4, _⟩ := hX 4 _ rfl
    obtain ⟨x5, _⟩ := hX 5 _ rfl
    clear hf eP hfm hVs hSt
    go_enter Tryz.func16, Tryz.ntmps16
    go_upto_region 1 with fail
    generalize (w.alloc (.cells #[.string sn, .int .i64 nv, .int .i64 sl, .int .i64 sc, .slice p1 m p3, .slice p4 i p6] 27)) = wx at *
    go_wp2_with (first | (go_at_call 18; refine hfm1.mono ?_; rintro e w1 ⟨rfl, b1⟩) | fail)
    go_ret2
    exact ⟨rfl, hal.trans (b1.mono hal.size)⟩
  | true =>
  have hlen := chW_len hf hDc hDv hDt hDn
  have eT := chW_tx hf
  have ePW := prG_words hf hDc
  rw [← eT] at ePW
  obtain ⟨hF1, hF2, hF3, hF4⟩ := chF_parts hf
  rw [hf] at hfm1
  obtain ⟨TOT, hTOT⟩ : ∃ x, (chW d c).flatten = x := ⟨_, rfl⟩
  obtain ⟨RST, hRST⟩ : ∃ x, (c.2.2.2.map (stTd d 1)).flatten ++ [125, 10] = x := ⟨_, rfl⟩
  obtain ⟨RVA, hRVA⟩ : ∃ x, (c.2.2.1.map (fun v => (varW v).flatten)).flatten ++ RST = x := ⟨_, rfl⟩
  obtain ⟨tv, ht1, ht2, _⟩ := letter_of (dcN nv)
  have htot : bl ⟨#[99, 104, 97, 114, 116, 32]⟩ ++ (bl sn ++ ([32] ++ (bl tv ++ ([32, 123, 10] ++ RVA)))) = TOT := by
    rw [← hTOT, chTd_eq, e2, ht2, ← hRVA, ← hRST, hnv]
  rw [hTOT] at hlen ePW
  obtain ⟨o1, H1, a1⟩ := pre_add ⟨#[99, 104, 97, 114, 116, 32]⟩ sn ([32] ++ (bl tv ++ ([32, 123, 10] ++ RVA))) TOT htot hlen
  obtain ⟨o2, H2, a2⟩ := pre_add o1 ⟨#[32]⟩ (bl tv ++ ([32, 123, 10] ++ RVA)) TOT H1.out hlen
  obtain ⟨o3, H3, a3⟩ := pre_add o2 tv ([32, 123, 10] ++ RVA) TOT H2.out hlen
  obtain ⟨o4, H4, a4⟩ := pre_add o3 ⟨#[32, 123, 10]⟩ RVA TOT H3.out hlen
  have hnb : 0 ≤ nv ∧ nv ≤ 1000000000 := by
    have hq := hF2
    rw [hnv] at hq
    exact of_decide_eq_true hq
  have HPW := mkHid ePW
  have HRVA := mkHid hRVA
  have HRST := mkHid hRST
  have HVS := mkHid hVs
  have HST := mkHid hSt
  have HM := mkHid hm
  have HI := mkHid hi
  have HK2 := mkHid k2
  have HK3 := mkHid k3
  have HDC := mkHid hDc
  have HF3 := mkHid hF3
  have HF4 := mkHid hF4
  clear hf eT ePW hF1 hF2 hF3 hF4 hTOT hRST hRVA htot H1 H2 H3 e1 e2 e3 k1 k2 k3 hm hi hnv hsl hsc hVs hSt hDc hfm hDn
  obtain ⟨P1, hP1⟩ : ∃ x : ByteArray, (⟨(prG d c).1.toArray⟩ : ByteArray) = x := ⟨_, rfl⟩
  obtain ⟨P2, hP2⟩ : ∃ x, (prG d c).2 = x := ⟨_, rfl⟩
  rw [hP1, hP2]
  have HP1 := mkHid hP1
  have HP2 := mkHid hP2
  clear hP1 hP2
  have hmv : m ≤ 200 := by rw [← HM.out]; exact hDv
  clear hDv hDt
  go_enter Tryz.func16, Tryz.ntmps16
  go_upto_region 1 with fail
  generalize (w.alloc (.cells #[.string sn, .int .i64 nv, .int .i64 sl, .int .i64 sc, .slice p1 m p3, .slice p4 i p6] 27)) = wx at *
  obtain ⟨x0, _⟩ := hX 0 _ rfl
  obtain ⟨x1, _⟩ := hX 1 _ rfl
  obtain ⟨x2, _⟩ := hX 2 _ rfl
  obtain ⟨x3, _⟩ := hX 3 _ rfl
  obtain ⟨x4, _⟩ := hX 4 _ rfl
  obtain ⟨x5, _⟩ := hX 5 _ rfl
  go_upto_region 3 with (first | (go_at_call 18; refine hfm1.mono ?_; rintro e w1 ⟨rfl, b1⟩) | fail)
  clear x0 x1 x2 x3 x4 x5 hfm1
  have hX1 := hX.on b1
  have hb1 := hal.trans (b1.mono hal.size)
  clear hX hal b1
  go_cut [4] from 13 to 21 (fun u wc => u = .string o4 ∧ Below w.heap.size w wc ∧ Bn wc w.heap.size [.string sn, .int .i64 nv, .int .i64 sl, .int .i64 sc, .slice p1 m p3, .slice p4 i p6])
  case first =>
    have i1 : ∀ w2, Below w1.heap.size w1 w2 → Calls Tryz.prog 37 #[.int .i64 nv] w2 fun e w' => e = .returned (.string tv) ∧ Below w2.heap.size w2 w' := fun w2 bb => by
      rw [← ht1]; exact itoa_any hnb.1 hnb.2 w2 (hPw.below (hb1.trans (bb.mono hb1.size)))
    obtain ⟨c0, _⟩ := hX1 0 _ rfl
    obtain ⟨c1, _⟩ := hX1 1 _ rfl
    have hlt := hX1.lt
    have hB : Below w1.heap.size w1 w1 := Below.refl _ _
    clear HPW HRVA HRST HVS HST HK2 HK3 HDC HF3 HF4 H4
    have y0 := c0
    have y1 := c1
    go_region_held_law (fun w' => w'.cell? ⟨w.heap.size, 0, none⟩ = some (.string sn) ∧ w'.cell? ⟨w.heap.size, 1, none⟩ = some (.int .i64 nv))
      ((refine ⟨?_, ?_⟩ <;> (repeat (first | (with_reducible exact y0) | (with_reducible exact y1) | (with_reducible refine cell_dr ?_))) <;> done))
      (first
        | (go_at_call 37; (first | (with_reducible refine (i1 _ hB).mono ?_) | (with_reducible refine (i1 _ hB.drew).mono ?_)); rintro e w2 ⟨rfl, b2⟩; (first | have hB := Below.nxd hB b2 | have hB := Below.nx hB b2); have y0 := (hB.cell (p := ⟨w.heap.size, 0, none⟩) hlt).trans c0; have y1 := (hB.cell (p := ⟨w.heap.size, 1, none⟩) hlt).trans c1)
        | fail)
    all_goals (
      go_wp2
      go_meet
      case rel => exact ⟨rfl, hb1.trans (hB.mono hb1.size), hX1.on hB⟩)
  case rest =>
  obtain ⟨rfl, hb2, hX2⟩ := hcut
  clear a1 a2 a3 a4 hX1 hb1 ht1 ht2
  obtain ⟨x4, _⟩ := hX2 4 _ rfl
  go_upto_block 0 with fail
  clear x4
  go_cut [4, 5] from 25 to 47 (fun u4 u5 wd => ∃ o5 : ByteArray, u4 = .string o5 ∧ Hid (bl o5 ++ RST = TOT) ∧ Below w.heap.size w wd ∧ Bn wd w.heap.size [.string sn, .int .i64 nv, .int .i64 sl, .int .i64 sc, .slice p1 m p3, .slice p4 i p6])
  case first =>
    clear HPW HRST HST HK3 HDC HF4 HI
    go_wp2_with fail
    go_loopw [4, 25] (fun u4 ix wr => ∃ (g : Nat) (og : ByteArray), g ≤ m ∧ ix = .int .i64 (g : Int) ∧ u4 = .string og ∧ Hid (bl og ++ (((c.2.2.1.drop g).map (fun v => (varW v).flatten)).flatten ++ RST) = TOT) ∧ Below w.heap.size w wr ∧ Bn wr w.heap.size [.string sn, .int .i64 nv, .int .i64 sl, .int .i64 sc, .slice p1 m p3, .slice p4 i p6]) (fun _ ix _ => m - (RowKit.intOf ix).toNat)
    case atStart => exact ⟨0, o4, Nat.zero_le _, rfl, rfl, by show _ = _; rw [List.drop_zero, HRVA.out]; exact H4.out, hb2, hX2⟩
    case round =>
      clear H4 hb2 hX2 HRVA
      obtain ⟨g, og, hg, rfl, rfl, HG, hbr, hXr⟩ := hrel
      by_cases hgl : g < m
      · have hgt : g < c.2.2.1.length := by rw [HM.out]; exact hgl
        have HG2 : Hid (bl og ++ ((varW c.2.2.1[g]).flatten ++ (((c.2.2.1.drop (g + 1)).map (fun v => (varW v).flatten)).flatten ++ RST)) = TOT) := by
          show _ = _
          have := HG.out
          rw [drop_step hgt, List.map_cons, List.flatten_cons, List.append_assoc] at this
          exact this
        clear HG
        obtain ⟨RG, hRG⟩ : ∃ x, ((c.2.2.1.drop (g + 1)).map (fun v => (varW v).flatten)).flatten ++ RST = x := ⟨_, rfl⟩
        rw [hRG] at HG2
        have HRG := mkHid hRG
        obtain ⟨bv, ov, rfl, hbv, hcv⟩ := vars_cells HVS.out g hgt
        have hk := HK2.out _ (List.getElem_mem hgt)
        have hvf := List.all_eq_true.1 HF3.out _ (List.getElem_mem hgt)
        obtain ⟨q, hq⟩ : ∃ x, c.2.2.1[g] = x := ⟨_, rfl⟩
        rw [hq] at hcv hk hvf HG2
        unfold varF at hvf
        rw [Bool.and_eq_true] at hvf
        have hz := of_decide_eq_true hvf.2
        obtain ⟨gn, en1, en2, en3⟩ := strD _ hk
        obtain ⟨gi, hgi⟩ : ∃ x, q.2.1 = x := ⟨_, rfl⟩
        unfold varD at hcv
        rw [en1, hgi] at hcv
        rw [hgi] at hz
        obtain ⟨TZ, hz1, hz2, _⟩ := letter_of (znW gi)
        have HG3 : bl og ++ ([9, 118, 97, 114, 32] ++ (bl gn ++ ([32, 61, 32] ++ (bl TZ ++ ([10] ++ RG))))) = TOT := by
          have := HG2.out
          rw [varTd_eq, hgi] at this
          rw [en2, hz2]
          simp only [List.append_assoc] at this ⊢
          exact this
        obtain ⟨f1, F1, r1⟩ := pre_add og ⟨#[9, 118, 97, 114, 32]⟩ (bl gn ++ ([32, 61, 32] ++ (bl TZ ++ ([10] ++ RG)))) TOT HG3 hlen
        obtain ⟨f2, F2, r2⟩ := pre_add f1 gn ([32, 61, 32] ++ (bl TZ ++ ([10] ++ RG))) TOT F1.out hlen
        obtain ⟨f3, F3, r3⟩ := pre_add f2 ⟨#[32, 61, 32]⟩ (bl TZ ++ ([10] ++ RG)) TOT F2.out hlen
        obtain ⟨f4, F4, r4⟩ := pre_add f3 TZ ([10] ++ RG) TOT F3.out hlen
        obtain ⟨f5, F5, r5⟩ := pre_add f4 ⟨#[10]⟩ RG TOT F4.out hlen
        have ifm : ∀ w2, Below wr.heap.size wr w2 → Calls Tryz.prog 38 #[.int .i64 gi, .int .i64 10] w2 fun e w' => e = .returned (.string TZ) ∧ Below w2.heap.size w2 w' := fun w2 bb => by
          rw [← hz1]
          exact fmtZ_any hz.1 hz.2 w2 (hPw.below (hbr.trans (bb.mono hbr.size)))
        have m0 := (hbr.cell (p := ⟨bv, ov + g * 4 + 0, none⟩) hbv).trans (hcv 0 _ rfl)
        have m1 := (hbr.cell (p := ⟨bv, ov + g * 4 + 1, none⟩) hbv).trans (hcv 1 _ rfl)
        rw [Nat.add_zero] at m0
        have d4 := (hXr 4 _ rfl).1
        have hlt := hXr.lt
        have hbv2 := Nat.lt_of_lt_of_le hbv hbr.size
        clear en1 en2 hz1 hz2 HG2 HG3 F1 F2 F3 F4 hRG hq hcv hvf hk hgi
        have i3 : (g : Int) < (m : Int) := by omega
        have i4 : (0 : Int) ≤ (g : Int) := by omega
        have hB : Below wr.heap.size wr wr := Below.refl _ _
        obtain ⟨X, hXe⟩ : ∃ x, w.heap.size = x := ⟨_, rfl⟩
        have HXE := mkHid hXe
        rw [hXe] at d4 hlt
        simp only [hXe]
        clear hXe
        go_upto_region 7 with fail
        have z4 := d4
        have n0 := m0
        have n1 := m1
        go_region_held_law (fun w' => w'.cell? ⟨X, 4, none⟩ = some (.slice (some ⟨bv, ov, none⟩) m p3) ∧ w'.cell? ⟨bv, ov + g * 4, none⟩ = some (.string gn) ∧ w'.cell? ⟨bv, ov + g * 4 + 1, none⟩ = some (.int .i64 gi))
          ((refine ⟨?_, ?_, ?_⟩ <;> (repeat (first | (with_reducible exact z4) | (with_reducible exact n0) | (with_reducible exact n1) | (with_reducible refine cell_dr ?_))) <;> done))
          (first
            | (go_at_call 38; (first | (with_reducible refine (ifm _ hB).mono ?_) | (with_reducible refine (ifm _ hB.drew).mono ?_)); rintro e w2 ⟨rfl, b2⟩; (first | have hB := Below.nxd hB b2 | have hB := Below.nx hB b2); have z4 := (hB.cell (p := ⟨X, 4, none⟩) hlt).trans d4; have n0 := (hB.cell (p := ⟨bv, ov + g * 4, none⟩) hbv2).trans m0; have n1 := (hB.cell (p := ⟨bv, ov + g * 4 + 1, none⟩) hbv2).trans m1)
            | fail)
        all_goals (
          have hbz := hbr.trans (hB.mono hbr.size)
          have hXz := hXr.on hB
          go_wp2
          go_roundw
          case rel => exact ⟨g + 1, f5, hgl, by go_num, rfl, by show _ = _; rw [HRG.out]; exact F5.out, by rw [← HXE.out]; exact hbz, by rw [← HXE.out]; exact hXz⟩
          case measure => simp [RowKit.intOf]; omega)
      · have i1 : ¬ (g : Int) < (m : Int) := by omega
        have HE : Hid (bl og ++ RST = TOT) := by
          show _ = _
          have := HG.out
          rw [List.drop_of_length_le (by rw [HM.out]; omega)] at this
          exact this
        go_wp2
        go_meet
        case rel => exact ⟨og, rfl, HE, hbr, hXr⟩
  case rest =>
  obtain ⟨o5, rfl, H5, hb3, hX3⟩ := hcut
  clear H4 hb2 hX2 HRVA HVS HK2 HF3 HM
  obtain ⟨x5, _⟩ := hX3 5 _ rfl
  go_upto_block 2 with fail
  clear x5
  go_cut [4, 6] from 51 to 62 (fun u4 u6 we => ∃ o6 : ByteArray, u4 = .string o6 ∧ Hid (bl o6 ++ [125, 10] = TOT) ∧ Below w.heap.size w we)
  case first =>
    clear HPW
    go_wp2_with fail
    go_loopw [4, 51] (fun u4 ix wr => ∃ (g : Nat) (og : ByteArray), g ≤ i ∧ ix = .int .i64 (g : Int) ∧ u4 = .string og ∧ Hid (bl og ++ (((c.2.2.2.drop g).map (stTd d 1)).flatten ++ [125, 10]) = TOT) ∧ Below w.heap.size w wr ∧ Bn wr w.heap.size [.string sn, .int .i64 nv, .int .i64 sl, .int .i64 sc, .slice p1 m p3, .slice p4 i p6]) (fun _ ix _ => i - (RowKit.intOf ix).toNat)
    case atStart => exact ⟨0, o5, Nat.zero_le _, rfl, rfl, by show _ = _; rw [List.drop_zero, HRST.out]; exact H5.out, hb3, hX3⟩
    case round =>
      clear H5 hb3 hX3 HRST
      obtain ⟨g, og, hg, rfl, rfl, HG, hbr, hXr⟩ := hrel
      by_cases hgl : g < i
      · have hgt : g < c.2.2.2.length := by rw [HI.out]; exact hgl
        have HG2 : Hid (bl og ++ (stTd d 1 c.2.2.2[g] ++ (((c.2.2.2.drop (g + 1)).map (stTd d 1)).flatten ++ [125, 10])) = TOT) := by
          show _ = _
          have := HG.out
          rw [drop_step hgt, List.map_cons, List.flatten_cons, List.append_assoc] at this
          exact this
        clear HG
        obtain ⟨RG, hRG⟩ : ∃ x, ((c.2.2.2.drop (g + 1)).map (stTd d 1)).flatten ++ [125, 10] = x := ⟨_, rfl⟩
        rw [hRG] at HG2
        have HRG := mkHid hRG
        obtain ⟨TT, hTT1, hTT2, _⟩ := letter_of (stTd d 1 c.2.2.2[g])
        have hll : (stTd d 1 c.2.2.2[g]).length ≤ 17592186044416 := by
          have := congrArg List.length HG2.out
          simp only [List.length_append] at this
          omega
        obtain ⟨b, off, gn, gl, gc, ga, ge, gd, gu, gw, gr, q1, q2, q3, q4, q5, q6, rfl, g0, g1, g2, g3, g4, g5, g6, g7, g8, g9, g10, hcall⟩ := td_call d (td_any d) (tb := ⟨#[9]⟩) HST.out g hgt (HK3.out _ (List.getElem_mem hgt)) (HDC.out _ (List.getElem_mem hgt)) (List.all_eq_true.1 HF4.out _ (List.getElem_mem hgt)) (hT.below hbr (Nat.le_refl _)) (hPw.below hbr) hbr rfl hll TT hTT1
        obtain ⟨f1, F1, r1⟩ := pre_add og TT RG TOT (by rw [hTT2]; exact HG2.out) hlen
        clear hRG HG2 hll hTT1 hTT2
        obtain ⟨c9, _⟩ := hXr 5 _ rfl
        have i3 : (g : Int) < (i : Int) := by omega
        have i4 : (0 : Int) ≤ (g : Int) := by omega
        go_wp2_with (first | (go_at_call 39; refine hcall.mono ?_; rintro e w1 ⟨rfl, b1⟩) | fail)
        have hbz := hbr.trans (b1.mono hbr.size)
        have hXz := hXr.on b1
        go_roundw
        case rel => exact ⟨g + 1, f1, hgl, by go_num, rfl, by show _ = _; rw [HRG.out]; exact F1.out, hbz, hXz⟩
        case measure => simp [RowKit.intOf]; omega
      · have i1 : ¬ (g : Int) < (i : Int) := by omega
        have HE : Hid (bl og ++ [125, 10] = TOT) := by
          show _ = _
          have := HG.out
          rw [List.drop_of_length_le (by rw [HI.out]; omega)] at this
          exact this
        go_wp2
        go_meet
        case rel => exact ⟨og, rfl, HE, hbr⟩
  case rest =>
  obtain ⟨o6, rfl, H6, hb4⟩ := hcut
  obtain ⟨o7, H7, a7⟩ := pre_add o6 ⟨#[125, 10]⟩ [] TOT (by rw [List.append_nil]; exact H6.out) hlen
  have e7 : bl o7 = TOT := by have := H7.out; rw [List.append_nil] at this; exact this
  have hz7 : o7.size ≤ 140737488351232 := by
    have := congrArg List.length e7
    unfold bl at this
    rw [Array.length_toList] at this
    have h2 : o7.size = TOT.length := this
    omega
  have hW := fun w1 (b1 : Below w.heap.size w w1) => refWords_any o7 w1 (hT.below b1 (Nat.le_refl _)) hz7
  rw [e7] at hW
  have hW1 := hW _ hb4
  have HE7 : Hid (o7 = ⟨TOT.toArray⟩) := ba_bl e7
  clear hW e7 H5 H6 H7 HRST HST HK3 HDC HF4 HI hX3 hb3
  obtain ⟨EW, hEW⟩ : ∃ x, (wordsS TOT).2.2 = x := ⟨_, rfl⟩
  obtain ⟨L1, hL1⟩ : ∃ x, (wordsS TOT).2.1.1 = x := ⟨_, rfl⟩
  obtain ⟨L2, hL2⟩ : ∃ x, (wordsS TOT).2.1.2 = x := ⟨_, rfl⟩
  rw [hEW] at HPW
  rw [hEW, hL1, hL2] at hW1
  clear hEW hL1 hL2
  by_cases hz : EW = 0
  · have eP : prG d c = (TOT, 0) := by rw [HPW.out, if_pos hz]
    have q1 : P1 = o7 := by rw [← HP1.out, eP, HE7.out]
    have q2 : P2 = 0 := by rw [← HP2.out, eP]
    subst hz q1 q2
    clear eP HPW HP1 HP2 HE7
    go_wp2_with (first | (go_at_call 40; refine hW1.mono ?_; rintro e w1 ⟨u, rfl, hown, b1⟩; obtain ⟨ua, uc, rfl, _⟩ := ownW_rdR hown) | fail)
    go_ret2
    exact ⟨rfl, (hb4.trans (b1.mono hb4.size)).alloc (Nat.le_trans hb4.size b1.size) _⟩
  · have eP : prG d c = ([], 4) := by rw [HPW.out, if_neg hz]
    have q1 : P1 = ⟨#[]⟩ := by rw [← HP1.out, eP]
    have q2 : P2 = 4 := by rw [← HP2.out, eP]
    subst q1 q2
    have hz2 : (EW == 0) = false := beq_eq_false_iff_ne.2 hz
    have hz3 : (EW != 0) = true := by simp [bne, hz2]
    clear eP HPW hz HP1 HP2 HE7
    go_wp2_with (first | (go_at_call 40; refine hW1.mono ?_; rintro e w1 ⟨u, rfl, hown, b1⟩; obtain ⟨ua, uc, rfl, _⟩ := ownW_rdR hown) | fail)
    go_ret2
    exact ⟨rfl, (hb4.trans (b1.mono hb4.size)).alloc (Nat.le_trans hb4.size b1.size) _⟩

theorem dclean_res {w4 : World} {R : Nat} {a b c d e f : Value} {tmps : Array Value} (hR : Bn w4 R [a, b, c, d, e, f]) (ht : tmps.getD 2 undef = .pointer (some ⟨R, 0, none⟩)) : (results Tryz.f10 tmps).run Tryz.prog w4 = .ok (.agg #[a, b, c, d, e, f]) w4 := by
  have ht' : tmps[2]?.getD undef = .pointer (some ⟨R, 0, none⟩) := by simpa using ht
  have c0 := (hR 0 _ rfl).1
  have c1 := (hR 1 _ rfl).1
  have c2 := (hR 2 _ rfl).1
  have c3 := (hR 3 _ rfl).1
  have c4 := (hR 4 _ rfl).1
  have c5 := (hR 5 _ rfl).1
  simp [results, Tryz.results10, go_sem, ht', c0, c1, c2, c3, c4, c5]
set_option maxRecDepth 100000 in
set_option maxHeartbeats 2000000 in
theorem dclean_any (d : Nat) (ok : Nat → Prop) (w : World) (c : ChD d) (v : Value) (h : RdD ok w d c v) (hs : SmCh d c) : Calls Tryz.prog 10 #[v] w fun e w' => ∃ u, e = .returned u ∧ RdD (fun b => ok b ∨ w.heap.size ≤ b) w' d (dcC d c) u ∧ Below w.heap.size w w' := by
  obtain ⟨sv, ss, rfl, hVs, hSt⟩ := h
  obtain ⟨p1, p3, rfl, hp1, hp2⟩ := hVs.form
  obtain ⟨p4, p6, rfl, hp4, hp5⟩ := hSt.form
  obtain ⟨sn, e1⟩ : ∃ e, sD c.1.1 = .string e := ⟨_, rfl⟩
  obtain ⟨m, hm⟩ : ∃ m, c.2.2.1.length = m := ⟨_, rfl⟩
  obtain ⟨i, hi⟩ : ∃ m, c.2.2.2.length = m := ⟨_, rfl⟩
  obtain ⟨nv, hnv⟩ : ∃ x, c.2.1 = x := ⟨_, rfl⟩
  obtain ⟨sl, hsl⟩ : ∃ x, c.1.2.1 = x := ⟨_, rfl⟩
  obtain ⟨sc, hsc⟩ : ∃ x, c.1.2.2 = x := ⟨_, rfl⟩
  rw [hm] at hVs
  rw [hi] at hSt
  rw [e1, hm, hi, hnv, hsl, hsc]
  have hcl : ∀ wc, Below w.heap.size w wc → Calls Tryz.prog 26 #[.slice p4 i p6] wc fun e w' => ∃ a n cap, e = .returned (.slice a n cap) ∧ RdK (fun b => wc.heap.size ≤ b) w' 11 (rStD d (fun b => wc.heap.size ≤ b) w') (c.2.2.2.map (dcS d)) (.slice a n cap) ∧ Below wc.heap.size wc w' := fun wc hb => by
    refine (ds_any d ok wc c.2.2.2 _ (hSt.stay (kp_stD d) (fun k hk hl => ⟨hk, hb.block k hl⟩)) hs.2.2.2 hs.2.2.1).mono ?_
    rintro e w' ⟨u, rfl, hr, hbb⟩
    obtain ⟨a, cap, rfl, _⟩ := hr.form
    exact ⟨a, _, cap, rfl, hr, hbb⟩
  have HE1 := mkHid e1
  have HNV := mkHid hnv
  have HSL := mkHid hsl
  have HSC := mkHid hsc
  have HVS := mkHid hVs
  clear e1 hm hi hnv hsl hsc hVs hSt hs hp1 hp2 hp4 hp5
  go_enter Tryz.func10, Tryz.ntmps10
  go_upto_region 1 with fail
  have hal : Below w.heap.size w ((w.alloc (.cells #[.string sn, .int .i64 nv, .int .i64 sl, .int .i64 sc, .slice p1 m p3, .slice p4 i p6] 27)).alloc (.cells #[.string ⟨#[]⟩, .int .i64 0, .int .i64 0, .int .i64 0, .slice none 0 0, .slice none 0 0] 27)) := by
    have h0 : Below w.heap.size w (w.alloc (.cells #[.string sn, .int .i64 nv, .int .i64 sl, .int .i64 sc, .slice p1 m p3, .slice p4 i p6] 27)) := (Below.refl w.heap.size w).alloc (Nat.le_refl _) _
    exact h0.alloc h0.size _
  have hX : Bn ((w.alloc (.cells #[.string sn, .int .i64 nv, .int .i64 sl, .int .i64 sc, .slice p1 m p3, .slice p4 i p6] 27)).alloc (.cells #[.string ⟨#[]⟩, .int .i64 0, .int .i64 0, .int .i64 0, .slice none 0 0, .slice none 0 0] 27)) w.heap.size [.string sn, .int .i64 nv, .int .i64 sl, .int .i64 sc, .slice p1 m p3, .slice p4 i p6] := (Bn.new w [.string sn, .int .i64 nv, .int .i64 sl, .int .i64 sc, .slice p1 m p3, .slice p4 i p6] 27 _ rfl).on ((Below.refl _ _).alloc (Nat.le_refl _) _)
  have hY : Bn ((w.alloc (.cells #[.string sn, .int .i64 nv, .int .i64 sl, .int .i64 sc, .slice p1 m p3, .slice p4 i p6] 27)).alloc (.cells #[.string ⟨#[]⟩, .int .i64 0, .int .i64 0, .int .i64 0, .slice none 0 0, .slice none 0 0] 27)) (w.heap.size + 1) [.string ⟨#[]⟩, .int .i64 0, .int .i64 0, .int .i64 0, .slice none 0 0, .slice none 0 0] := Bn.new (w.alloc (.cells #[.string sn, .int .i64 nv, .int .i64 sl, .int .i64 sc, .slice p1 m p3, .slice p4 i p6] 27)) [.string ⟨#[]⟩, .int .i64 0, .int .i64 0, .int .i64 0, .slice none 0 0, .slice none 0 0] 27 _ (by simp)
  generalize ((w.alloc (.cells #[.string sn, .int .i64 nv, .int .i64 sl, .int .i64 sc, .slice p1 m p3, .slice p4 i p6] 27)).alloc (.cells #[.string ⟨#[]⟩, .int .i64 0, .int .i64 0, .int .i64 0, .slice none 0 0, .slice none 0 0] 27)) = wx at *
  have hlx := hX.lt
  have hly := hY.lt
  obtain ⟨x5, y5⟩ := hX 5 _ rfl
  go_upto_region 2 with (first
    | (go_at_call 26; refine (hcl _ hal).mono ?_; rintro e w2 ⟨qa, qn, qc, rfl, hr, b2⟩; obtain ⟨x6, y6⟩ := (hX.on b2) 5 _ rfl)
    | fail)
  have hb2 := hal.trans (b2.mono hal.size)
  have hX2 := (hX.on b2).set (i := 5) (by simp) (.slice qa qn qc)
  have hY2 := (hY.on b2).far (X := w.heap.size) (i := 5) (by omega) (.slice qa qn qc)
  have hb3 : Below w.heap.size w (w2.setCell ⟨w.heap.size, 5, none⟩ (.slice qa qn qc)) := hb2.setCell (Nat.le_refl _) _
  have hr3 : RdK (fun b => w.heap.size ≤ b ∧ b ≠ w.heap.size + 1) (w2.setCell ⟨w.heap.size, 5, none⟩ (.slice qa qn qc)) 11 (rStD d (fun b => w.heap.size ≤ b ∧ b ≠ w.heap.size + 1) (w2.setCell ⟨w.heap.size, 5, none⟩ (.slice qa qn qc))) (c.2.2.2.map (dcS d)) (.slice qa qn qc) := hr.stay (kp_stD d) (fun k hk hl => ⟨⟨by omega, by omega⟩, Below.heap_setCell _ _ _ _ (fun e => by have : k = w.heap.size := e; omega)⟩)
  generalize w2.setCell ⟨w.heap.size, 5, none⟩ (.slice qa qn qc) = w3 at *
  have HR := mkHid hr3
  clear hr hr3 hX hY hal b2 hb2 hcl x5 y5 x6 y6 hlx hly
  obtain ⟨a0, _⟩ := hX2 0 _ rfl
  obtain ⟨a1, _⟩ := hX2 1 _ rfl
  obtain ⟨a2, _⟩ := hX2 2 _ rfl
  obtain ⟨a3, _⟩ := hX2 3 _ rfl
  obtain ⟨a4, _⟩ := hX2 4 _ rfl
  obtain ⟨a5, _⟩ := hX2 5 _ rfl
  obtain ⟨z0, f0⟩ := hY2 0 _ rfl
  obtain ⟨z1, f1⟩ := hY2 1 _ rfl
  obtain ⟨z2, f2⟩ := hY2 2 _ rfl
  obtain ⟨z3, f3⟩ := hY2 3 _ rfl
  obtain ⟨z4, f4⟩ := hY2 4 _ rfl
  obtain ⟨z5, f5⟩ := hY2 5 _ rfl
  go_wp2
  have hZ := (((((hY2.set (i := 0) (by simp) (.string sn)).set (i := 1) (by simp) (.int .i64 nv)).set (i := 2) (by simp) (.int .i64 sl)).set (i := 3) (by simp) (.int .i64 sc)).set (i := 4) (by simp) (.slice p1 m p3)).set (i := 5) (by simp) (.slice qa qn qc)
  have hbZ : Below w.heap.size w _ := (((((hb3.setCell (p := ⟨w.heap.size + 1, 0, none⟩) (Nat.le_succ _) (.string sn)).setCell (p := ⟨w.heap.size + 1, 1, none⟩) (Nat.le_succ _) (.int .i64 nv)).setCell (p := ⟨w.heap.size + 1, 2, none⟩) (Nat.le_succ _) (.int .i64 sl)).setCell (p := ⟨w.heap.size + 1, 3, none⟩) (Nat.le_succ _) (.int .i64 sc)).setCell (p := ⟨w.heap.size + 1, 4, none⟩) (Nat.le_succ _) (.slice p1 m p3)).setCell (p := ⟨w.heap.size + 1, 5, none⟩) (Nat.le_succ _) (.slice qa qn qc)
  have hfar : ∀ (u : World) (j k : Nat) (x : Value), k ≠ w.heap.size + 1 → (u.setCell ⟨w.heap.size + 1, j, none⟩ x).heap[k]? = u.heap[k]? := fun u j k x hk => Below.heap_setCell _ _ _ _ (fun e => hk e)
  refine bodyPost_ret (dclean_res hZ rfl) rfl ⟨_, rfl, ⟨_, _, ?_, HVS.out.stay kp_varD (fun k hk hl => ⟨Or.inl hk, hbZ.block k hl⟩), HR.out.stay (kp_stD d) (fun k hk hl => ⟨Or.inr hk.1, by rw [hfar _ _ _ _ hk.2, hfar _ _ _ _ hk.2, hfar _ _ _ _ hk.2, hfar _ _ _ _ hk.2, hfar _ _ _ _ hk.2, hfar _ _ _ _ hk.2]⟩)⟩, hbZ⟩
  show _ = Value.agg #[sD c.1.1, .int .i64 c.2.1, .int .i64 c.1.2.1, .int .i64 c.1.2.2, _, _]
  rw [HE1.out, HNV.out, HSL.out, HSC.out]
end Go.Proofs.YtifgbioacknjpaaGreatDoor

/- A printed chart is read as it was, but for places. Math alone. -/
namespace Go.Proofs.YtifgbioacknjpaaGreatDoor
open Go.RowKit Go.Lib
set_option linter.unusedSimpArgs false
set_option linter.unusedVariables false

/-- The reader stands at these words, without an error. -/
def AtT (r : RsC) (ts : List Tk) : Prop := r.1.map tkW = ts ∧ r.2.2 = 0
theorem AtT.cons {r : RsC} {x : Tk} {ts : List Tk} (h : AtT r (x :: ts)) : ∃ w l, r.1 = w :: l ∧ tkW w = x ∧ l.map tkW = ts := by
  obtain ⟨h1, h2⟩ := h
  cases hr : r.1 with
  | nil => rw [hr] at h1; cases h1
  | cons w l =>
    rw [hr, List.map_cons] at h1
    injection h1 with a b
    exact ⟨w, l, rfl, a, b⟩
/-- Two lists, member by member. -/
def L2 {α β : Type} (R : α → β → Prop) : List α → List β → Prop
  | [], [] => True
  | a :: l, b :: m => R a b ∧ L2 R l m
  | _, _ => False

section
variable {α β : Type} (fin : Pl) (inner : RsC → α × RsC) (f : β → List Tk) (R : β → α → Prop)
end
end Go.Proofs.YtifgbioacknjpaaGreatDoor

/- awake of the laws of show; what a formed chart holds. -/
namespace Go.Proofs.YtifgbioacknjpaaGreatDoor
open Go.RowKit Go.Lib
set_option linter.unusedSimpArgs false
set_option linter.unusedVariables false
attribute [local go_sem ↓] Go.wp_at_zero Go.wp_at_succ

/-- The chart of awake. -/
def awCS : ChG 1 := (([97], (0, 0)), 1, [], [((([98], (0, 0)), (false, true), ([], []), (0, 0), []), [])])
def awTS : List UInt8 := [99, 104, 97, 114, 116, 32, 97, 32, 49, 32, 123, 10, 9, 115, 116, 97, 116, 101, 32, 98, 32, 123, 10, 9, 9, 101, 110, 100, 10, 9, 125, 10, 125, 10]
theorem awCS_pr : prG 1 awCS = (awTS, 0) := by kernel_rfl
theorem awCS_k : ChK 1 awCS := ⟨by decide, fun x hx => (by cases hx), fun t ht => by
  rw [List.mem_singleton.1 ht]
  exact ⟨⟨by decide, by decide, by decide, fun o ho => (by cases ho)⟩, fun x hx => Empty.elim x⟩⟩
theorem awCS_cl : ∀ t ∈ awCS.2.2.2, StCl 1 t := fun t ht => by
  rw [List.mem_singleton.1 ht]
  exact ⟨fun o ho => (by cases ho), fun x hx => Empty.elim x⟩
theorem awCS_rd (w : World) : RdC (fun _ => True) (w.alloc (.cells #[.string ⟨#[98]⟩, .int .i64 0, .int .i64 0, .bool false, .bool true, .string ⟨#[]⟩, .string ⟨#[]⟩, .int .i64 0, .int .i64 0, .slice none 0 0, .slice none 0 0] 49)) 1 awCS (.agg #[.string ⟨#[97]⟩, .int .i64 1, .int .i64 0, .int .i64 0, .slice none 0 0, .slice (some ⟨w.heap.size, 0, none⟩) 1 1]) := by
  have hX : Bn (w.alloc (.cells #[.string ⟨#[98]⟩, .int .i64 0, .int .i64 0, .bool false, .bool true, .string ⟨#[]⟩, .string ⟨#[]⟩, .int .i64 0, .int .i64 0, .slice none 0 0, .slice none 0 0] 49)) w.heap.size [.string ⟨#[98]⟩, .int .i64 0, .int .i64 0, .bool false, .bool true, .string ⟨#[]⟩, .string ⟨#[]⟩, .int .i64 0, .int .i64 0, .slice none 0 0, .slice none 0 0] := Bn.new w [.string ⟨#[98]⟩, .int .i64 0, .int .i64 0, .bool false, .bool true, .string ⟨#[]⟩, .string ⟨#[]⟩, .int .i64 0, .int .i64 0, .slice none 0 0, .slice none 0 0] 49 _ rfl
  refine ⟨_, _, rfl, rdK_none _ _ _ _, some ⟨w.heap.size, 0, none⟩, 1, rfl, by decide, by decide, fun i hi => ?_⟩
  have hi0 : i = 0 := by
    have : i < 1 := hi
    omega
  subst hi0
  refine ⟨w.heap.size, 0, [.string ⟨#[98]⟩, .int .i64 0, .int .i64 0, .bool false, .bool true, .string ⟨#[]⟩, .string ⟨#[]⟩, .int .i64 0, .int .i64 0, .slice none 0 0, .slice none 0 0], rfl, trivial, hX.lt, rfl, ⟨_, _, rfl, rdK_none _ _ _ _, rdK_none _ _ _ _⟩, fun j u hu => ?_⟩
  have := (hX j u hu).1
  simpa using this
set_option maxRecDepth 100000 in
set_option maxHeartbeats 4000000 in
theorem awakeS (w : World) (hp : Pow w) : Calls Tryz.prog 14 #[] w fun e w' => e = .returned (.bool true) ∧ Below w.heap.size w w' := by
  have hal : Below w.heap.size w (w.alloc (.cells #[.string ⟨#[98]⟩, .int .i64 0, .int .i64 0, .bool false, .bool true, .string ⟨#[]⟩, .string ⟨#[]⟩, .int .i64 0, .int .i64 0, .slice none 0 0, .slice none 0 0] 49)) := (Below.refl w.heap.size w).alloc (Nat.le_refl _) _
  have h1 := printC_any (awCS_rd w) awCS_k awCS_cl (hp.below hal)
  rw [awCS_pr] at h1
  go_enter Tryz.func14, Tryz.ntmps14
  go_wp2_with (first
    | (go_at_call 15; refine h1.mono ?_; rintro e w1 ⟨rfl, b1⟩)
    | fail)
  go_ret
  exact ⟨rfl, hal.trans (b1.mono hal.size)⟩
end Go.Proofs.YtifgbioacknjpaaGreatDoor
