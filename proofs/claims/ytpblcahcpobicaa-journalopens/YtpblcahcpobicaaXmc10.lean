import Derived.Test.YtpblcahcpobicaaXmc09
import Derived.Test.YtpblcahcpobicaaXmc04
import Derived.Deep.RegionHeldLaw
import Derived.Deep.Cut
import Derived.BigRegion

/- The journal: Open of an empty disk; the law's waking; JournalNil. -/
namespace Go.Proofs.Ytpblcahcpobicaa
open Go.RowKit Go.Lib Go.Maps
set_option linter.unusedSimpArgs false
set_option linter.unusedVariables false
set_option maxRecDepth 100000
attribute [local go_sem ↓] Go.wp_at_zero Go.wp_at_succ

theorem jwrong_0 {w : World} (a : Option Addr) (c : Nat) : Calls Try.prog 33 #[.slice a 0 c] w fun e w' => e = .returned (.bool false) ∧ w = w' := by
  go_enter Try.func33, Try.ntmps33
  go_wp2
  go_loopw [8] (fun ix wr => ix = .int .i64 0 ∧ w = wr) (fun ix _ => 0)
  case atStart => exact ⟨rfl, rfl⟩
  case round =>
    obtain ⟨rfl, rfl⟩ := hrel
    go_wp2
    go_ret
    exact ⟨rfl, rfl⟩
/-- A row with nothing in it. -/
def Row0 (v : Value) : Prop := v = .slice none 0 0 ∨ ∃ g c, v = .slice (some ⟨g, 0, none⟩) 0 c ∧ c ≤ maxLen
theorem row0_of {w : World} {b : Nat} {v : Value} (h : OwnK w b 77 7 rSg v ([] : List SgT)) : Row0 v := by
  obtain ⟨qs, h1, _⟩ := h
  rcases h1.2 with ⟨h, _⟩ | ⟨g, cap, cur, e, _, _, _, h4, _⟩
  · exact .inl h
  · exact .inr ⟨g, cap, e, h4⟩
theorem row0_form {v : Value} (h : Row0 v) : ∃ a c, v = .slice a 0 c := by
  rcases h with h | ⟨g, c, h, _⟩
  · exact ⟨_, _, h⟩
  · exact ⟨_, _, h⟩
set_option maxHeartbeats 2000000 in
theorem jtidy_0 {w : World} {p v : Value} (hv : Row0 v) : Calls Try.prog 34 #[p, v] w fun e w' => (∃ v', e = .returned (.tuple #[v', .int .i64 0]) ∧ Row0 v') ∧ Below w.heap.size w w' := by
  have hb : ∀ a c, c ≤ maxLen → Calls Try.prog 62 #[.slice a 0 c] w fun e w' => e = .returned (.int .i64 0) ∧ Below w.heap.size w w' := fun a c hc => jbase_any (L := []) ⟨a, c, rfl, Nat.zero_le _, hc, fun i hi => absurd hi (by simp)⟩ (by simp)
  rcases hv with rfl | ⟨g, c, rfl, hc⟩
  · have hb0 := hb none 0 (Nat.zero_le _)
    clear hb
    go_enter Try.func34, Try.ntmps34
    go_wp2_with (first
      | (go_at_call 62; refine hb0.mono ?_; rintro e w2 ⟨rfl, b2⟩; clear hb0; have HB := hideD b2; clear b2)
      | fail)
    go_loopw [43] (fun ix wr => ix = .int .i64 0 ∧ w2 = wr) (fun ix _ => 0)
    case atStart => exact ⟨rfl, rfl⟩
    case round =>
      obtain ⟨rfl, rfl⟩ := hrel
      go_wp2
      go_ret2
      exact ⟨⟨_, rfl, .inl rfl⟩, HB.out⟩
  · have hb0 := hb (some ⟨g, 0, none⟩) c hc
    have HC := hideD hc
    have hc0 : (0 : Int) ≤ (c : Int) := by omega
    clear hb hc
    go_enter Try.func34, Try.ntmps34
    go_wp2_with (first
      | (go_at_call 62; refine hb0.mono ?_; rintro e w2 ⟨rfl, b2⟩; clear hb0; have HB := hideD b2; clear b2)
      | fail)
    go_loopw [43] (fun ix wr => ix = .int .i64 0 ∧ w2 = wr) (fun ix _ => 0)
    case atStart => exact ⟨rfl, rfl⟩
    case round =>
      obtain ⟨rfl, rfl⟩ := hrel
      go_wp2
      go_ret2
      refine ⟨⟨_, rfl, .inr ⟨g, c, ?_, HC.out⟩⟩, HB.out⟩
      first | rfl | (simp; done)
set_option maxHeartbeats 4000000 in
theorem jopen_0 {w : World} {X : Nat} {F : Nat → Prop} {d : Dk} (hp : PD w X F d) (ok : Ok d 0 1000000) (hd : d.dead = false) :
    Calls Try.prog 11 #[.pointer (some ⟨X, 0, none⟩)] w fun e w' => (∃ J, e = .returned (.tuple #[.pointer (some ⟨J, 0, none⟩), .slice none 0 0, .int .i64 0]) ∧ w.heap.size ≤ J ∧ Bn w' J (jC X ⟨0, 0, 0, false, 0, false⟩)) ∧ Below w.heap.size w w' := by
  have hL : d.L = [] := List.eq_nil_of_length_eq_zero (by have := ok.len; omega)
  have hra := jreadAll_any hp ok (by omega) (fun x hx => by rw [hL] at hx; simp at hx)
  have hr0 : rdA d = 0 := by unfold rdA; rw [if_neg (by simp [hd])]
  unfold RaOut at hra
  rw [hr0] at hra
  simp only [forall_const, hL] at hra
  have hw0 := fun W a c => jwrong_0 (w := W) a c
  have ht0 := fun W v h => jtidy_0 (w := W) (p := .pointer (some ⟨X, 0, none⟩)) (v := v) h
  clear hp ok hd hr0 hL
  go_enter Try.func11, Try.ntmps11
  go_upto_region 6 with (first
    | (go_at_call 32; refine hra.mono ?_; rintro e w2 ⟨v2, rfl, o2, b2⟩; clear hra)
    | fail)
  have hR2 := row0_of o2
  obtain ⟨a2, c2, rfl⟩ := row0_form hR2
  have HT2 := hideD (ht0 w2 _ hR2)
  have HB2 := hideD b2
  clear o2 b2 hR2 ht0
  go_upto_region 11 with (first
    | (go_at_call 33; refine (hw0 _ _ _).mono ?_; rintro e w3 ⟨rfl, rfl⟩; clear hw0)
    | (go_at_call 34; refine HT2.out.mono ?_; rintro e w4 ⟨⟨v4, rfl, r4⟩, b4⟩; obtain ⟨a4, c4, rfl⟩ := row0_form r4; have HB4 := hideD (HB2.out.trans (b4.mono HB2.out.size)); clear HT2 b4 r4)
    | fail)
  obtain ⟨w5, hw5⟩ : ∃ k, w4.alloc (.cells #[.pointer (some ⟨X, 0, none⟩), .int .i64 0, .int .i64 0, .int .i64 0, .bool false, .int .i64 0, .bool false] 75) = k := ⟨_, rfl⟩
  have hal : Below w4.heap.size w4 w5 := by rw [← hw5]; exact (Below.refl _ _).alloc (Nat.le_refl _) _
  have hBJ : Bn w5 w4.heap.size (jC X ⟨0, 0, 0, false, 0, false⟩) := by rw [← hw5]; exact Bn.new w4 _ _ _ rfl
  have HB5 := hideD (HB4.out.trans (hal.mono HB4.out.size))
  have HJ4 := hideD HB4.out.size
  have HW5 := hideD hw5
  clear hal hw5
  go_upto_region 14 with fail
  rw [HW5.out]
  obtain ⟨J, hJ⟩ : ∃ k, w4.heap.size = k := ⟨_, rfl⟩
  rw [hJ] at hBJ ⊢
  have HJ := hideD hJ
  have HBJ := hideD hBJ
  obtain ⟨y2, g2⟩ := hBJ 2 _ rfl
  obtain ⟨y5, g5⟩ := hBJ 5 _ rfl
  clear hJ hBJ
  go_loopw [8, 37] (fun rc ix wr => rc = .slice none 0 0 ∧ ix = .int .i64 0 ∧ w5 = wr) (fun _ ix _ => 0)
  case atStart => exact ⟨rfl, rfl, rfl⟩
  case round =>
    obtain ⟨rfl, rfl, rfl⟩ := hrel
    go_wp2
    (try simp only [Exit.inBlock, Exit.then])
    refine bodyPost_ret (results_tmp3 rfl _ _ _) rfl ?_
    have hj := HJ4.out
    rw [HJ.out] at hj
    exact ⟨⟨J, rfl, hj, (HBJ.out.set (i := 2) (by simp [jC]) _).set (i := 5) (by simp [jC]) _⟩, (HB5.out.setCell (p := ⟨J, 2, none⟩) hj _).setCell (p := ⟨J, 5, none⟩) hj _⟩
theorem jk_conv (w : World) (C : Array Value) (n c : Nat) :
    (convert 41 41 (.slice (some ⟨w.heap.size, 0, none⟩) n c)).run Try.prog (w.alloc (.cells C 5)) = .ok (.slice (some ⟨w.heap.size, 0, none⟩) n c) (w.alloc (.cells C 5 (C.size, C.size + 1))) :=
  Lib.run_convert_bytes_const (P := Try.prog) w 41 5 C n c Try.underlying41 Try.underlying5
theorem app_a : appJ ⟨0, 0, 0, false, 0, false⟩ ⟨[], max 1000 0, -1, false⟩ [97] = (⟨0, 1, 8, false, 1, false⟩, ⟨[(0, rcd [0, 97], 8)], 1000, -1, false⟩, 0) := by kernel_rfl
set_option maxHeartbeats 4000000 in
theorem jawake_any (w : World) : Calls Try.prog 7 #[] w fun e w' => e = .returned (.bool true) ∧ Below w.heap.size w w' := by
  have hnew := fun W => dnew_any W 1000
  go_enter Try.func7, Try.ntmps7
  go_upto_region 2 with (first
    | (go_at_call 9; refine (hnew _).mono ?_; rintro e w1 ⟨rfl, p1, b1⟩; clear hnew; have hop := jopen_0 p1 ((ok_new 1000 (by omega)).mono (by omega) (by omega)) rfl)
    | (go_at_call 11; refine hop.mono ?_; rintro e w2 ⟨⟨J, rfl, hJ, hB⟩, b2⟩; clear hop)
    | fail)
  have hX := p1.lt
  have hal : Below w2.heap.size w2 (w2.alloc (.cells #[.int .u8 97] 5 (1, 2))) := (Below.refl _ _).alloc (Nat.le_refl _) _
  have hR : Rd (w2.alloc (.cells #[.int .u8 97] 5 (1, 2))) (.slice (some ⟨w2.heap.size, 0, none⟩) 1 1) [97] := by
    refine ⟨_, _, rfl, by simp, by simp [maxLen], ⟨fun h => by simp at h, fun x hx i hi => ?_⟩⟩
    obtain rfl := Option.some.inj hx
    match i, hi with
    | 0, _ => exact (cell_of_row _ _ 0 _ _ (1, 2) (heap_alloc_new w2 _)).trans rfl
  have hap := japp_any (F := fun j => j = w.heap.size) (hB.on hal) (fun h => by have h : J = w.heap.size := h; omega) ((p1.on b2).on hal) ((ok_new 1000 (by omega)).mono (Nat.zero_le 0) (Nat.zero_le 0)) (by omega) (by omega) hR (by decide)
  rw [app_a] at hap
  have hkv := jk_conv w2 #[.int .u8 97] 1 1
  simp only [List.size_toArray, List.length_cons, List.length_nil, Nat.reduceAdd] at hkv
  have HB := hideD ((b1.trans (b2.mono b1.size)).trans (hal.mono (Nat.le_trans b1.size b2.size)))
  have HX := hideD hX
  have HJ := hideD hJ
  have HS2 := hideD b2.size
  have HS1 := hideD b1.size
  clear p1 b1 b2 hB hal hR hX hJ
  go_wp2_with (first
    | (go_at_call 13; refine hap.mono ?_; rintro e w4 ⟨rfl, q1, q2, q3⟩; clear hap; have hrc := jrecs_any q1; have HK := hideD q3; clear q1 q2 q3)
    | (go_at_call 24; refine hrc.mono ?_; rintro e w5 ⟨rfl, rfl⟩; clear hrc)
    | fail)
  go_ret
  exact ⟨rfl, HB.out.trans (HK.out.below (fun i hi => by have := HX.out; have := HJ.out; have := HS1.out; rcases hi with h | h <;> omega) HB.out.size)⟩

def wrB (n0 : Int) (m : Nat) : Nat → List SgT → Bool
  | _, [] => false
  | i, x :: r => if x.2.2.wrong = true ∨ wrap64 (x.1 - n0) ≠ (i : Int) ∨ (unfB x.2.2 = true ∧ i + 1 ≠ m) then true else wrB n0 m (i + 1) r
def wrongB (L : List SgT) : Bool := wrB ((L.head?.map (·.1)).getD 0) L.length 0 L
theorem cell_dwJ {w : World} {p : Addr} {v : Value} (h : w.cell? p = some v) : w.drew.cell? p = some v := h
set_option maxHeartbeats 8000000 in
theorem jwrong_any {w : World} {L : List SgT} {v : Value} (h : RdSg w L v) (hl : L.length ≤ 100000) : Calls Try.prog 33 #[v] w fun e w' => e = .returned (.bool (wrongB L)) ∧ Below w.heap.size w w' := by
  obtain ⟨a, c, rfl, hlc, hcm⟩ := id h.form
  unfold maxLen at hcm
  obtain ⟨n0, hn0⟩ : ∃ k, (L.head?.map (·.1)).getD 0 = k := ⟨_, rfl⟩
  obtain ⟨R, hR⟩ : ∃ R, wrongB L = R := ⟨_, rfl⟩
  rw [hR]
  unfold wrongB at hR
  rw [hn0] at hR
  obtain ⟨m, hm⟩ : ∃ k, L.length = k := ⟨_, rfl⟩
  rw [hm] at hR
  have HL := hideD h
  have HM := hideD hm
  have HN0 := hideD hn0
  have H0 := hideD (show wrB n0 m 0 (L.drop 0) = R from hR)
  have HB0 := hideD (Below.refl w.heap.size w)
  rw [hm] at hlc hl HL ⊢
  clear h hR hm hn0
  go_enter Try.func33, Try.ntmps33
  go_wp2
  go_loopw [8] (fun ix wr => ∃ (j : Nat), j ≤ m ∧ ix = .int .i64 (j : Int) ∧ Hid (wrB n0 m j (L.drop j) = R) ∧ Hid (Below w.heap.size w wr)) (fun ix _ => m - (RowKit.intOf ix).toNat)
  case atStart => exact ⟨0, Nat.zero_le _, rfl, H0, HB0⟩
  case round =>
    obtain ⟨j, hj, rfl, HF, HBj⟩ := hrel
    clear H0
    by_cases hlt : j < m
    · have hjl : j < L.length := by rw [HM.out]; exact hlt
      obtain ⟨g, off, ra, rc, rfl, hg, c0, c1, c2, c3, c4, c5, c6, _⟩ := RdSg.at (HL.out.on HBj.out) hjl
      obtain ⟨g', off', ra', rc', e, _, k0, _⟩ := RdSg.at (HL.out.on HBj.out) (show 0 < L.length by omega)
      simp only [Option.some.injEq, Addr.mk.injEq, and_true] at e
      obtain ⟨rfl, rfl⟩ := e
      rw [Nat.zero_mul, Nat.add_zero] at k0
      have hh : (L[0]'(by omega)).1 = n0 := by
        have := HN0.out
        rw [← this]
        cases L with
        | nil => simp at hjl
        | cons y r => rfl
      rw [hh] at k0
      have hfe := HF.out
      rw [List.drop_eq_getElem_cons hjl] at hfe
      unfold wrB at hfe
      obtain ⟨x, hx⟩ : ∃ k, L[j] = k := ⟨_, rfl⟩
      rw [hx] at c0 c1 c2 c3 c4 c5 c6 hfe
      have i1 : (j : Int) < (m : Int) := by omega
      have i2 : (0 : Int) ≤ (j : Int) := by omega
      have i3 : (0 : Int) < (m : Int) := by omega
      have HFE := hideD hfe
      obtain ⟨wb, hwb⟩ : ∃ k, wr.alloc (.cells #[.int .i64 x.1, .int .i64 (x.2.1 : Int), .slice ra x.2.2.recs.length rc, .bool x.2.2.begun, .bool x.2.2.ended, .bool x.2.2.torn, .bool x.2.2.wrong] 77) = k := ⟨_, rfl⟩
      have hal : Below wr.heap.size wr wb := by rw [← hwb]; exact (Below.refl _ _).alloc (Nat.le_refl _) _
      have hBN : Bn wb wr.heap.size [.int .i64 x.1, .int .i64 (x.2.1 : Int), .slice ra x.2.2.recs.length rc, .bool x.2.2.begun, .bool x.2.2.ended, .bool x.2.2.torn, .bool x.2.2.wrong] := by rw [← hwb]; exact Bn.new wr _ _ _ rfl
      have k1 := (hal.cell (p := ⟨g, off, none⟩) hg).trans k0
      have HBW := hideD (HBj.out.trans (hal.mono HBj.out.size))
      have HWB := hideD hwb
      clear hx hfe hwb hal
      go_upto_region 5 with fail
      rw [HWB.out]
      obtain ⟨N, hN⟩ : ∃ k, wr.heap.size = k := ⟨_, rfl⟩
      rw [hN] at hBN ⊢
      have hNl : N < wb.heap.size := hBN.lt
      have hgl : g < wb.heap.size := World.block_lt_of_cell? _ _ k1
      have hU := fun W => junf_any (w := W) (n := x.1) (sz := (x.2.1 : Int)) (a := ra) (k := x.2.2.recs.length) (c := rc) (s := x.2.2)
      have hfe := HFE.out
      obtain ⟨lb, hlb⟩ : ∃ k, ((j : Int) == (m : Int) - 1) = k := ⟨_, rfl⟩
      have hlb2 : lb = true ↔ j + 1 = m := by rw [← hlb]; simp; omega
      obtain ⟨u, hu⟩ : ∃ k, unfB x.2.2 = k := ⟨_, rfl⟩
      rw [hu] at hfe hU
      rw [hlb]
      obtain ⟨rl, hrl⟩ : ∃ k, x.2.2.recs.length = k := ⟨_, rfl⟩
      obtain ⟨sb, hsb⟩ : ∃ k, x.2.2.begun = k := ⟨_, rfl⟩
      obtain ⟨se, hse⟩ : ∃ k, x.2.2.ended = k := ⟨_, rfl⟩
      obtain ⟨st, hst⟩ : ∃ k, x.2.2.torn = k := ⟨_, rfl⟩
      obtain ⟨sw, hsw⟩ : ∃ k, x.2.2.wrong = k := ⟨_, rfl⟩
      obtain ⟨dd, hdd⟩ : ∃ k, wrap64 (x.1 - n0) = k := ⟨_, rfl⟩
      have hA1 : IntKind.i64.wrap (x.1 - n0) = dd := by rw [← hdd, wrap64_iJ]
      rw [hrl, hsb, hse, hst, hsw] at hBN
      rw [hrl, hsb, hse, hst] at hU
      rw [hsw] at hU hfe
      rw [hdd] at hfe
      obtain ⟨y0, _⟩ := hBN 0 _ rfl
      obtain ⟨y1, _⟩ := hBN 1 _ rfl
      obtain ⟨y2, _⟩ := hBN 2 _ rfl
      obtain ⟨y3, _⟩ := hBN 3 _ rfl
      obtain ⟨y4, _⟩ := hBN 4 _ rfl
      obtain ⟨y5, _⟩ := hBN 5 _ rfl
      obtain ⟨y6, _⟩ := hBN 6 _ rfl
      rw [hrl, hsb, hse, hst, hsw]
      have HF2 := hideD hfe
      have HLB := hideD hlb2
      have HBN := hideD hBN
      clear hfe hlb hlb2 hrl hsb hse hst hsw hN HFE hBN c0 c1 c2 c3 c4 c5 c6 k0 hu HF hh
      cases sw with
      | true =>
        have hR := HF2.out
        rw [if_pos (.inl rfl)] at hR
        subst hR
        go_quiet (fail)
        go_wp2
        go_ret
        have h := HBW.out
        exact ⟨rfl, ⟨h.os, h.tape, h.output, h.size, h.block⟩⟩
      | false =>
        by_cases hd : dd = (j : Int)
        · subst hd
          have e1 : (((j : Int)) != (j : Int)) = false := by simp
          cases u with
          | false =>
            have hR := HF2.out
            rw [if_neg (by simp)] at hR
            have HF3 := hideD hR
            clear hR HF2
            first
              | (go_region_held_law (fun w' => w'.cell? ⟨N, 0, none⟩ = some (.int .i64 x.1) ∧ w'.cell? ⟨N, 1, none⟩ = some (.int .i64 (x.2.1 : Int)) ∧ w'.cell? ⟨N, 2, none⟩ = some (.slice ra rl rc) ∧ w'.cell? ⟨N, 3, none⟩ = some (.bool sb) ∧ w'.cell? ⟨N, 4, none⟩ = some (.bool se) ∧ w'.cell? ⟨N, 5, none⟩ = some (.bool st) ∧ w'.cell? ⟨N, 6, none⟩ = some (.bool false) ∧ w'.cell? ⟨g, off, none⟩ = some (.int .i64 n0))
                  ((refine ⟨?_, ?_, ?_, ?_, ?_, ?_, ?_, ?_⟩ <;> (repeat (first | (with_reducible exact y0) | (with_reducible exact y1) | (with_reducible exact y2) | (with_reducible exact y3) | (with_reducible exact y4) | (with_reducible exact y5) | (with_reducible exact y6) | (with_reducible exact k1) | (with_reducible refine cell_dwJ ?_))) <;> done))
                  (first
                    | (go_at_call 61; (with_reducible refine (hU _).mono ?_); rintro e w6 ⟨rfl, b6⟩; have y0 := (b6.cell (p := ⟨N, 0, none⟩) hNl).trans y0; have y1 := (b6.cell (p := ⟨N, 1, none⟩) hNl).trans y1; have y2 := (b6.cell (p := ⟨N, 2, none⟩) hNl).trans y2; have y3 := (b6.cell (p := ⟨N, 3, none⟩) hNl).trans y3; have y4 := (b6.cell (p := ⟨N, 4, none⟩) hNl).trans y4; have y5 := (b6.cell (p := ⟨N, 5, none⟩) hNl).trans y5; have y6 := (b6.cell (p := ⟨N, 6, none⟩) hNl).trans y6; have k1 := (b6.cell (p := ⟨g, off, none⟩) hgl).trans k1; have HB6 := hideD b6)
                    | fail))
              | fail
            all_goals (
              have HB7 := hideD (HBW.out.trans ((show Below wb.heap.size wb _ from ⟨HB6.out.os, HB6.out.tape, HB6.out.output, HB6.out.size, HB6.out.block⟩).mono HBW.out.size))
              clear HB6 y0 y1 y2 y3 y4 y5 y6 k1 hU
              go_wp2
              go_roundw
              (case rel => exact ⟨j + 1, hlt, by go_num, HF3, HB7⟩)
              (case measure => simp [RowKit.intOf]; omega))
          | true =>
            cases lb with
            | true =>
              have hjm := HLB.out.1 rfl
              have hR := HF2.out
              rw [if_neg (by simp; omega)] at hR
              have HF3 := hideD hR
              clear hR HF2 hjm
              go_region_held_law (fun w' => w'.cell? ⟨N, 0, none⟩ = some (.int .i64 x.1) ∧ w'.cell? ⟨N, 1, none⟩ = some (.int .i64 (x.2.1 : Int)) ∧ w'.cell? ⟨N, 2, none⟩ = some (.slice ra rl rc) ∧ w'.cell? ⟨N, 3, none⟩ = some (.bool sb) ∧ w'.cell? ⟨N, 4, none⟩ = some (.bool se) ∧ w'.cell? ⟨N, 5, none⟩ = some (.bool st) ∧ w'.cell? ⟨N, 6, none⟩ = some (.bool false) ∧ w'.cell? ⟨g, off, none⟩ = some (.int .i64 n0))
              ((refine ⟨?_, ?_, ?_, ?_, ?_, ?_, ?_, ?_⟩ <;> (repeat (first | (with_reducible exact y0) | (with_reducible exact y1) | (with_reducible exact y2) | (with_reducible exact y3) | (with_reducible exact y4) | (with_reducible exact y5) | (with_reducible exact y6) | (with_reducible exact k1) | (with_reducible refine cell_dwJ ?_))) <;> done))
              (first
                | (go_at_call 61; (with_reducible refine (hU _).mono ?_); rintro e w6 ⟨rfl, b6⟩; have y0 := (b6.cell (p := ⟨N, 0, none⟩) hNl).trans y0; have y1 := (b6.cell (p := ⟨N, 1, none⟩) hNl).trans y1; have y2 := (b6.cell (p := ⟨N, 2, none⟩) hNl).trans y2; have y3 := (b6.cell (p := ⟨N, 3, none⟩) hNl).trans y3; have y4 := (b6.cell (p := ⟨N, 4, none⟩) hNl).trans y4; have y5 := (b6.cell (p := ⟨N, 5, none⟩) hNl).trans y5; have y6 := (b6.cell (p := ⟨N, 6, none⟩) hNl).trans y6; have k1 := (b6.cell (p := ⟨g, off, none⟩) hgl).trans k1; have HB6 := hideD b6)
                | fail)
              all_goals (
                have HB7 := hideD (HBW.out.trans ((show Below wb.heap.size wb _ from ⟨HB6.out.os, HB6.out.tape, HB6.out.output, HB6.out.size, HB6.out.block⟩).mono HBW.out.size))
                clear HB6 y0 y1 y2 y3 y4 y5 y6 k1 hU
                go_wp2
                go_roundw
                (case rel => exact ⟨j + 1, hlt, by go_num, HF3, HB7⟩)
                (case measure => simp [RowKit.intOf]; omega))
            | false =>
              have hjm : j + 1 ≠ m := fun e => by have := HLB.out.2 e; cases this
              have hR := HF2.out
              rw [if_pos (.inr (.inr ⟨rfl, hjm⟩))] at hR
              subst hR
              clear hjm
              go_region_held_law (fun w' => w'.cell? ⟨N, 0, none⟩ = some (.int .i64 x.1) ∧ w'.cell? ⟨N, 1, none⟩ = some (.int .i64 (x.2.1 : Int)) ∧ w'.cell? ⟨N, 2, none⟩ = some (.slice ra rl rc) ∧ w'.cell? ⟨N, 3, none⟩ = some (.bool sb) ∧ w'.cell? ⟨N, 4, none⟩ = some (.bool se) ∧ w'.cell? ⟨N, 5, none⟩ = some (.bool st) ∧ w'.cell? ⟨N, 6, none⟩ = some (.bool false) ∧ w'.cell? ⟨g, off, none⟩ = some (.int .i64 n0))
              ((refine ⟨?_, ?_, ?_, ?_, ?_, ?_, ?_, ?_⟩ <;> (repeat (first | (with_reducible exact y0) | (with_reducible exact y1) | (with_reducible exact y2) | (with_reducible exact y3) | (with_reducible exact y4) | (with_reducible exact y5) | (with_reducible exact y6) | (with_reducible exact k1) | (with_reducible refine cell_dwJ ?_))) <;> done))
              (first
                | (go_at_call 61; (with_reducible refine (hU _).mono ?_); rintro e w6 ⟨rfl, b6⟩; have y0 := (b6.cell (p := ⟨N, 0, none⟩) hNl).trans y0; have y1 := (b6.cell (p := ⟨N, 1, none⟩) hNl).trans y1; have y2 := (b6.cell (p := ⟨N, 2, none⟩) hNl).trans y2; have y3 := (b6.cell (p := ⟨N, 3, none⟩) hNl).trans y3; have y4 := (b6.cell (p := ⟨N, 4, none⟩) hNl).trans y4; have y5 := (b6.cell (p := ⟨N, 5, none⟩) hNl).trans y5; have y6 := (b6.cell (p := ⟨N, 6, none⟩) hNl).trans y6; have k1 := (b6.cell (p := ⟨g, off, none⟩) hgl).trans k1; have HB6 := hideD b6)
                | fail)
              all_goals (
                go_wp2
                go_ret
                have h := HB6.out
                exact ⟨rfl, HBW.out.trans ((show Below wb.heap.size wb _ from ⟨h.os, h.tape, h.output, h.size, h.block⟩).mono HBW.out.size)⟩)
        · have hR := HF2.out
          rw [if_pos (.inr (.inl hd))] at hR
          subst hR
          have e1 : (dd != (j : Int)) = true := by simpa using hd
          go_quiet (fail)
          go_wp2
          go_ret
          have h := HBW.out
          exact ⟨rfl, ⟨h.os, h.tape, h.output, h.size, h.block⟩⟩
    · have k1 : ¬ (j : Int) < (m : Int) := by omega
      have hR := HF.out
      have e : L.drop j = [] := List.drop_eq_nil_of_le (by rw [HM.out]; omega)
      rw [e] at hR
      have hR2 : false = R := hR
      subst hR2
      clear HF hR e
      go_wp2
      go_ret
      exact ⟨rfl, HBj.out⟩

/-- Drops, one after another, till one fails. -/
def dpsM : Dk → List SgT → Dk × Int
  | d, [] => (d, 0)
  | d, x :: r => if (opM d x.1 (drpF d x.1)).2 = 0 then dpsM (opM d x.1 (drpF d x.1)).1 r else opM d x.1 (drpF d x.1)
/-- The unfinished last one dropped. -/
def lstM (d : Dk) (L : List SgT) : Dk × Int × List SgT :=
  match L.getLast? with
  | none => (d, 0, L)
  | some x => if unfB x.2.2 = true then ((opM d x.1 (drpF d x.1)).1, (opM d x.1 (drpF d x.1)).2, L.dropLast) else (d, 0, L)
def tidM (d : Dk) (L : List SgT) : Dk × Int × List SgT :=
  if (lstM d L).2.1 = 0 then ((dpsM (lstM d L).1 ((lstM d L).2.2.take (bsB 0 0 (lstM d L).2.2))).1, (dpsM (lstM d L).1 ((lstM d L).2.2.take (bsB 0 0 (lstM d L).2.2))).2, (lstM d L).2.2.drop (bsB 0 0 (lstM d L).2.2))
  else ((lstM d L).1, (lstM d L).2.1, [])
theorem bsB_le : ∀ (L : List SgT) (b i : Nat), b ≤ i → bsB b i L ≤ b ∨ bsB b i L < i + L.length
  | [], b, i, h => .inl (Nat.le_refl _)
  | x :: r, b, i, h => by
    unfold bsB
    split
    · rcases bsB_le r i (i + 1) (by omega) with e | e
      · exact .inr (by simp only [List.length_cons]; omega)
      · exact .inr (by simp only [List.length_cons]; omega)
    · rcases bsB_le r b (i + 1) (by omega) with e | e
      · exact .inl e
      · exact .inr (by simp only [List.length_cons]; omega)
theorem bsB_len (L : List SgT) : bsB 0 0 L ≤ L.length ∧ (0 < L.length → bsB 0 0 L < L.length) := by
  have := bsB_le L 0 0 (Nat.le_refl _)
  omega
abbrev RdSgC (B C : Nat) (w : World) (L : List SgT) (v : Value) : Prop := RdK (fun b => B ≤ b ∧ b < C) w 7 (rSg (fun b => B ≤ b ∧ b < C) w) L v
theorem RdSgC.keep {B C : Nat} {w w' : World} {L : List SgT} {v : Value} (h : RdSgC B C w L v) (hk : ∀ b, B ≤ b → b < C → b < w.heap.size → w'.heap[b]? = w.heap[b]?) : RdSgC B C w' L v := RdK.stay kp_Sg h (fun b hb hlt => ⟨hb, hk b hb.1 hb.2 hlt⟩)
theorem RdSgC.rd {B C : Nat} {w : World} {L : List SgT} {v : Value} (h : RdSgC B C w L v) : RdSg w L v := RdK.stay kp_Sg h (fun b _ _ => ⟨trivial, rfl⟩)
/-- A row of segments that lies from block B on. -/
abbrev RdSgB (B : Nat) (w : World) (L : List SgT) (v : Value) : Prop := RdK (fun b => B ≤ b) w 7 (rSg (fun b => B ≤ b) w) L v
theorem RdSgB.rd {B : Nat} {w : World} {L : List SgT} {v : Value} (h : RdSgB B w L v) : RdSg w L v := RdK.stay kp_Sg h (fun b _ _ => ⟨trivial, rfl⟩)
theorem RdSgC.rdB {B C : Nat} {w : World} {L : List SgT} {v : Value} (h : RdSgC B C w L v) : RdSgB B w L v := RdK.stay kp_Sg h (fun b hb _ => ⟨hb.1, rfl⟩)
theorem RdSgC.take {B C : Nat} {w : World} {L : List SgT} {a : Option Addr} {m c : Nat} (h : RdSgC B C w L (.slice a m c)) {n : Nat} (hn : n ≤ m) : RdSgC B C w (L.take n) (.slice a n c) := by
  obtain ⟨a', c', e, h2, h3, h4⟩ := h
  simp only [Value.slice.injEq] at e
  obtain ⟨rfl, rfl, rfl⟩ := e
  have hl : (L.take n).length = n := by rw [List.length_take]; omega
  refine ⟨a, c, by rw [hl], by omega, h3, fun i hi => ?_⟩
  rw [hl] at hi
  rw [List.getElem_take]
  exact h4 i (by omega)
theorem RdSgC.drop {B C : Nat} {w : World} {L : List SgT} {g off m c : Nat} (h : RdSgC B C w L (.slice (some ⟨g, off, none⟩) m c)) {n : Nat} (hn : n ≤ m) : RdSgC B C w (L.drop n) (.slice (some ⟨g, off + n * 7, none⟩) (m - n) (c - n)) := by
  obtain ⟨a', c', e, h2, h3, h4⟩ := h
  simp only [Value.slice.injEq] at e
  obtain ⟨rfl, rfl, rfl⟩ := e
  have hl : (L.drop n).length = L.length - n := by rw [List.length_drop]
  refine ⟨_, c - n, by rw [hl], by omega, by omega, fun i hi => ?_⟩
  rw [hl] at hi
  rw [List.getElem_drop]
  obtain ⟨b, o, cs, e1, e2, e3, e4, e5, e6⟩ := h4 (n + i) (by omega)
  simp only [Option.some.injEq, Addr.mk.injEq, and_true] at e1
  obtain ⟨rfl, rfl⟩ := e1
  refine ⟨g, off + n * 7, cs, rfl, e2, e3, e4, e5, fun j u hu => ?_⟩
  rw [show off + n * 7 + i * 7 + j = off + (n + i) * 7 + j by rw [Nat.add_mul]; omega]
  exact e6 j u hu
/-- What tidy answers. -/
def TiOut (w w' : World) (B X : Nat) (F : Nat → Prop) (d : Dk) (L : List SgT) (e : Ending) : Prop := ∃ v, e = .returned (.tuple #[v, .int .i64 (tidM d L).2.1]) ∧ ((tidM d L).2.1 = 0 → RdSgB B w' (tidM d L).2.2 v) ∧ PD w' X (nF F w) (tidM d L).1 ∧ Kf F w w'
theorem dps_at {d : Dk} {L : List SgT} {j : Nat} (h : j < L.length) : dpsM d (L.drop j) = if (opM d (L[j]).1 (drpF d (L[j]).1)).2 = 0 then dpsM (opM d (L[j]).1 (drpF d (L[j]).1)).1 (L.drop (j + 1)) else opM d (L[j]).1 (drpF d (L[j]).1) := by
  rw [List.drop_eq_getElem_cons h]
  rfl
set_option maxHeartbeats 8000000 in
theorem jtidy_any {w : World} {X B n0 : Nat} {F : Nat → Prop} {d : Dk} {L : List SgT} {v : Value} (hp : PD w X F d) (ok : Ok d n0 1000000) (h : RdSgC B w.heap.size w L v) (hF : ∀ j, F j → j < B) (hB : B ≤ w.heap.size) (hw : ∀ x ∈ L, (Lit.int .i64 x.1).wf = true) (hl : L.length ≤ 100000) (hv : L = [] → Row0 v) :
    Calls Try.prog 34 #[.pointer (some ⟨X, 0, none⟩), v] w fun e w' => TiOut w w' B X F d L e := by
  by_cases hL0 : L = []
  · subst hL0
    refine (jtidy_0 (p := .pointer (some ⟨X, 0, none⟩)) (hv rfl)).mono ?_
    rintro e w' ⟨⟨v', rfl, hr⟩, hb⟩
    refine ⟨v', rfl, fun _ => ?_, (hp.on hb).mono (fun j _ hj => .inl hj), Kf.of hb (Nat.le_refl _)⟩
    obtain ⟨a, c, e⟩ : ∃ a c, v' = .slice a 0 c ∧ c ≤ maxLen := by
      rcases hr with rfl | ⟨g, c, rfl, hc⟩
      · exact ⟨none, 0, rfl, by simp [maxLen]⟩
      · exact ⟨_, c, rfl, hc⟩
    exact ⟨a, c, e.1, Nat.zero_le _, e.2, fun i hi => absurd hi (by simp [tidM, lstM])⟩
  obtain ⟨m, hm⟩ : ∃ m, L.length = m + 1 := ⟨L.length - 1, by have := List.length_pos_iff.2 hL0; omega⟩
  obtain ⟨a, c, rfl, hlc, hcm⟩ := id h.rd.form
  unfold maxLen at hcm
  have hml : m < L.length := by omega
  obtain ⟨g, off, ra, rc, rfl, hg, c0, c1, c2, c3, c4, c5, c6, -⟩ := RdSg.at h.rd hml
  have hlast : L.getLast? = some (L[m]) := by
    rw [List.getLast?_eq_getElem?, hm, Nat.add_sub_cancel, List.getElem?_eq_getElem hml]
  obtain ⟨x, hx⟩ : ∃ k, L[m] = k := ⟨_, rfl⟩
  have hxw : (Lit.int .i64 x.1).wf = true := by rw [← hx]; exact hw _ (List.getElem_mem hml)
  rw [hx] at c0 c1 c2 c3 c4 c5 c6 hlast
  have hLm : lstM d L = if unfB x.2.2 = true then ((opM d x.1 (drpF d x.1)).1, (opM d x.1 (drpF d x.1)).2, L.dropLast) else (d, 0, L) := by unfold lstM; rw [hlast]
  obtain ⟨rl, hrl⟩ : ∃ k, x.2.2.recs.length = k := ⟨_, rfl⟩
  have hU := fun W => junf_any (w := W) (n := x.1) (sz := (x.2.1 : Int)) (a := ra) (k := rl) (c := rc) (s := x.2.2)
  rw [hm] at h hlc ⊢
  rw [hrl] at c2
  have i1 : (0 : Int) ≤ (m : Int) := by omega
  have i2 : (m : Int) < (m : Int) + 1 := by omega
  have hmb : m ≤ 100000 := by omega
  clear hlast hx hv
  by_cases hu : unfB x.2.2 = true
  · rw [if_pos hu] at hLm
    rw [hu] at hU
    have hdr := fun W (hb : Below w.heap.size w W) => ddrop_any (hp.on hb) (n := x.1) ok.fuse.2 hxw (by have := ok.us; omega)
    have okd := ok.drp x.1
    by_cases he : (opM d x.1 (drpF d x.1)).2 = 0
    · have hT0 : tidM d L = ((dpsM (opM d x.1 (drpF d x.1)).1 (L.dropLast.take (bsB 0 0 L.dropLast))).1, (dpsM (opM d x.1 (drpF d x.1)).1 (L.dropLast.take (bsB 0 0 L.dropLast))).2, L.dropLast.drop (bsB 0 0 L.dropLast)) := by unfold tidM; rw [hLm, if_pos he]
      obtain ⟨L1, hL1⟩ : ∃ k, L.dropLast = k := ⟨_, rfl⟩
      obtain ⟨d1, hd1⟩ : ∃ k, (opM d x.1 (drpF d x.1)).1 = k := ⟨_, rfl⟩
      have hn1 : L1.length = m := by rw [← hL1, List.length_dropLast]; omega
      have hw1 : ∀ y ∈ L1, (Lit.int .i64 y.1).wf = true := fun y hy => hw y (List.dropLast_subset L (by rw [hL1]; exact hy))
      have hr0 : RdSgC B w.heap.size w L1 (.slice (some ⟨g, off, none⟩) m c) := by rw [← hL1, List.dropLast_eq_take, hm, Nat.add_sub_cancel]; exact h.take (by omega)
      rw [hL1, hd1] at hT0
      rw [he, hd1] at hdr
      rw [hd1] at okd
      obtain ⟨n1, hnn⟩ : ∃ k, m = k := ⟨_, rfl⟩
      have hT := hT0
      have hc1 : n1 + 1 ≤ c := by omega
      have hn2 : L1.length = n1 := by omega
      have hm5 : n1 ≤ 100000 := by omega
      rw [hnn] at hr0
      obtain ⟨bb, hbb⟩ : ∃ k, bsB 0 0 L1 = k := ⟨_, rfl⟩
      have hb2 : bb ≤ n1 := by have := (bsB_len L1).1; omega
      have hcb : ¬ c = bb := by have := (bsB_len L1).2; omega
      obtain ⟨R, hR⟩ : ∃ R, dpsM d1 (L1.take bb) = R := ⟨_, rfl⟩
      unfold TiOut
      rw [hT, hbb, hR]
      dsimp only
      have hbs := fun W (hr : RdSgC B w.heap.size W L1 (.slice (some ⟨g, off, none⟩) n1 c)) => jbase_any hr.rd (by omega)
      rw [hbb] at hbs
      have i3 : (m : Int) ≤ (c : Int) := by omega
      have HX := hideD (And.intro okd (And.intro hw1 (And.intro hn2 hr0)))
      have HR := hideD hR
      have HFB := hideD (And.intro hF hB)
      have HNN := hideD hnn
      clear hLm hT hT0 h hm hL1 hd1 hr0 okd hw1 hw hL0 hR he hu hp ok hn1 hbb hn2 hF hl hml hnn
      go_enter Try.func34, Try.ntmps34
      go_upto_region 7 with (first
        | (go_at_call 61; refine (hU _).mono ?_; rintro e w1 ⟨rfl, b1⟩; have hdr := hdr _ b1; have HB1 := hideD b1; obtain ⟨d0, _⟩ := And.intro ((b1.cell (p := ⟨g, off + m * 7, none⟩) hg).trans c0) trivial; clear hU b1)
        | (go_at_call 47; refine hdr.mono ?_; rintro e w2 ⟨rfl, hp2, hk2⟩; have HP := hideD (And.intro hp2 hk2); clear hdr hp2 hk2)
        | fail)
      have e7 := HNN.out
      subst e7
      obtain ⟨okt, hwt, hn2, hr0⟩ := HX.out
      have hkt : Kf F w w2 := (Kf.of HB1.out (Nat.le_refl _)).trans HP.out.2
      have hrt : RdSgC B w.heap.size w2 L1 (.slice (some ⟨g, off, none⟩) m c) := hr0.keep (fun b h1 h2 h3 => hkt.block b h3 (fun e => by have := HFB.out.1 b e; omega))
      have hpt := HP.out.1
      have hFw : ∀ j, nF F w1 j → nF F w j := fun j hj => hj.imp id (fun hj => Nat.le_trans HB1.out.size hj)
      have hFt : ∀ j, nF F w1 j → j < B ∨ w.heap.size ≤ j := fun j hj => hj.imp (HFB.out.1 j) (fun hj => Nat.le_trans HB1.out.size hj)
      generalize hFz : nF F w1 = Ft at *
      clear HP HB1 hFz HX hr0 d0
      obtain ⟨n1, hnn⟩ : ∃ k, m = k := ⟨_, rfl⟩
      subst hnn
      obtain ⟨wt, hwtt⟩ : ∃ k, w2 = k := ⟨_, rfl⟩
      subst hwtt
      clear c0 c1 c2 c3 c4 c5 c6
      generalize hmm : m = n1 at *
      clear hmm
      have hbs := hbs _ hrt
      have j1 : (bb : Int) ≤ (c : Int) := by omega
      have j2 : (0 : Int) ≤ (bb : Int) := by omega
      have j3 : (bb : Int) ≤ (n1 : Int) := by omega
      have j4 : (n1 : Int) ≤ (c : Int) := by omega
      have HT := hideD (And.intro hpt (And.intro okt (And.intro hrt (And.intro hkt (And.intro hFw (And.intro hFt (And.intro hwt hn2)))))))
      clear hpt okt hrt hkt hFw hFt hwt hn2
      go_upto_region 9 with (first
        | (go_at_call 62; refine hbs.mono ?_; rintro e w3 ⟨rfl, b3⟩; have HB3 := hideD b3; clear hbs b3)
        | fail)
      have H0 := hideD (show ∃ (dj : Dk) (Fj : Nat → Prop), PD w3 X Fj dj ∧ Ok dj n0 1000000 ∧ (∀ i, Fj i → nF F w i) ∧ (∀ i, Fj i → i < B ∨ w.heap.size ≤ i) ∧ RdSgC B w.heap.size w3 L1 (.slice (some ⟨g, off, none⟩) n1 c) ∧ Kf F w w3 ∧ dpsM dj ((L1.take bb).drop 0) = R from by
        obtain ⟨q1, q2, q3, q4, q5, q6, q7, q8⟩ := HT.out
        exact ⟨d1, _, q1.on HB3.out, q2, q5, q6, q3.keep (fun b _ _ h => HB3.out.block b h), q4.trans (Kf.of HB3.out (Nat.le_refl _)), HR.out⟩)
      have HW := hideD (And.intro HT.out.2.2.2.2.2.2.1 HT.out.2.2.2.2.2.2.2)
      clear HT HB3 HR
      go_loopw [43] (fun ix wr => ∃ (j : Nat), j ≤ bb ∧ ix = .int .i64 (j : Int) ∧ Hid (∃ (dj : Dk) (Fj : Nat → Prop), PD wr X Fj dj ∧ Ok dj n0 1000000 ∧ (∀ i, Fj i → nF F w i) ∧ (∀ i, Fj i → i < B ∨ w.heap.size ≤ i) ∧ RdSgC B w.heap.size wr L1 (.slice (some ⟨g, off, none⟩) n1 c) ∧ Kf F w wr ∧ dpsM dj ((L1.take bb).drop j) = R)) (fun ix _ => bb - (RowKit.intOf ix).toNat)
      case atStart => exact ⟨0, Nat.zero_le _, rfl, H0⟩
      case round =>
        obtain ⟨j, hj, rfl, HI⟩ := hrel
        clear H0
        obtain ⟨dj, Fj, q1, q2, q3, q4, q5, q6, q7⟩ := HI.out
        clear HI
        by_cases hlt : j < bb
        · have hjl : j < L1.length := by rw [HW.out.2]; omega
          obtain ⟨g', off', ra', rc', e, hg', c0, c1, c2, c3, c4, c5, c6, -⟩ := RdSg.at q5.rd hjl
          simp only [Option.some.injEq, Addr.mk.injEq, and_true] at e
          obtain ⟨rfl, rfl⟩ := e
          have hyw := HW.out.1 _ (List.getElem_mem hjl)
          have hjt : j < (L1.take bb).length := by rw [List.length_take, HW.out.2]; omega
          rw [dps_at hjt, List.getElem_take] at q7
          generalize L1[j] = y at *
          have k1 : (j : Int) < (bb : Int) := by omega
          have k2 : (0 : Int) ≤ (j : Int) := by omega
          have al : Below wr.heap.size wr (wr.alloc (.cells #[.int .i64 y.1, .int .i64 (y.2.1 : Int), .slice ra' y.2.2.recs.length rc', .bool y.2.2.begun, .bool y.2.2.ended, .bool y.2.2.torn, .bool y.2.2.wrong] 77)) := (Below.refl _ _).alloc (Nat.le_refl _) _
          have hO := Bn.new wr [.int .i64 y.1, .int .i64 (y.2.1 : Int), .slice ra' y.2.2.recs.length rc', .bool y.2.2.begun, .bool y.2.2.ended, .bool y.2.2.torn, .bool y.2.2.wrong] 77 _ rfl
          obtain ⟨o0, -⟩ := hO 0 _ rfl
          have hdr := ddrop_any (q1.on al) (n := y.1) q2.fuse.2 hyw (by have := q2.us; omega)
          have okd := q2.drp y.1
          have hws := q6.size
          by_cases he : (opM dj y.1 (drpF dj y.1)).2 = 0
          · rw [if_pos he] at q7
            rw [he] at hdr
            generalize (opM dj y.1 (drpF dj y.1)).1 = dk at *
            have HN := hideD (show ∀ wn, PD wn X (nF Fj (wr.alloc (.cells #[.int .i64 y.1, .int .i64 (y.2.1 : Int), .slice ra' y.2.2.recs.length rc', .bool y.2.2.begun, .bool y.2.2.ended, .bool y.2.2.torn, .bool y.2.2.wrong] 77))) dk → Kf Fj (wr.alloc (.cells #[.int .i64 y.1, .int .i64 (y.2.1 : Int), .slice ra' y.2.2.recs.length rc', .bool y.2.2.begun, .bool y.2.2.ended, .bool y.2.2.torn, .bool y.2.2.wrong] 77)) wn → Hid (∃ (dj : Dk) (Fj : Nat → Prop), PD wn X Fj dj ∧ Ok dj n0 1000000 ∧ (∀ i, Fj i → nF F w i) ∧ (∀ i, Fj i → i < B ∨ w.heap.size ≤ i) ∧ RdSgC B w.heap.size wn L1 (.slice (some ⟨g, off, none⟩) n1 c) ∧ Kf F w wn ∧ dpsM dj ((L1.take bb).drop (j + 1)) = R) from fun wn hp2 hk2 => by
              have hsa := al.size
              refine hideD ⟨dk, _, hp2, okd, fun i hi => ?_, fun i hi => ?_, (q5.keep (fun b _ _ h => al.block b h)).keep (fun b h1 h2 h3 => hk2.block b h3 (fun e => ?_)), ?_, q7⟩
              · rcases hi with hi | hi
                · exact q3 i hi
                · exact .inr (by omega)
              · rcases hi with hi | hi
                · exact q4 i hi
                · exact .inr (by omega)
              · rcases q4 b e with h | h <;> omega
              · exact (q6.trans (Kf.of al (Nat.le_refl _))).transN (hk2.mono q3))
            clear al hO okd q1 q2 q3 q4 q5 q6 q7 he hyw hjl hjt
            go_wp2_with (first
              | (go_at_call 47; refine hdr.mono ?_; rintro e wn ⟨rfl, hp2, hk2⟩; have HM := HN.out _ hp2 hk2; clear hdr hp2 hk2 HN)
              | fail)
            go_roundw
            case rel => exact ⟨j + 1, hlt, by go_num, HM⟩
            case measure => simp [RowKit.intOf]; omega
          · rw [if_neg he] at q7
            generalize opM dj y.1 (drpF dj y.1) = o at *
            subst q7
            have HE := hideD he
            have hed : (o.2 == 0) = false := by simpa using he
            have HF2 := hideD (show ∀ wn, PD wn X (nF Fj (wr.alloc (.cells #[.int .i64 y.1, .int .i64 (y.2.1 : Int), .slice ra' y.2.2.recs.length rc', .bool y.2.2.begun, .bool y.2.2.ended, .bool y.2.2.torn, .bool y.2.2.wrong] 77))) o.1 → Kf Fj (wr.alloc (.cells #[.int .i64 y.1, .int .i64 (y.2.1 : Int), .slice ra' y.2.2.recs.length rc', .bool y.2.2.begun, .bool y.2.2.ended, .bool y.2.2.torn, .bool y.2.2.wrong] 77)) wn → PD wn X (nF F w) o.1 ∧ Kf F w wn from fun wn hp2 hk2 => by
              have hsa := al.size
              refine ⟨hp2.mono (fun i _ hi => ?_), (q6.trans (Kf.of al (Nat.le_refl _))).transN (hk2.mono q3)⟩
              rcases hi with hi | hi
              · exact q3 i hi
              · exact .inr (by omega))
            clear al hO okd q1 q2 q3 q4 q5 q6 he hyw hjl hjt
            go_wp2_with (first
              | (go_at_call 47; refine hdr.mono ?_; rintro e wn ⟨rfl, hp2, hk2⟩; have HM := hideD (HF2.out _ hp2 hk2); clear hdr hp2 hk2 HF2)
              | fail)
            go_ret2
            exact ⟨_, rfl, fun h => absurd h HE.out, HM.out.1, HM.out.2⟩
        · have k1 : ¬ (j : Int) < (bb : Int) := by omega
          have e : (L1.take bb).drop j = [] := List.drop_eq_nil_of_le (by rw [List.length_take]; omega)
          rw [e] at q7
          have q7 : (dj, 0) = R := q7
          subst q7
          have HM := hideD (And.intro (q5.drop (n := bb) (by omega)).rdB (And.intro (q1.mono (fun i _ hi => q3 i hi)) q6))
          clear q1 q2 q3 q4 q5 q6 e
          go_wp2
          go_ret2
          exact ⟨_, rfl, HM.out.1, HM.out.2⟩
    · have hT : tidM d L = ((opM d x.1 (drpF d x.1)).1, (opM d x.1 (drpF d x.1)).2, []) := by unfold tidM; rw [hLm, if_neg he]
      unfold TiOut
      rw [hT]
      have HE := hideD he
      have hed : ((opM d x.1 (drpF d x.1)).2 == 0) = false := by simpa using he
      generalize opM d x.1 (drpF d x.1) = o at *
      clear hLm hT h hm
      go_enter Try.func34, Try.ntmps34
      go_wp2_with (first
        | (go_at_call 61; refine (hU _).mono ?_; rintro e w1 ⟨rfl, b1⟩; have hdr := hdr _ b1; have HB1 := hideD b1; obtain ⟨d0, _⟩ := And.intro ((b1.cell (p := ⟨g, off + m * 7, none⟩) hg).trans c0) trivial; clear hU b1)
        | (go_at_call 47; refine hdr.mono ?_; rintro e w2 ⟨rfl, hp2, hk2⟩; have HP := hideD (And.intro hp2 hk2); clear hdr hp2 hk2)
        | fail)
      go_ret2
      exact ⟨_, rfl, fun h => absurd h HE.out, HP.out.1.mono (fun j _ hj => hj.imp id (fun hj => Nat.le_trans HB1.out.size hj)), (Kf.of HB1.out (Nat.le_refl _)).trans HP.out.2⟩
  · have hu' : unfB x.2.2 = false := by simpa using hu
    rw [if_neg hu] at hLm
    rw [hu'] at hU
    have hT : tidM d L = ((dpsM d (L.take (bsB 0 0 L))).1, (dpsM d (L.take (bsB 0 0 L))).2, L.drop (bsB 0 0 L)) := by unfold tidM; rw [hLm, if_pos rfl]
    obtain ⟨L1, hL1⟩ : ∃ k, L = k := ⟨_, rfl⟩
    obtain ⟨d1, hd1⟩ : ∃ k, d = k := ⟨_, rfl⟩
    obtain ⟨n1, hnn⟩ : ∃ k, m + 1 = k := ⟨_, rfl⟩
    have hn2 : L1.length = n1 := by rw [← hL1]; omega
    have hm5 : n1 ≤ 100001 := by omega
    have hc1 : n1 ≤ c := by omega
    have hn0 : 0 < n1 := by omega
    rw [hL1, hd1] at hT ⊢
    rw [hL1] at h hw hLm
    rw [hd1] at ok hp
    rw [hnn] at h
    obtain ⟨bb, hbb⟩ : ∃ k, bsB 0 0 L1 = k := ⟨_, rfl⟩
    have hb2 : bb ≤ n1 := by have := (bsB_len L1).1; omega
    have hcb : ¬ c = bb := by have := (bsB_len L1).2; omega
    obtain ⟨R, hR⟩ : ∃ R, dpsM d1 (L1.take bb) = R := ⟨_, rfl⟩
    unfold TiOut
    rw [hT, hbb, hR]
    dsimp only
    have hbs := fun W (hr : RdSgC B w.heap.size W L1 (.slice (some ⟨g, off, none⟩) n1 c)) => jbase_any hr.rd (by omega)
    rw [hbb] at hbs
    have HX := hideD (And.intro ok (And.intro hw (And.intro hn2 (And.intro h hp))))
    have HR := hideD hR
    have HFB := hideD (And.intro hF hB)
    have HNN := hideD hnn
    clear hLm hT h hm hL1 hd1 hw hL0 hR hu hu' hp ok hbb hn2 hF hl hml hnn
    go_enter Try.func34, Try.ntmps34
    go_upto_region 7 with (first
      | (go_at_call 61; refine (hU _).mono ?_; rintro e w1 ⟨rfl, b1⟩; have HB1 := hideD b1; clear hU b1)
      | fail)
    rw [HNN.out]
    obtain ⟨okt, hwt, hn2, hr0, hp0⟩ := HX.out
    have hkt : Kf F w w1 := Kf.of HB1.out (Nat.le_refl _)
    have hrt : RdSgC B w.heap.size w1 L1 (.slice (some ⟨g, off, none⟩) n1 c) := hr0.keep (fun b h1 h2 h3 => HB1.out.block b h3)
    have hpt := hp0.on HB1.out
    have hFw : ∀ j, F j → nF F w j := fun j hj => .inl hj
    have hFt : ∀ j, F j → j < B ∨ w.heap.size ≤ j := fun j hj => .inl (HFB.out.1 j hj)
    obtain ⟨Ft, hFz⟩ : ∃ k, F = k := ⟨_, rfl⟩
    rw [hFz] at hpt
    have hFw : ∀ j, Ft j → nF F w j := by rw [← hFz]; exact hFw
    have hFt : ∀ j, Ft j → j < B ∨ w.heap.size ≤ j := by rw [← hFz]; exact hFt
    clear HB1 hFz HX hr0 hp0 c0 c1 c2 c3 c4 c5 c6 i1 i2 hmb
    have hbs := hbs _ hrt
    have j1 : (bb : Int) ≤ (c : Int) := by omega
    have j2 : (0 : Int) ≤ (bb : Int) := by omega
    have j3 : (bb : Int) ≤ (n1 : Int) := by omega
    have j4 : (n1 : Int) ≤ (c : Int) := by omega
    have HT := hideD (And.intro hpt (And.intro okt (And.intro hrt (And.intro hkt (And.intro hFw (And.intro hFt (And.intro hwt hn2)))))))
    clear hpt okt hrt hkt hFw hFt hwt hn2
    go_upto_region 9 with (first
      | (go_at_call 62; refine hbs.mono ?_; rintro e w3 ⟨rfl, b3⟩; have HB3 := hideD b3; clear hbs b3)
      | fail)
    have H0 := hideD (show ∃ (dj : Dk) (Fj : Nat → Prop), PD w3 X Fj dj ∧ Ok dj n0 1000000 ∧ (∀ i, Fj i → nF F w i) ∧ (∀ i, Fj i → i < B ∨ w.heap.size ≤ i) ∧ RdSgC B w.heap.size w3 L1 (.slice (some ⟨g, off, none⟩) n1 c) ∧ Kf F w w3 ∧ dpsM dj ((L1.take bb).drop 0) = R from by
      obtain ⟨q1, q2, q3, q4, q5, q6, q7, q8⟩ := HT.out
      exact ⟨d1, _, q1.on HB3.out, q2, q5, q6, q3.keep (fun b _ _ h => HB3.out.block b h), q4.trans (Kf.of HB3.out (Nat.le_refl _)), HR.out⟩)
    have HW := hideD (And.intro HT.out.2.2.2.2.2.2.1 HT.out.2.2.2.2.2.2.2)
    clear HT HB3 HR
    go_loopw [43] (fun ix wr => ∃ (j : Nat), j ≤ bb ∧ ix = .int .i64 (j : Int) ∧ Hid (∃ (dj : Dk) (Fj : Nat → Prop), PD wr X Fj dj ∧ Ok dj n0 1000000 ∧ (∀ i, Fj i → nF F w i) ∧ (∀ i, Fj i → i < B ∨ w.heap.size ≤ i) ∧ RdSgC B w.heap.size wr L1 (.slice (some ⟨g, off, none⟩) n1 c) ∧ Kf F w wr ∧ dpsM dj ((L1.take bb).drop j) = R)) (fun ix _ => bb - (RowKit.intOf ix).toNat)
    case atStart => exact ⟨0, Nat.zero_le _, rfl, H0⟩
    case round =>
      obtain ⟨j, hj, rfl, HI⟩ := hrel
      clear H0
      obtain ⟨dj, Fj, q1, q2, q3, q4, q5, q6, q7⟩ := HI.out
      clear HI
      by_cases hlt : j < bb
      · have hjl : j < L1.length := by rw [HW.out.2]; omega
        obtain ⟨g', off', ra', rc', e, hg', c0, c1, c2, c3, c4, c5, c6, -⟩ := RdSg.at q5.rd hjl
        simp only [Option.some.injEq, Addr.mk.injEq, and_true] at e
        obtain ⟨rfl, rfl⟩ := e
        have hyw := HW.out.1 _ (List.getElem_mem hjl)
        have hjt : j < (L1.take bb).length := by rw [List.length_take, HW.out.2]; omega
        rw [dps_at hjt, List.getElem_take] at q7
        generalize L1[j] = y at *
        have k1 : (j : Int) < (bb : Int) := by omega
        have k2 : (0 : Int) ≤ (j : Int) := by omega
        have al : Below wr.heap.size wr (wr.alloc (.cells #[.int .i64 y.1, .int .i64 (y.2.1 : Int), .slice ra' y.2.2.recs.length rc', .bool y.2.2.begun, .bool y.2.2.ended, .bool y.2.2.torn, .bool y.2.2.wrong] 77)) := (Below.refl _ _).alloc (Nat.le_refl _) _
        have hO := Bn.new wr [.int .i64 y.1, .int .i64 (y.2.1 : Int), .slice ra' y.2.2.recs.length rc', .bool y.2.2.begun, .bool y.2.2.ended, .bool y.2.2.torn, .bool y.2.2.wrong] 77 _ rfl
        obtain ⟨o0, -⟩ := hO 0 _ rfl
        have hdr := ddrop_any (q1.on al) (n := y.1) q2.fuse.2 hyw (by have := q2.us; omega)
        have okd := q2.drp y.1
        have hws := q6.size
        by_cases he : (opM dj y.1 (drpF dj y.1)).2 = 0
        · rw [if_pos he] at q7
          rw [he] at hdr
          generalize (opM dj y.1 (drpF dj y.1)).1 = dk at *
          have HN := hideD (show ∀ wn, PD wn X (nF Fj (wr.alloc (.cells #[.int .i64 y.1, .int .i64 (y.2.1 : Int), .slice ra' y.2.2.recs.length rc', .bool y.2.2.begun, .bool y.2.2.ended, .bool y.2.2.torn, .bool y.2.2.wrong] 77))) dk → Kf Fj (wr.alloc (.cells #[.int .i64 y.1, .int .i64 (y.2.1 : Int), .slice ra' y.2.2.recs.length rc', .bool y.2.2.begun, .bool y.2.2.ended, .bool y.2.2.torn, .bool y.2.2.wrong] 77)) wn → Hid (∃ (dj : Dk) (Fj : Nat → Prop), PD wn X Fj dj ∧ Ok dj n0 1000000 ∧ (∀ i, Fj i → nF F w i) ∧ (∀ i, Fj i → i < B ∨ w.heap.size ≤ i) ∧ RdSgC B w.heap.size wn L1 (.slice (some ⟨g, off, none⟩) n1 c) ∧ Kf F w wn ∧ dpsM dj ((L1.take bb).drop (j + 1)) = R) from fun wn hp2 hk2 => by
            have hsa := al.size
            refine hideD ⟨dk, _, hp2, okd, fun i hi => ?_, fun i hi => ?_, (q5.keep (fun b _ _ h => al.block b h)).keep (fun b h1 h2 h3 => hk2.block b h3 (fun e => ?_)), ?_, q7⟩
            · rcases hi with hi | hi
              · exact q3 i hi
              · exact .inr (by omega)
            · rcases hi with hi | hi
              · exact q4 i hi
              · exact .inr (by omega)
            · rcases q4 b e with h | h <;> omega
            · exact (q6.trans (Kf.of al (Nat.le_refl _))).transN (hk2.mono q3))
          clear al hO okd q1 q2 q3 q4 q5 q6 q7 he hyw hjl hjt
          go_wp2_with (first
            | (go_at_call 47; refine hdr.mono ?_; rintro e wn ⟨rfl, hp2, hk2⟩; have HM := HN.out _ hp2 hk2; clear hdr hp2 hk2 HN)
            | fail)
          go_roundw
          case rel => exact ⟨j + 1, hlt, by go_num, HM⟩
          case measure => simp [RowKit.intOf]; omega
        · rw [if_neg he] at q7
          generalize opM dj y.1 (drpF dj y.1) = o at *
          subst q7
          have HE := hideD he
          have hed : (o.2 == 0) = false := by simpa using he
          have HF2 := hideD (show ∀ wn, PD wn X (nF Fj (wr.alloc (.cells #[.int .i64 y.1, .int .i64 (y.2.1 : Int), .slice ra' y.2.2.recs.length rc', .bool y.2.2.begun, .bool y.2.2.ended, .bool y.2.2.torn, .bool y.2.2.wrong] 77))) o.1 → Kf Fj (wr.alloc (.cells #[.int .i64 y.1, .int .i64 (y.2.1 : Int), .slice ra' y.2.2.recs.length rc', .bool y.2.2.begun, .bool y.2.2.ended, .bool y.2.2.torn, .bool y.2.2.wrong] 77)) wn → PD wn X (nF F w) o.1 ∧ Kf F w wn from fun wn hp2 hk2 => by
            have hsa := al.size
            refine ⟨hp2.mono (fun i _ hi => ?_), (q6.trans (Kf.of al (Nat.le_refl _))).transN (hk2.mono q3)⟩
            rcases hi with hi | hi
            · exact q3 i hi
            · exact .inr (by omega))
          clear al hO okd q1 q2 q3 q4 q5 q6 he hyw hjl hjt
          go_wp2_with (first
            | (go_at_call 47; refine hdr.mono ?_; rintro e wn ⟨rfl, hp2, hk2⟩; have HM := hideD (HF2.out _ hp2 hk2); clear hdr hp2 hk2 HF2)
            | fail)
          go_ret2
          exact ⟨_, rfl, fun h => absurd h HE.out, HM.out.1, HM.out.2⟩
      · have k1 : ¬ (j : Int) < (bb : Int) := by omega
        have e : (L1.take bb).drop j = [] := List.drop_eq_nil_of_le (by rw [List.length_take]; omega)
        rw [e] at q7
        have q7 : (dj, 0) = R := q7
        subst q7
        have HM := hideD (And.intro (q5.drop (n := bb) (by omega)).rdB (And.intro (q1.mono (fun i _ hi => q3 i hi)) q6))
        clear q1 q2 q3 q4 q5 q6 e
        go_wp2
        go_ret2
        exact ⟨_, rfl, HM.out.1, HM.out.2⟩

/-- A row's cells read as rows of bytes. -/
def RdCs (w : World) (cs : List Value) (l : List (List Int)) : Prop := cs.length = l.length ∧ ∀ (i : Nat) (h : i < l.length), ∃ a c, cs[i]? = some (.slice a (l[i]).length c) ∧ (∀ y : Addr, a = some y → y.block < w.heap.size) ∧ Rd w (.slice a (l[i]).length c) l[i]
theorem RdCs.on {w w' : World} {cs : List Value} {l : List (List Int)} (h : RdCs w cs l) (hb : Below w.heap.size w w') : RdCs w' cs l := ⟨h.1, fun i hi => by
  obtain ⟨a, c, h1, h3, h2⟩ := h.2 i hi
  exact ⟨a, c, h1, fun y hy => Nat.lt_of_lt_of_le (h3 y hy) hb.size, rd_on h2 hb⟩⟩
theorem RdCs.app {w : World} {cs cs' : List Value} {l l' : List (List Int)} (h : RdCs w cs l) (h' : RdCs w cs' l') : RdCs w (cs ++ cs') (l ++ l') := by
  refine ⟨by simp [h.1, h'.1], fun i hi => ?_⟩
  by_cases hlt : i < l.length
  · obtain ⟨a, c, h1, h3, h2⟩ := h.2 i hlt
    rw [List.getElem_append_left hlt, List.getElem?_append_left (by rw [h.1]; exact hlt)]
    exact ⟨a, c, h1, h3, h2⟩
  · have hi2 : i - l.length < l'.length := by simp at hi; omega
    obtain ⟨a, c, h1, h3, h2⟩ := h'.2 _ hi2
    rw [List.getElem_append_right (by omega), List.getElem?_append_right (by rw [h.1]; omega), h.1]
    exact ⟨a, c, h1, h3, h2⟩
theorem RdCs.one {w : World} {cs : List Value} {l : List (List Int)} (h : RdCs w cs l) : ∀ u ∈ cs, u.oneCell' = true := fun u hu => by
  obtain ⟨i, hi, rfl⟩ := List.getElem_of_mem hu
  obtain ⟨a, c, h1, _, _⟩ := h.2 i (by rw [← h.1]; exact hi)
  rw [List.getElem?_eq_getElem hi] at h1
  rw [Option.some.inj h1]
  rfl
theorem rdk_cells {w : World} {l : List (List Int)} {ra : Option Addr} {m rc : Nat} (h : RdK (fun _ => True) w 1 (rBy (fun _ => True) w) l (.slice ra m rc)) : ∃ cs, RdCs w cs l ∧ ∀ W, Below w.heap.size w W → Src Try.prog 1 30 (.slice ra m rc) m cs W := by
  obtain ⟨a', c', e, h2, h3, h4⟩ := h
  simp only [Value.slice.injEq] at e
  obtain ⟨rfl, rfl, rfl⟩ := e
  by_cases h0 : l.length = 0
  · have hl : l = [] := List.eq_nil_of_length_eq_zero h0
    subst hl
    refine ⟨[], ⟨rfl, fun i hi => absurd hi (by simp)⟩, fun W _ => ?_⟩
    cases ra with
    | none => exact Src.ofNil W Try.underlying30 rc
    | some q => exact Src.ofSlice _ Try.underlying30 _ 0 rc _ rfl (fun j u hj => by simp at hj) (fun u hu => by simp at hu)
  · obtain ⟨b, off, cs0, ha, _, hbl, _⟩ := h4 0 (by omega)
    subst ha
    have hall : ∀ i, i < l.length → ∃ u : Value, (∃ (h : i < l.length) (a : Option Addr) (c : Nat), u = .slice a (l[i]).length c ∧ (∀ y : Addr, a = some y → y.block < w.heap.size) ∧ Rd w (.slice a (l[i]).length c) l[i]) ∧ w.cell? ⟨b, off + i, none⟩ = some u := fun i hi => by
      obtain ⟨b', off', cs, e, _, _, _, ⟨a, c, hcs, hy, hr⟩, hc⟩ := h4 i hi
      simp only [Option.some.injEq, Addr.mk.injEq, and_true] at e
      obtain ⟨rfl, rfl⟩ := e
      subst hcs
      have := hc 0 _ rfl
      rw [Nat.mul_one, Nat.add_zero] at this
      exact ⟨_, ⟨hi, a, c, rfl, fun y hy2 => (hy y hy2).2, hr⟩, this⟩
    obtain ⟨f, hf⟩ := Go.Deep.choose_lt (α := Value) hall
    refine ⟨(List.range l.length).map f, ⟨by simp, fun i hi => ?_⟩, fun W hW => ?_⟩
    · obtain ⟨⟨_, a, c, e, hy, hr⟩, _⟩ := hf i hi
      exact ⟨a, c, by simp [hi, e], hy, hr⟩
    · refine Src.ofSlice _ Try.underlying30 _ _ rc _ (by simp) (fun j u hj => ?_) (fun u hu => ?_)
      · have hjl : j < l.length := by
          have := (List.getElem?_eq_some_iff.1 hj).1
          simpa using this
        rw [add_plain]
        have e : u = f j := by simpa [hjl] using hj.symm
        rw [e]
        exact (hW.cell (p := ⟨b, off + j, none⟩) hbl).trans (hf j hjl).2
      · obtain ⟨i, hi, rfl⟩ := List.mem_map.1 hu
        obtain ⟨⟨_, a, c, e, _, _⟩, _⟩ := hf i (by simpa using hi)
        rw [e]
        rfl
/-! The same, of what lies from block B on. -/
/-- A segment's cells, in a row that lies from block B on. -/
theorem RdSgB.at {B : Nat} {w : World} {L : List SgT} {a : Option Addr} {k c : Nat} (h : RdSgB B w L (.slice a k c)) {i : Nat} (hi : i < L.length) : ∃ b off ra rc, a = some ⟨b, off, none⟩ ∧ b < w.heap.size ∧
    w.cell? ⟨b, off + i * 7, none⟩ = some (.int .i64 (L[i]).1) ∧ w.cell? ⟨b, off + i * 7 + 1, none⟩ = some (.int .i64 ((L[i]).2.1 : Int)) ∧ w.cell? ⟨b, off + i * 7 + 2, none⟩ = some (.slice ra (L[i]).2.2.recs.length rc) ∧
    w.cell? ⟨b, off + i * 7 + 3, none⟩ = some (.bool (L[i]).2.2.begun) ∧ w.cell? ⟨b, off + i * 7 + 4, none⟩ = some (.bool (L[i]).2.2.ended) ∧ w.cell? ⟨b, off + i * 7 + 5, none⟩ = some (.bool (L[i]).2.2.torn) ∧ w.cell? ⟨b, off + i * 7 + 6, none⟩ = some (.bool (L[i]).2.2.wrong) ∧
    RdK (fun b => B ≤ b) w 1 (rBy (fun b => B ≤ b) w) (L[i]).2.2.recs (.slice ra (L[i]).2.2.recs.length rc) := by
  obtain ⟨a', cap, e, _, _, hcell⟩ := h
  simp only [Value.slice.injEq] at e
  obtain ⟨rfl, _, rfl⟩ := e
  obtain ⟨b, off, cs, h1, _, h2, _, ⟨rv, h3, h4⟩, h5⟩ := hcell i hi
  obtain ⟨ra, rc, rfl, _, _⟩ := id h4.form
  subst h3
  exact ⟨b, off, ra, rc, h1, h2, h5 0 _ rfl, h5 1 _ rfl, h5 2 _ rfl, h5 3 _ rfl, h5 4 _ rfl, h5 5 _ rfl, h5 6 _ rfl, h4⟩
def RdCsB (B : Nat) (w : World) (cs : List Value) (l : List (List Int)) : Prop := cs.length = l.length ∧ ∀ (i : Nat) (h : i < l.length), ∃ a c, cs[i]? = some (.slice a (l[i]).length c) ∧ (∀ y : Addr, a = some y → B ≤ y.block ∧ y.block < w.heap.size) ∧ Rd w (.slice a (l[i]).length c) l[i]
theorem RdCsB.on {B : Nat} {w w' : World} {cs : List Value} {l : List (List Int)} (h : RdCsB B w cs l) (hb : Below w.heap.size w w') : RdCsB B w' cs l := ⟨h.1, fun i hi => by
  obtain ⟨a, c, h1, h3, h2⟩ := h.2 i hi
  exact ⟨a, c, h1, fun y hy => ⟨(h3 y hy).1, Nat.lt_of_lt_of_le (h3 y hy).2 hb.size⟩, rd_on h2 hb⟩⟩
theorem RdCsB.app {B : Nat} {w : World} {cs cs' : List Value} {l l' : List (List Int)} (h : RdCsB B w cs l) (h' : RdCsB B w cs' l') : RdCsB B w (cs ++ cs') (l ++ l') := by
  refine ⟨by simp [h.1, h'.1], fun i hi => ?_⟩
  by_cases hlt : i < l.length
  · obtain ⟨a, c, h1, h3, h2⟩ := h.2 i hlt
    rw [List.getElem_append_left hlt, List.getElem?_append_left (by rw [h.1]; exact hlt)]
    exact ⟨a, c, h1, h3, h2⟩
  · have hi2 : i - l.length < l'.length := by simp at hi; omega
    obtain ⟨a, c, h1, h3, h2⟩ := h'.2 _ hi2
    rw [List.getElem_append_right (by omega), List.getElem?_append_right (by rw [h.1]; omega), h.1]
    exact ⟨a, c, h1, h3, h2⟩
theorem rdk_cellsB {B : Nat} {w : World} {l : List (List Int)} {ra : Option Addr} {m rc : Nat} (h : RdK (fun b => B ≤ b) w 1 (rBy (fun b => B ≤ b) w) l (.slice ra m rc)) : ∃ cs, RdCsB B w cs l ∧ ∀ W, Below w.heap.size w W → Src Try.prog 1 30 (.slice ra m rc) m cs W := by
  obtain ⟨a', c', e, h2, h3, h4⟩ := h
  simp only [Value.slice.injEq] at e
  obtain ⟨rfl, rfl, rfl⟩ := e
  by_cases h0 : l.length = 0
  · have hl : l = [] := List.eq_nil_of_length_eq_zero h0
    subst hl
    refine ⟨[], ⟨rfl, fun i hi => absurd hi (by simp)⟩, fun W _ => ?_⟩
    cases ra with
    | none => exact Src.ofNil W Try.underlying30 rc
    | some q => exact Src.ofSlice _ Try.underlying30 _ 0 rc _ rfl (fun j u hj => by simp at hj) (fun u hu => by simp at hu)
  · obtain ⟨b, off, cs0, ha, _, hbl, _⟩ := h4 0 (by omega)
    subst ha
    have hall : ∀ i, i < l.length → ∃ u : Value, (∃ (h : i < l.length) (a : Option Addr) (c : Nat), u = .slice a (l[i]).length c ∧ (∀ y : Addr, a = some y → B ≤ y.block ∧ y.block < w.heap.size) ∧ Rd w (.slice a (l[i]).length c) l[i]) ∧ w.cell? ⟨b, off + i, none⟩ = some u := fun i hi => by
      obtain ⟨b', off', cs, e, _, _, _, ⟨a, c, hcs, hy, hr⟩, hc⟩ := h4 i hi
      simp only [Option.some.injEq, Addr.mk.injEq, and_true] at e
      obtain ⟨rfl, rfl⟩ := e
      subst hcs
      have := hc 0 _ rfl
      rw [Nat.mul_one, Nat.add_zero] at this
      exact ⟨_, ⟨hi, a, c, rfl, fun y hy2 => hy y hy2, hr⟩, this⟩
    obtain ⟨f, hf⟩ := Go.Deep.choose_lt (α := Value) hall
    refine ⟨(List.range l.length).map f, ⟨by simp, fun i hi => ?_⟩, fun W hW => ?_⟩
    · obtain ⟨⟨_, a, c, e, hy, hr⟩, _⟩ := hf i hi
      exact ⟨a, c, by simp [hi, e], hy, hr⟩
    · refine Src.ofSlice _ Try.underlying30 _ _ rc _ (by simp) (fun j u hj => ?_) (fun u hu => ?_)
      · have hjl : j < l.length := by
          have := (List.getElem?_eq_some_iff.1 hj).1
          simpa using this
        rw [add_plain]
        have e : u = f j := by simpa [hjl] using hj.symm
        rw [e]
        exact (hW.cell (p := ⟨b, off + j, none⟩) hbl).trans (hf j hjl).2
      · obtain ⟨i, hi, rfl⟩ := List.mem_map.1 hu
        obtain ⟨⟨_, a, c, e, _, _⟩, _⟩ := hf i (by simpa using hi)
        rw [e]
        rfl
/-- What Open makes of the segments that stay. -/
def opR (L : List SgT) : List (List Int) := L.flatMap fun x => x.2.2.recs
def opJ (L : List SgT) : Jm := ⟨(L.head?.map (·.1)).getD 0, L.length, (L.getLast?.map fun x => (x.2.1 : Int)).getD 0, (L.getLast?.map fun x => x.2.2.torn).getD false, ((opR L).length : Int), false⟩
theorem opR_take {L : List SgT} {k : Nat} (h : k < L.length) : opR (L.take (k + 1)) = opR (L.take k) ++ (L[k]).2.2.recs := by
  unfold opR
  rw [List.take_succ_eq_append_getElem h, List.flatMap_append]
  simp
theorem opR_le (L : List SgT) (k : Nat) : (opR (L.take k)).length ≤ (opR L).length := by
  have : opR L = opR (L.take k) ++ opR (L.drop k) := by
    unfold opR
    rw [← List.flatMap_append, List.take_append_drop]
  rw [this, List.length_append]
  omega
/-- The journal as it stands within the loop. -/
def opJ0 (L : List SgT) : Jm := { opJ L with segs := 0, recs := 0 }
theorem opJ0_one {L : List SgT} (h : 0 < L.length) : opJ0 (L.take 1) = ⟨(L[0]).1, 0, ((L[0]).2.1 : Int), (L[0]).2.2.torn, 0, false⟩ := by
  cases L with
  | nil => simp at h
  | cons x r => rfl
theorem opJ0_go {L : List SgT} {k : Nat} (h : k < L.length) (h0 : 0 < k) : opJ0 (L.take (k + 1)) = ⟨(opJ0 (L.take k)).first, 0, ((L[k]).2.1 : Int), (L[k]).2.2.torn, 0, false⟩ := by
  cases L with
  | nil => simp at h
  | cons x r =>
    have e : (x :: r).take (k + 1) = (x :: r).take k ++ [(x :: r)[k]] := List.take_succ_eq_append_getElem h
    obtain ⟨j, rfl⟩ : ∃ j, k = j + 1 := ⟨k - 1, by omega⟩
    have hl : ((x :: r).take (j + 1 + 1)).getLast? = some ((x :: r)[j + 1]) := by rw [e, List.getLast?_concat]
    have h1 : ((x :: r).take (j + 1 + 1)).head? = some x := rfl
    have h2 : ((x :: r).take (j + 1)).head? = some x := rfl
    unfold opJ0 opJ
    rw [hl, h1, h2]
    rfl
theorem jPrs_recs : ∀ (f : Nat) (s : SgM) (a : Nat) (r : List Int), (jPrs f s a r).recs.length ≤ s.recs.length + r.length
  | 0, s, _, _ => by unfold jPrs; omega
  | f + 1, s, a, r => by
    unfold jPrs
    split
    · omega
    · split
      · simp only; omega
      · split
        · simp only; omega
        · rename_i h0 h5 he
          have hsz := openS_size (r := r) (by simpa using he)
          have hd : (r.drop (openS r).2.1.toNat).length + 7 ≤ r.length := by rw [List.length_drop]; omega
          split
          · simp only; omega
          · rename_i s' ht
            have ih := jPrs_recs f s' (a + (openS r).2.1.toNat) (r.drop (openS r).2.1.toNat)
            have hs' : s'.recs.length ≤ s.recs.length + 1 := by
              unfold jTk at ht
              split at ht
              · obtain rfl := Option.some.inj ht
                simp
              · split at ht
                · obtain rfl := Option.some.inj ht
                  simp
                · split at ht
                  · obtain rfl := Option.some.inj ht
                    simp
                  · cases ht
            omega
theorem jPrsB_recs (b : List Int) : (jPrsB b).recs.length ≤ b.length := by
  have := jPrs_recs (b.length + 1) jSg0 0 b
  unfold jPrsB
  simp only [jSg0, List.length_nil, Nat.zero_add] at this
  exact this
theorem opR_sgs : ∀ L : List (Int × Sm), (opR (sgsM L)).length ≤ usM L
  | [] => by simp [opR, sgsM]
  | x :: r => by
    have ih := opR_sgs r
    have h1 := jPrsB_recs x.2.1
    have e1 : opR (sgsM (x :: r)) = (jPrsB x.2.1).recs ++ opR (sgsM r) := rfl
    have e2 : usM (x :: r) = x.2.1.length + usM r := by simp [usM]
    rw [e1, e2, List.length_append]
    omega
theorem opR_sub {A B : List SgT} (h : A.Sublist B) : (opR A).length ≤ (opR B).length := by
  induction h with
  | slnil => exact Nat.le_refl _
  | @cons l1 l2 x h ih =>
    have e2 : opR (x :: l2) = x.2.2.recs ++ opR l2 := rfl
    rw [e2, List.length_append]
    omega
  | @cons_cons l1 l2 x h ih =>
    have e1 : opR (x :: l1) = x.2.2.recs ++ opR l1 := rfl
    have e2 : opR (x :: l2) = x.2.2.recs ++ opR l2 := rfl
    rw [e1, e2, List.length_append, List.length_append]
    omega
theorem tid_sub (d : Dk) (L : List SgT) : (tidM d L).2.2.Sublist L := by
  have h1 : (lstM d L).2.2.Sublist L := by
    unfold lstM
    split
    · exact List.Sublist.refl _
    · split
      · exact List.dropLast_sublist L
      · exact List.Sublist.refl _
  unfold tidM
  split
  · exact (List.drop_sublist _ _).trans h1
  · exact List.nil_sublist _
theorem tid_recs (d : Dk) : (opR (tidM d (sgsM d.L)).2.2).length ≤ usM d.L := Nat.le_trans (opR_sub (tid_sub d _)) (opR_sgs d.L)
end Go.Proofs.Ytpblcahcpobicaa
