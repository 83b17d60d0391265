import Derived.Test.YtccmmkhcacglhaaGreatDoorWka08
import Derived.Test.YtccmmkhcacglhaaGreatDoorWkc16

/- What the document's Read does. -/
namespace Go.Proofs.YtccmmkhcacglhaaGreatDoor
open Go.RowKit Go.Lib
set_option linter.unusedSimpArgs false
set_option linter.unusedVariables false
attribute [local go_sem ↓] Go.wp_at_zero Go.wp_at_succ

abbrev zD6 : Obj := .cells #[.string ⟨#[]⟩, .int .i64 0, .int .i64 0, .int .i64 0, .slice none 0 0, .slice none 0 0] 35
abbrev zD4 : Obj := .cells #[.string ⟨#[]⟩, .int .i64 0, .int .i64 0, .int .i64 0] 73
abbrev zDv : List Value := [.string ⟨#[]⟩, .int .i64 0, .int .i64 0, .int .i64 0]
theorem Tryz.infoVarD : (Tryz.prog.info? 73).map (fun i => (i.zero, i.size, i.bytes)) = some (some (.agg #[.string ⟨#[]⟩, .int .i64 0, .int .i64 0, .int .i64 0]), 4, 40) := by kernel_rfl
theorem rdD_no (ok : Nat → Prop) (w : World) : RdD ok w 7 noC (.agg #[.string ⟨#[]⟩, .int .i64 0, .int .i64 0, .int .i64 0, .slice none 0 0, .slice none 0 0]) := ⟨_, _, rfl, rdK_none _ _ _ _, rdK_none _ _ _ _⟩
theorem dread_res {w4 : World} {R P : Nat} {a b c d e f p q n : Value} {tmps : Array Value} (hR : Bn w4 R [a, b, c, d, e, f]) (hP : Bn w4 P [p, q]) (ht : tmps.getD 2 undef = .pointer (some ⟨R, 0, none⟩)) (ht3 : tmps.getD 3 undef = .pointer (some ⟨P, 0, none⟩)) (ht4 : tmps.getD 4 undef = n) : (results Tryz.f11 tmps).run Tryz.prog w4 = .ok (.tuple #[.agg #[a, b, c, d, e, f], .agg #[p, q], n]) w4 := by
  have ht' : tmps[2]?.getD undef = .pointer (some ⟨R, 0, none⟩) := by simpa using ht
  have ht3' : tmps[3]?.getD undef = .pointer (some ⟨P, 0, none⟩) := by simpa using ht3
  have ht4' : tmps[4]?.getD undef = n := by simpa using ht4
  have c0 := (hR 0 _ rfl).1
  have c1 := (hR 1 _ rfl).1
  have c2 := (hR 2 _ rfl).1
  have c3 := (hR 3 _ rfl).1
  have c4 := (hR 4 _ rfl).1
  have c5 := (hR 5 _ rfl).1
  have d0 := (hP 0 _ rfl).1
  have d1 := (hP 1 _ rfl).1
  simp [results, Tryz.results11, go_sem, ht', ht3', ht4', c0, c1, c2, c3, c4, c5, d0, d1]
theorem num_rangeD {w : World} {X : Nat} {fin : Pl} {r : RsC} (h : DR w X fin r) : 0 ≤ (numR fin r).1 ∧ (numR fin r).1 ≤ 1000000000 := by
  obtain ⟨a, cap, h⟩ := h
  have ho := h.o
  unfold numR
  cases hr : r.1 with
  | nil => simp
  | cons x l =>
    have h1 := (ho x (by rw [hr]; simp)).kind
    simp only
    by_cases hc : r.2.2 = 0 ∧ x.1 = 2
    · have hn : numB (tkW x).2 = true := by
        rcases h1 with ⟨k, _⟩ | ⟨_, n⟩ | ⟨k, _⟩
        · omega
        · exact n
        · omega
      rw [if_pos hc]
      exact num_small hn
    · rw [if_neg hc]; simp
theorem RdL.up {w : World} {X Y : Nat} {a : Option Addr} {ws : List Wd} (h : RdL w X a ws) (hX : X ≤ Y) : RdL w Y a ws := fun i hi => by
  obtain ⟨g, off, h1, h2, h3⟩ := h i hi
  exact ⟨g, off, h1, by omega, h3⟩
theorem DR.set {w : World} {X : Nat} {fin : Pl} {r : RsC} (h : DR w X fin r) : True := trivial
theorem stsD_yes {fin : Pl} {g : Nat} {acc : List (St 7)} {r : RsC} (h : r.2.2 = 0 ∧ isC [125] r = false) : stsR fin (g + 1) acc r = stsR fin g (acc ++ [(stR fin 6 r).1]) (stR fin 6 r).2 := by
  show (if r.2.2 = 0 ∧ isC [125] r = false then _ else _) = _
  rw [if_pos h]
theorem stsD_no {fin : Pl} {g : Nat} {acc : List (St 7)} {r : RsC} (h : ¬ (r.2.2 = 0 ∧ isC [125] r = false)) : stsR fin (g + 1) acc r = (acc, r) := by
  show (if r.2.2 = 0 ∧ isC [125] r = false then _ else _) = _
  rw [if_neg h]
set_option maxRecDepth 100000 in
set_option maxHeartbeats 24000000 in
theorem dread_any (s : ByteArray) (w : World) (hT : Tabs w) (hs : s.size ≤ 140737488351232) :
    Calls Tryz.prog 11 #[.string s] w fun e w' => ∃ v, e = .returned (.tuple #[v, .agg #[.int .i64 (readC (bl s)).2.1.1, .int .i64 (readC (bl s)).2.1.2], .int .i64 (readC (bl s)).2.2]) ∧ RdD (fun b => w.heap.size ≤ b) w' 7 (readC (bl s)).1 v ∧ Below w.heap.size w w' := by
  have hb0 : Below w.heap.size w ((w.alloc zD6).alloc zP) := ((Below.refl _ _).alloc (Nat.le_refl _) _).alloc (by simp) _
  have hA0 : Bn ((w.alloc zD6).alloc zP) w.heap.size zCl := (Bn.new w zCl 35 _ rfl).on ((Below.refl _ _).alloc (Nat.le_refl _) _)
  have hP0 : Bn ((w.alloc zD6).alloc zP) (w.heap.size + 1) zPl := Bn.new (w.alloc zD6) zPl 24 _ (by simp)
  have hs0 : w.heap.size + 2 ≤ ((w.alloc zD6).alloc zP).heap.size := by simp
  have hW := refWords_any s ((w.alloc zD6).alloc zP) (hT.below hb0 (Nat.le_refl _)) hs
  have hEn := fun w1 (b : Below w.heap.size w w1) => refEnd_any s w1 (hT.below b (Nat.le_refl _)) hs
  obtain ⟨RES, hRES⟩ : ∃ x, readC (bl s) = x := ⟨_, rfl⟩
  rw [hRES]
  unfold readC at hRES
  have h1 := fun h => words_one (l := bl s) h
  obtain ⟨⟨ws, ⟨pl, pc⟩, er⟩, hR⟩ : ∃ r, wordsS (bl s) = r := ⟨_, rfl⟩
  rw [hR] at hW hRES h1
  simp only at hW hRES h1
  rw [end_same] at hRES
  obtain ⟨⟨eL, eC⟩, hEE⟩ : ∃ x, endR (runes (bl s)) 1 1 = x := ⟨_, rfl⟩
  simp only [hEE] at hEn hRES
  by_cases he : er ≠ 0
  · rw [if_pos he] at hRES
    subst hRES
    have i1 : (er != 0) = true := by simpa using he
    clear h1 hR he hEE hEn
    go_enter Tryz.func11, Tryz.ntmps11
    go_upto_region 1 with fail
    generalize (w.alloc zD6).alloc zP = w0 at *
    go_upto_region 3 with (first
      | (go_at_call 29; refine hW.mono ?_; rintro e w1 ⟨u, rfl, hown, b1⟩; obtain ⟨a, cap, rfl, _⟩ := ownW_rdR hown))
    have hal := (Below.refl w1.heap.size w1).alloc (Nat.le_refl _) (.cells #[.int .i64 pl, .int .i64 pc] 24)
    have hA2 := (hA0.on b1).on hal
    have hP2 := (hP0.on b1).on hal
    have hb2 := (hb0.trans (b1.mono hb0.size)).trans (hal.mono (Nat.le_trans hb0.size b1.size))
    have hQ2 : Bn (w1.alloc (.cells #[.int .i64 pl, .int .i64 pc] 24)) w1.heap.size [.int .i64 pl, .int .i64 pc] := Bn.new w1 [.int .i64 pl, .int .i64 pc] 24 _ rfl
    have hs2 : w.heap.size + 2 ≤ w1.heap.size := Nat.le_trans hs0 b1.size
    obtain ⟨N, hN⟩ : ∃ N, w1.heap.size = N := ⟨_, rfl⟩
    rw [hN] at hQ2 hs2 ⊢
    clear hA0 hP0 hb0 b1 hal hW hown hs0 hN
    generalize w1.alloc (.cells #[.int .i64 pl, .int .i64 pc] 24) = w2 at *
    obtain ⟨a0, k0⟩ := hA2 0 _ rfl
    obtain ⟨a1, k1⟩ := hA2 1 _ rfl
    obtain ⟨a2, k2⟩ := hA2 2 _ rfl
    obtain ⟨a3, k3⟩ := hA2 3 _ rfl
    obtain ⟨a4, k4⟩ := hA2 4 _ rfl
    obtain ⟨a5, k5⟩ := hA2 5 _ rfl
    obtain ⟨p0, o0⟩ := hP2 0 _ rfl
    obtain ⟨p1, o1⟩ := hP2 1 _ rfl
    obtain ⟨q0, r0⟩ := hQ2 0 _ rfl
    obtain ⟨q1, r1⟩ := hQ2 1 _ rfl
    go_region
    go_wp2
    exact bodyPost_ret (dread_res ((((((((hA2.set (i := 0) (by simp) (.string ⟨#[]⟩)).set (i := 1) (by simp) (.int .i64 0)).set (i := 2) (by simp) (.int .i64 0)).set (i := 3) (by simp) (.int .i64 0)).set (i := 4) (by simp) (.slice none 0 0)).set (i := 5) (by simp) (.slice none 0 0)).far (X := w.heap.size + 1) (i := 0) (by omega) (.int .i64 pl)).far (X := w.heap.size + 1) (i := 1) (by omega) (.int .i64 pc)).drew ((((((((hP2.far (X := w.heap.size) (i := 0) (by omega) (.string ⟨#[]⟩)).far (X := w.heap.size) (i := 1) (by omega) (.int .i64 0)).far (X := w.heap.size) (i := 2) (by omega) (.int .i64 0)).far (X := w.heap.size) (i := 3) (by omega) (.int .i64 0)).far (X := w.heap.size) (i := 4) (by omega) (.slice none 0 0)).far (X := w.heap.size) (i := 5) (by omega) (.slice none 0 0)).set (i := 0) (by simp) (.int .i64 pl)).set (i := 1) (by simp) (.int .i64 pc)).drew rfl rfl rfl) rfl ⟨_, rfl, rdD_no _ _, (below_st (below_st (below_st (below_st (below_st (below_st (below_st (below_st hb2 w.heap.size 0 (.string ⟨#[]⟩) (Nat.le_refl _)) w.heap.size 1 (.int .i64 0) (Nat.le_refl _)) w.heap.size 2 (.int .i64 0) (Nat.le_refl _)) w.heap.size 3 (.int .i64 0) (Nat.le_refl _)) w.heap.size 4 (.slice none 0 0) (Nat.le_refl _)) w.heap.size 5 (.slice none 0 0) (Nat.le_refl _)) (w.heap.size + 1) 0 (.int .i64 pl) (by omega)) (w.heap.size + 1) 1 (.int .i64 pc) (by omega)).drew⟩
  · rw [if_neg he] at hRES
    have he0 : er = 0 := by simpa using he
    subst he0
    obtain ⟨h2, h3⟩ := h1 rfl
    clear h1 he hR hEE
    unfold chR at hRES
    have hRES := hRES
    obtain ⟨fin, hfin⟩ : ∃ x, (eL, eC) = x := ⟨_, rfl⟩
    rw [hfin] at hRES
    go_enter Tryz.func11, Tryz.ntmps11
    go_upto_region 1 with fail
    generalize (w.alloc zD6).alloc zP = w0 at *
    go_upto_region 4 with (first
      | (go_at_call 29; refine hW.mono ?_; rintro e w1 ⟨u, rfl, hown, b1⟩; obtain ⟨a, cap, rfl, hwc, hwm, hwr⟩ := ownW_rdR hown))
    have hal := (Below.refl w1.heap.size w1).alloc (Nat.le_refl _) (.cells #[.int .i64 pl, .int .i64 pc] 24)
    have hA2 := (hA0.on b1).on hal
    have hP2 := (hP0.on b1).on hal
    have hb2 := (hb0.trans (b1.mono hb0.size)).trans (hal.mono (Nat.le_trans hb0.size b1.size))
    have hL2 : RdL (w1.alloc (.cells #[.int .i64 pl, .int .i64 pc] 24)) w1.heap.size a ws := (hwr w1.heap.size (Nat.le_refl _)).keepB hal (Nat.le_refl _)
    have hs2 : w.heap.size + 2 ≤ w1.heap.size := Nat.le_trans hs0 b1.size
    have hs3 : w1.heap.size < (w1.alloc (.cells #[.int .i64 pl, .int .i64 pc] 24)).heap.size := by simp
    obtain ⟨N, hN⟩ : ∃ N, w1.heap.size = N := ⟨_, rfl⟩
    rw [hN] at hL2 hs2 hs3 ⊢
    clear hA0 hP0 hb0 b1 hal hwr hown hs0 hW hN
    generalize w1.alloc (.cells #[.int .i64 pl, .int .i64 pc] 24) = w2 at *
    have hEn2 := hEn w2 hb2
    go_upto_region 5 with (first
      | (go_at_call 30; refine hEn2.mono ?_; rintro e w3 ⟨rfl, b3⟩))
    have hal := (Below.refl w3.heap.size w3).alloc (Nat.le_refl _) (.cells #[.slice a ws.length cap, .int .i64 eL, .int .i64 eC, .int .i64 0, .int .i64 0, .int .i64 0] 67)
    have hAv := (hA2.on b3).on hal
    have hPv := (hP2.on b3).on hal
    have hbv := (hb2.trans (b3.mono hb2.size)).trans (hal.mono (Nat.le_trans hb2.size b3.size))
    have hsX : w.heap.size + 2 ≤ w3.heap.size := by have := b3.size; omega
    have hXv : Bn (w3.alloc (.cells #[.slice a ws.length cap, .int .i64 eL, .int .i64 eC, .int .i64 0, .int .i64 0, .int .i64 0] 67)) w3.heap.size [.slice a ws.length cap, .int .i64 eL, .int .i64 eC, .int .i64 0, .int .i64 0, .int .i64 0] := Bn.new w3 [.slice a ws.length cap, .int .i64 eL, .int .i64 eC, .int .i64 0, .int .i64 0, .int .i64 0] 67 _ rfl
    have hpv : DR (w3.alloc (.cells #[.slice a ws.length cap, .int .i64 eL, .int .i64 eC, .int .i64 0, .int .i64 0, .int .i64 0] 67)) w3.heap.size fin (ws, (0, 0), 0) := by
      rw [← hfin]
      exact ⟨a, cap, hXv, (((hL2.keepB b3 (by omega)).keepB hal (by have := b3.size; omega)).up (by have := b3.size; omega)), hwc, hwm, h3, h2⟩
    have hTv : Ty (w3.alloc (.cells #[.slice a ws.length cap, .int .i64 eL, .int .i64 eC, .int .i64 0, .int .i64 0, .int .i64 0] 67)) w3.heap.size := ⟨w, hT, by omega, hbv⟩
    have hvs : (w3.alloc (.cells #[.slice a ws.length cap, .int .i64 eL, .int .i64 eC, .int .i64 0, .int .i64 0, .int .i64 0] 67)).heap.size = w3.heap.size + 1 := by simp
    obtain ⟨X, hX⟩ : ∃ X, w3.heap.size = X := ⟨_, rfl⟩
    rw [hX] at hpv hTv hvs hsX ⊢
    clear hX hXv hal b3 hA2 hP2 hb2 hL2 hs2 hs3 hEn hEn2 h2 h3 hwc hwm hfin
    generalize w3.alloc (.cells #[.slice a ws.length cap, .int .i64 eL, .int .i64 eC, .int .i64 0, .int .i64 0, .int .i64 0] 67) = v at *
    have hal := (Below.refl v.heap.size v).alloc (Nat.le_refl _) zD6
    have hp0 := hpv.on hal
    have hT0 := hTv.on hal
    have hB0 : Bn (v.alloc zD6) v.heap.size zCl := Bn.new v zCl 35 _ rfl
    have hF0 : Fx X v (v.alloc zD6) := Fx.of hal (Nat.le_refl _)
    have hz0 : X + 2 ≤ (v.alloc zD6).heap.size := by simp; omega
    rw [hvs] at hB0
    go_upto_region 6 with fail
    try rw [hvs]
    clear hal hpv
    generalize v.alloc zD6 = w0 at *
    obtain ⟨io, hio, hio0, hio1, hio2⟩ := info_parts Tryz.infoVarD
    obtain ⟨it, hit, hit0, hit1, hit2⟩ := info_parts Tryz.infoStD
    have e1 : (⟨wState.toArray⟩ : ByteArray) = ⟨#[115, 116, 97, 116, 101]⟩ := rfl
    have e2 : (⟨wVar.toArray⟩ : ByteArray) = ⟨#[118, 97, 114]⟩ := rfl
    have e3 : (⟨wChart.toArray⟩ : ByteArray) = ⟨#[99, 104, 97, 114, 116]⟩ := rfl
    have hM1 := dtake_any hp0 wChart
    rw [e3] at hM1
    generalize takeR fin wChart (ws, (0, 0), 0) = r1 at *
    have hN := fun w1 (hp : DR w1 X fin r1) (ht : Ty w1 X) => dname_any hp ht
    obtain ⟨⟨⟨nm, ln, co⟩, r2⟩, hR1⟩ : ∃ x, nameR fin r1 = x := ⟨_, rfl⟩
    simp only [hR1] at hN hRES
    have hNm := fun w1 (hp : DR w1 X fin r2) => dnum_any hp
    obtain ⟨⟨vn, r3⟩, hR2⟩ : ∃ x, numR fin r2 = x := ⟨_, rfl⟩
    simp only [hR2] at hNm hRES
    have hM2 := fun w1 (hp : DR w1 X fin r3) => dtake_any hp [123]
    generalize takeR fin [123] r3 = r4 at *
    obtain ⟨nv, hnv⟩ : ∃ nv, (⟨nm.toArray⟩ : ByteArray) = nv := ⟨_, rfl⟩
    simp only [hnv] at hN
    have HNV : Hid ((⟨nm.toArray⟩ : ByteArray) = nv) := hnv
    obtain ⟨VS, hVS⟩ : ∃ o, varsR fin (r4.1.length + 1) [] r4 = o := ⟨_, rfl⟩
    simp only [hVS] at hRES
    have HO : Hid (varsR fin (r4.1.length + 1) [] r4 = VS) := hVS
    obtain ⟨OUT, hOUT⟩ : ∃ o, stsR fin (VS.2.1.length + 1) [] VS.2 = o := ⟨_, rfl⟩
    simp only [hOUT] at hRES
    have HP : Hid (stsR fin (VS.2.1.length + 1) [] VS.2 = OUT) := hOUT
    have HRES : Hid ((let e := takeR fin [125] OUT.2; let z := if e.2.2 = 0 ∧ e.1 ≠ [] then failC 12 (hereR fin e) e else e; if z.2.2 = 0 then (((nm, ln, co), vn, VS.1, OUT.1), (0, 0), 0) else (noC, z.2.1, z.2.2)) = RES) := hRES
    have hTk := fun w1 q t (hp : DR w1 X fin q) => dtake_any hp t
    have hIs := fun w1 q t (hp : DR w1 X fin q) => disR_any hp t
    have hNa := fun w1 q (hp : DR w1 X fin q) (ht : Ty w1 X) => dname_any hp ht
    have hNu := fun w1 q (hp : DR w1 X fin q) => dnum_any hp
    have hNr := fun w1 q (hp : DR w1 X fin q) => num_rangeD hp
    have hI := fun w1 q (hp : DR w1 X fin q) (ht : Ty w1 X) => dstate_all 6 (Nat.le_refl _) w1 X fin q 1 (by omega) hp ht
    clear hR1 hR2 hRES hOUT hVS hnv
    go_upto_region 7 with (first
      | (go_at_call 31; refine hM1.mono ?_; rintro e w3 ⟨⟨u, rfl⟩, hp3, hf3⟩))
    have hB3 := hB0.fx hf3 (by omega)
    have hT3 := hT0.fx hf3
    have hF3 := hF0.trans hf3
    have hs3 := Nat.le_trans hz0 hf3.size
    clear hB0 hp0 hT0 hF0 hz0 hf3 hM1
    go_upto_region 8 with (first
      | (go_at_call 32; refine (hN _ hp3 hT3).mono ?_; rintro e w4 ⟨rfl, hp4, hf4⟩; have hB4 := hB3.fx hf4 (by omega); obtain ⟨b0, g0⟩ := hB4 0 _ rfl; obtain ⟨b2, g2⟩ := hB4 2 _ rfl; obtain ⟨b3, g3⟩ := hB4 3 _ rfl))
    have hB5 : Bn _ (X + 1) [.string nv, .int .i64 0, .int .i64 ln, .int .i64 co, .slice none 0 0, .slice none 0 0] := ((hB4.set (i := 0) (by simp) (.string nv)).set (i := 2) (by simp) (.int .i64 ln)).set (i := 3) (by simp) (.int .i64 co)
    have hp5 := ((hp4.far (Y := X + 1) (i := 0) (by omega) (.string nv)).far (Y := X + 1) (i := 2) (by omega) (.int .i64 ln)).far (Y := X + 1) (i := 3) (by omega) (.int .i64 co)
    have hF5 := (((hF3.trans hf4).setN (N := X + 1) (i := 0) (by omega) (.string nv)).setN (N := X + 1) (i := 2) (by omega) (.int .i64 ln)).setN (N := X + 1) (i := 3) (by omega) (.int .i64 co)
    have hs5 : X + 2 ≤ (((w4.setCell ⟨X + 1, 0, none⟩ (.string nv)).setCell ⟨X + 1, 2, none⟩ (.int .i64 ln)).setCell ⟨X + 1, 3, none⟩ (.int .i64 co)).heap.size := by simpa using Nat.le_trans hs3 hf4.size
    clear hB3 hp3 hT3 hF3 hB4 hp4 hf4 b0 g0 b2 g2 b3 g3 hs3 hN
    generalize ((w4.setCell ⟨X + 1, 0, none⟩ (.string nv)).setCell ⟨X + 1, 2, none⟩ (.int .i64 ln)).setCell ⟨X + 1, 3, none⟩ (.int .i64 co) = w5 at *
    go_upto_region 9 with (first
      | (go_at_call 33; refine (hNm _ hp5).mono ?_; rintro e w6 ⟨rfl, hp6, hf6⟩; have hB6 := hB5.fx hf6 (by omega); obtain ⟨b1, g1⟩ := hB6 1 _ rfl))
    have hB7 : Bn _ (X + 1) [.string nv, .int .i64 vn, .int .i64 ln, .int .i64 co, .slice none 0 0, .slice none 0 0] := hB6.set (i := 1) (by simp) (.int .i64 vn)
    have hp7 := hp6.far (Y := X + 1) (i := 1) (by omega) (.int .i64 vn)
    have hF7 := (hF5.trans hf6).setN (N := X + 1) (i := 1) (by omega) (.int .i64 vn)
    have hs7 : X + 2 ≤ (w6.setCell ⟨X + 1, 1, none⟩ (.int .i64 vn)).heap.size := by simpa using Nat.le_trans hs5 hf6.size
    clear hB5 hp5 hF5 hB6 hp6 hf6 b1 g1 hs5 hNm
    generalize w6.setCell ⟨X + 1, 1, none⟩ (.int .i64 vn) = w7 at *
    go_wp2_with (first
      | (go_at_call 31; refine (hM2 _ hp7).mono ?_; rintro e w8 ⟨⟨u, rfl⟩, hp8, hf8⟩))
    have hB8 := hB7.fx hf8 (by omega)
    have hF8 := hF7.trans hf8
    have hs8 := Nat.le_trans hs7 hf8.size
    clear hB7 hp7 hF7 hf8 hs7 hM2
    have hl8 := hp8.len
    go_loopw [] (fun wr => ∃ (g : Nat) (vs : List (List UInt8 × Int × Pl)) (q : RsC) (slv : Value), DR wr X fin q ∧ Hid (varsR fin g vs q = VS) ∧ q.1.length < g ∧ vs.length + q.1.length ≤ 3000 ∧
      Bn wr (X + 1) [.string nv, .int .i64 vn, .int .i64 ln, .int .i64 co, slv, .slice none 0 0] ∧ OwnB wr (X + 2) (fun b => (Value.slice none 0 0).ownBlock = some b) 73 4 rVarD slv vs ∧ Fx X v wr ∧ X + 2 ≤ wr.heap.size) (fun wr => ln0 wr X)
    case atStart => exact ⟨_, [], r4, _, hp8, HO, Nat.lt_succ_self _, by simp; omega, hB8, ownB_nil _ _ _ _ _ _, hF8, hs8⟩
    case round =>
      clear hB8 hp8 hF8 hs8 HO
      obtain ⟨g, vs, q, slv, hp, ho, hgl, hal, hB, hO, hF, hsz⟩ := hrel
      obtain ⟨g', rfl⟩ : ∃ g', g = g' + 1 := ⟨g - 1, by omega⟩
      have hm1 := hp.left
      have hXb : X < X + 2 := by omega
      have hTr := hTv.fx hF
      obtain ⟨va, vc, rfl, hvl, hvm⟩ := hO.form
      have hQ1 := hIs _ _ wVar hp
      rw [e2] at hQ1
      cases hi1 : isC wVar q with
      | true =>
        rw [hi1] at hQ1
        have hout := ho.out
        rw [vars_yes hi1] at hout
        have hgo := (goes_var fin (takeR fin wVar q)).1
        have hlt := takeR_less fin hi1
        have hQ2 := fun w1 (hp : DR w1 X fin q) => hTk w1 _ wVar hp
        rw [e2] at hQ2
        unfold varR at hout hgo
        generalize takeR fin wVar q = q1 at *
        have hN1 := fun w1 (hp : DR w1 X fin q1) (ht : Ty w1 X) => hNa w1 _ hp ht
        obtain ⟨⟨⟨sm, sl, sc⟩, q2⟩, hR1⟩ : ∃ x, nameR fin q1 = x := ⟨_, rfl⟩
        simp only [hR1] at hN1 hout hgo
        have hT2 := fun w1 (hp : DR w1 X fin q2) => hTk w1 _ [61] hp
        generalize takeR fin [61] q2 = q3 at *
        have hI2 := fun w1 (hp : DR w1 X fin q3) => hIs w1 _ [45] hp
        obtain ⟨sn, hsn⟩ : ∃ nv, (⟨sm.toArray⟩ : ByteArray) = nv := ⟨_, rfl⟩
        simp only [hsn] at hN1
        have HSN : Hid ((⟨sm.toArray⟩ : ByteArray) = sn) := hsn
        clear hR1 ho hsn hI
        go_upto_region 12 with (first
          | (go_at_call 34; refine hQ1.mono ?_; rintro e w9 ⟨rfl, hp9, hf9⟩)
          | (go_at_call 31; refine (hQ2 _ hp9).mono ?_; rintro e wa ⟨⟨u, rfl⟩, hpa, hfa⟩))
        have hfa2 := hf9.trans hfa
        have hTa := hTr.fx hfa2
        have hala := (Below.refl wa.heap.size wa).alloc (Nat.le_refl _) zD4
        have hTb : Bn (wa.alloc zD4) wa.heap.size zDv := Bn.new wa zDv 73 _ rfl
        have hpb := hpa.on hala
        have hTyb := hTa.on hala
        have hfb := hfa2.alloc zD4
        have hsT : wr.heap.size ≤ wa.heap.size := hfa2.size
        go_upto_region 13 with fail
        obtain ⟨T, hT'⟩ : ∃ T, wa.heap.size = T := ⟨_, rfl⟩
        rw [hT'] at hTb hsT ⊢
        clear hp9 hf9 hfa hfa2 hTa hala hpa hQ1 hQ2 hT'
        generalize wa.alloc zD4 = wb at *
        go_upto_region 14 with (first
          | (go_at_call 32; refine (hN1 _ hpb hTyb).mono ?_; rintro e wc ⟨rfl, hpc, hfc⟩; have hTc := hTb.fx hfc (by omega); obtain ⟨b0, g0⟩ := hTc 0 _ rfl; obtain ⟨b2, g2⟩ := hTc 2 _ rfl; obtain ⟨b3, g3⟩ := hTc 3 _ rfl))
        have hTd := ((hTc.set (i := 0) (by simp) (.string sn)).set (i := 2) (by simp) (.int .i64 sl)).set (i := 3) (by simp) (.int .i64 sc)
        have hpd := ((hpc.far (Y := T) (i := 0) (by omega) (.string sn)).far (Y := T) (i := 2) (by omega) (.int .i64 sl)).far (Y := T) (i := 3) (by omega) (.int .i64 sc)
        have hfd := (((hfb.trans hfc).setN (N := T) (i := 0) hsT (.string sn)).setN (N := T) (i := 2) hsT (.int .i64 sl)).setN (N := T) (i := 3) hsT (.int .i64 sc)
        clear hTb hTc hpb hpc hfb hfc b0 g0 b2 g2 b3 g3 hN1 hTyb
        generalize ((wc.setCell ⟨T, 0, none⟩ (.string sn)).setCell ⟨T, 2, none⟩ (.int .i64 sl)).setCell ⟨T, 3, none⟩ (.int .i64 sc) = wd at *
        go_upto_region 16 with (first
          | (go_at_call 31; refine (hT2 _ hpd).mono ?_; rintro e we ⟨⟨u, rfl⟩, hpe, hfe⟩))
        have hTe := hTd.fx hfe (by omega)
        have hfe2 := hfd.trans hfe
        clear hTd hpd hfd hfe hT2
        cases hi2 : isC [45] q3 with
        | true =>
          simp only [hi2] at hI2
          rw [hi2, if_pos rfl] at hout hgo
          have hK := fun w1 (hp : DR w1 X fin q3) => hTk w1 _ [45] hp
          generalize takeR fin [45] q3 = q4 at *
          have hN2 := fun w1 (hp : DR w1 X fin q4) => hNu w1 _ hp
          have hN3 := fun w1 (hp : DR w1 X fin q4) => hNr w1 _ hp
          obtain ⟨⟨n, q5⟩, hR2⟩ : ∃ x, numR fin q4 = x := ⟨_, rfl⟩
          simp only [hR2] at hN2 hN3 hout hgo
          have HOUT : Hid (varsR fin g' (vs ++ [(sm, -n, (sl, sc))]) q5 = VS) := hout
          clear hR2 hout hNa hNu hNr
          go_upto_region 19 with (first
            | (go_at_call 34; refine (hI2 _ hpe).mono ?_; rintro e wf ⟨rfl, hpf, hff⟩)
            | (go_at_call 31; refine (hK _ hpf).mono ?_; rintro e wg ⟨⟨u, rfl⟩, hpg, hfg⟩))
          obtain ⟨hn0, hn1⟩ := hN3 _ hpg
          have j1 : IntKind.i64.wrap (-1 * n) = -n := by rw [IntKind.wrap_i64]; omega
          have j2 : IntKind.i64.wrap (-n) = -n := by rw [IntKind.wrap_i64]; omega
          go_upto_region 20 with (first
            | (go_at_call 33; refine (hN2 _ hpg).mono ?_; rintro e wh ⟨rfl, hph, hfh⟩; have hfh2 := (hff.trans hfg).trans hfh; have hTh := hTe.fx hfh2 (by omega); obtain ⟨b1, g1⟩ := hTh 1 _ rfl))
          clear hI2 hK hN2 hN3 hff hfg hfh hpe hpf hpg hTk hIs
          have hTg := hTh.set (i := 1) (by simp) (.int .i64 (-n))
          have hpg := hph.far (Y := T) (i := 1) (by omega) (.int .i64 (-n))
          have hfg := (hfe2.trans hfh2).setN (N := T) (i := 1) hsT (.int .i64 (-n))
          have hx7 : rVarD (fun b => wr.heap.size ≤ b) (wh.setCell ⟨T, 1, none⟩ (.int .i64 (-n))) (sm, -n, (sl, sc)) [.string sn, .int .i64 (-n), .int .i64 sl, .int .i64 sc] := by
            show [Value.string sn, _, _, _] = varD (sm, -n, (sl, sc))
            rw [← HSN.out]; rfl
          clear hTe hTh hph hfe2 hfh2 b1 g1
          generalize wh.setCell ⟨T, 1, none⟩ (.int .i64 (-n)) = wg at *
          have hBg := hB.fx hfg (by omega)
          have hOg := hO.fx kp_varD hfg hXb
          have hFg := hF.trans hfg
          have hsg := Nat.le_trans hsz hfg.size
          obtain ⟨k7, j7⟩ := hBg 4 _ rfl
          obtain ⟨t0, _⟩ := hTg 0 _ rfl
          obtain ⟨t1, _⟩ := hTg 1 _ rfl
          obtain ⟨t2, _⟩ := hTg 2 _ rfl
          obtain ⟨t3, _⟩ := hTg 3 _ rfl
          go_wp2_with (first
            | (at_builtin; refine wpList_pushB wg rfl _ _ 32 rfl (X + 2) (fun b => (Value.slice none 0 0).ownBlock = some b) 73 io (.agg #[.string ⟨#[]⟩, .int .i64 0, .int .i64 0, .int .i64 0]) 4 40 Tryz.underlying32 hio hio0 hio1 hio2 rfl kp_varD (.slice va vs.length vc) vs (sm, -n, (sl, sc)) [.string sn, .int .i64 (-n), .int .i64 sl, .int .i64 sc] wr.heap.size rfl rfl rfl (by simp [Value.oneCell']) hOg hx7 hsz (fun x hx => (hO.lt x hx).2) (fun b hb => by simp [Value.ownBlock] at hb) (by omega) (by unfold maxLen; omega) hsg ?_; intro vb wb2 hOb hgb hbb hat; have hBb := hBg.blk (hbb.block _ (by omega)); obtain ⟨m7, n7⟩ := hBb 4 _ rfl; obtain ⟨vba, vbc, hvb, hvbl, hvbm⟩ := hOb.form; rw [List.length_append, List.length_singleton] at hvb; subst hvb))
          have hpb := hpg.belowB hbb (by omega)
          have hFb := hFg.andD hbb (by omega)
          have hBc := hBb.set (i := 4) (by simp) (.slice vba (vs.length + 1) vbc)
          have hOc := hOb.set kp_varD (X := X + 1) (i := 4) (by omega) (.slice vba (vs.length + 1) vbc)
          have hpc := hpb.far (Y := X + 1) (i := 4) (by omega) (.slice vba (vs.length + 1) vbc)
          have hFc := hFb.setN (N := X + 1) (i := 4) (by omega) (.slice vba (vs.length + 1) vbc)
          have hsc : X + 2 ≤ (wb2.setCell ⟨X + 1, 4, none⟩ (.slice vba (vs.length + 1) vbc)).heap.size := by simpa using Nat.le_trans hsg hbb.size
          have hm2 := hpc.left
          have hlc : (vs ++ [(sm, -n, (sl, sc))]).length = vs.length + 1 := by simp
          clear hBb hpb hFb hBg hOg hFg hsg hTg hpg hfg t0 t1 t2 t3 k7 j7 m7 n7 hgb hbb hat hOb hx7
          go_roundw
          case rel => exact ⟨g', vs ++ [(sm, -n, (sl, sc))], q5, _, hpc, HOUT, by omega, by omega, hBc, hOc, hFc, hsc⟩
          case measure => omega
        | false =>
          simp only [hi2] at hI2
          rw [hi2, if_neg (by decide)] at hout hgo
          have hN2 := fun w1 (hp : DR w1 X fin q3) => hNu w1 _ hp
          have hN3 := fun w1 (hp : DR w1 X fin q3) => hNr w1 _ hp
          obtain ⟨⟨n, q5⟩, hR2⟩ : ∃ x, numR fin q3 = x := ⟨_, rfl⟩
          simp only [hR2] at hN2 hN3 hout hgo
          have HOUT : Hid (varsR fin g' (vs ++ [(sm, n, (sl, sc))]) q5 = VS) := hout
          clear hR2 hout hNa hNu hNr
          go_upto_region 19 with (first
            | (go_at_call 34; refine (hI2 _ hpe).mono ?_; rintro e wf ⟨rfl, hpf, hff⟩))
          obtain ⟨hn0, hn1⟩ := hN3 _ hpf
          have j1 : IntKind.i64.wrap (1 * n) = n := by rw [IntKind.wrap_i64]; omega
          have j2 : IntKind.i64.wrap n = n := by rw [IntKind.wrap_i64]; omega
          go_upto_region 20 with (first
            | (go_at_call 33; refine (hN2 _ hpf).mono ?_; rintro e wh ⟨rfl, hph, hfh⟩; have hfh2 := hff.trans hfh; have hTh := hTe.fx hfh2 (by omega); obtain ⟨b1, g1⟩ := hTh 1 _ rfl))
          clear hI2 hN2 hN3 hff hfh hpe hpf hTk hIs
          have hTg := hTh.set (i := 1) (by simp) (.int .i64 (n))
          have hpg := hph.far (Y := T) (i := 1) (by omega) (.int .i64 (n))
          have hfg := (hfe2.trans hfh2).setN (N := T) (i := 1) hsT (.int .i64 (n))
          have hx7 : rVarD (fun b => wr.heap.size ≤ b) (wh.setCell ⟨T, 1, none⟩ (.int .i64 (n))) (sm, n, (sl, sc)) [.string sn, .int .i64 (n), .int .i64 sl, .int .i64 sc] := by
            show [Value.string sn, _, _, _] = varD (sm, n, (sl, sc))
            rw [← HSN.out]; rfl
          clear hTe hTh hph hfe2 hfh2 b1 g1
          generalize wh.setCell ⟨T, 1, none⟩ (.int .i64 (n)) = wg at *
          have hBg := hB.fx hfg (by omega)
          have hOg := hO.fx kp_varD hfg hXb
          have hFg := hF.trans hfg
          have hsg := Nat.le_trans hsz hfg.size
          obtain ⟨k7, j7⟩ := hBg 4 _ rfl
          obtain ⟨t0, _⟩ := hTg 0 _ rfl
          obtain ⟨t1, _⟩ := hTg 1 _ rfl
          obtain ⟨t2, _⟩ := hTg 2 _ rfl
          obtain ⟨t3, _⟩ := hTg 3 _ rfl
          go_wp2_with (first
            | (at_builtin; refine wpList_pushB wg rfl _ _ 32 rfl (X + 2) (fun b => (Value.slice none 0 0).ownBlock = some b) 73 io (.agg #[.string ⟨#[]⟩, .int .i64 0, .int .i64 0, .int .i64 0]) 4 40 Tryz.underlying32 hio hio0 hio1 hio2 rfl kp_varD (.slice va vs.length vc) vs (sm, n, (sl, sc)) [.string sn, .int .i64 (n), .int .i64 sl, .int .i64 sc] wr.heap.size rfl rfl rfl (by simp [Value.oneCell']) hOg hx7 hsz (fun x hx => (hO.lt x hx).2) (fun b hb => by simp [Value.ownBlock] at hb) (by omega) (by unfold maxLen; omega) hsg ?_; intro vb wb2 hOb hgb hbb hat; have hBb := hBg.blk (hbb.block _ (by omega)); obtain ⟨m7, n7⟩ := hBb 4 _ rfl; obtain ⟨vba, vbc, hvb, hvbl, hvbm⟩ := hOb.form; rw [List.length_append, List.length_singleton] at hvb; subst hvb))
          have hpb := hpg.belowB hbb (by omega)
          have hFb := hFg.andD hbb (by omega)
          have hBc := hBb.set (i := 4) (by simp) (.slice vba (vs.length + 1) vbc)
          have hOc := hOb.set kp_varD (X := X + 1) (i := 4) (by omega) (.slice vba (vs.length + 1) vbc)
          have hpc := hpb.far (Y := X + 1) (i := 4) (by omega) (.slice vba (vs.length + 1) vbc)
          have hFc := hFb.setN (N := X + 1) (i := 4) (by omega) (.slice vba (vs.length + 1) vbc)
          have hsc : X + 2 ≤ (wb2.setCell ⟨X + 1, 4, none⟩ (.slice vba (vs.length + 1) vbc)).heap.size := by simpa using Nat.le_trans hsg hbb.size
          have hm2 := hpc.left
          have hlc : (vs ++ [(sm, n, (sl, sc))]).length = vs.length + 1 := by simp
          clear hBb hpb hFb hBg hOg hFg hsg hTg hpg hfg t0 t1 t2 t3 k7 j7 m7 n7 hgb hbb hat hOb hx7
          go_roundw
          case rel => exact ⟨g', vs ++ [(sm, n, (sl, sc))], q5, _, hpc, HOUT, by omega, by omega, hBc, hOc, hFc, hsc⟩
          case measure => omega
      | false =>
        rw [hi1] at hQ1
        have hout := ho.out
        rw [vars_no hi1] at hout
        subst hout
        simp only at HP HRES
        clear ho hNa hNu hNr
        go_wp2_with (first
          | (go_at_call 34; refine hQ1.mono ?_; rintro e w9 ⟨rfl, hp9, hf9⟩))
        have hB9 := hB.fx hf9 (by omega)
        have hO9 := hO.fx kp_varD hf9 hXb
        have hF9 := hF.trans hf9
        have hs9 := Nat.le_trans hsz hf9.size
        clear hB hO hF hf9 hsz hp hQ1 hTr
        have hl9 := hp9.len
        go_loopw [] (fun wr => ∃ (g : Nat) (ss : List (St 7)) (q : RsC) (sls : Value), DR wr X fin q ∧ Hid (stsR fin g ss q = OUT) ∧ (q.2.2 = 0 → q.1.length < g) ∧ ss.length + q.1.length + er0 wr X ≤ 3001 ∧
          Bn wr (X + 1) [.string nv, .int .i64 vn, .int .i64 ln, .int .i64 co, .slice va vs.length vc, sls] ∧ OwnB wr (X + 2) (fun b => sls.ownBlock = some b) 73 4 rVarD (.slice va vs.length vc) vs ∧ OwnB wr (X + 2) (fun b => (Value.slice va vs.length vc).ownBlock = some b) 76 11 (rStD 7) sls ss ∧ Fx X v wr ∧ X + 2 ≤ wr.heap.size) (fun wr => 2 * ln0 wr X + er0 wr X)
        case atStart =>
          have hq := hp9.er
          refine ⟨_, [], q, _, hp9, HP, fun _ => Nat.lt_succ_self _, ?_, hB9, hO9, ownB_nil _ _ _ _ _ _, hF9, hs9⟩
          have : er0 w9 X ≤ 1 := by rw [hq]; split <;> omega
          simp only [List.length_nil]
          omega
        case round =>
          clear hB9 hp9 hF9 hs9 HP hO9 hl9 hm1 hgl hal
          obtain ⟨g, ss, q, sls, hp, ho, hgl, hal, hB, hO, hOi, hF, hsz⟩ := hrel
          have hm1 := hp.left
          have hq1 := hp.er
          have hTr := hTv.fx hF
          have c5 := hp.c5
          obtain ⟨ua, uc, rfl, hul, hum⟩ := hOi.form
          have hS1 := hIs _ q [125] hp
          by_cases hz : q.2.2 = 0
          · obtain ⟨g', rfl⟩ : ∃ g', g = g' + 1 := ⟨g - 1, by have := hgl hz; omega⟩
            rw [hz] at c5
            cases hi2 : isC [125] q with
            | false =>
              rw [hi2] at hS1
              have hout := ho.out
              rw [stsD_yes ⟨hz, hi2⟩] at hout
              have hI3 := fun w1 (hp : DR w1 X fin q) (ht : Ty w1 X) => hI w1 q hp ht
              obtain ⟨hgo1, hgo2⟩ := goes_st fin 6 q
              have hgl2 := hgl hz
              rw [if_pos hz] at hq1
              obtain ⟨⟨s1, q2⟩, hS⟩ : ∃ x, stR fin 6 q = x := ⟨_, rfl⟩
              simp only [hS] at hI3 hout hgo1 hgo2
              have hgo3 := hgo1.1
              have HOUT : Hid (stsR fin g' (ss ++ [s1]) q2 = OUT) := hout
              obtain ⟨sn, sl, sc, sb, se, sd, su, sw, sr, hsv⟩ : ∃ sn sl sc sb se sd su sw sr, hdD s1.1 = fun so si => [.string sn, .int .i64 sl, .int .i64 sc, .bool sb, .bool se, .string sd, .string su, .int .i64 sw, .int .i64 sr, so, si] := ⟨_, _, _, _, _, _, _, _, _, rfl⟩
              have hI4 : ∀ w1, DR w1 X fin q → Ty w1 X → Calls Tryz.prog 35 #[.pointer (some ⟨X, 0, none⟩), .int .i64 1] w1 fun e w' => (∃ p1 p2 p3 p4 p5 p6, e = .returned (.agg #[.string sn, .int .i64 sl, .int .i64 sc, .bool sb, .bool se, .string sd, .string su, .int .i64 sw, .int .i64 sr, .slice p1 p2 p3, .slice p4 p5 p6]) ∧ rStD 7 (fun b => w1.heap.size ≤ b) w' s1 [.string sn, .int .i64 sl, .int .i64 sc, .bool sb, .bool se, .string sd, .string su, .int .i64 sw, .int .i64 sr, .slice p1 p2 p3, .slice p4 p5 p6]) ∧ DR w' X fin q2 ∧ Fx X w1 w' := fun w1 hp1 ht1 => (hI3 w1 hp1 ht1).mono (fun e w' hh => by
                obtain ⟨⟨cs, h1, so, si, h2, h3, h4⟩, h5, h6⟩ := hh
                obtain ⟨p1, p3, rfl, _⟩ := h3.form
                obtain ⟨p4, p6, rfl, _⟩ := h4.form
                refine ⟨⟨p1, s1.1.2.2.2.2.length, p3, p4, s1.2.length, p6, ?_, ⟨_, _, ?_, h3, h4⟩⟩, h5, h6⟩
                · rw [h1, h2, hsv]
                · rw [hsv])
              clear hS hout hI3 ho hsv hI hIs hTk hgo1
              go_upto_region 22 with (first
                | (go_at_call 34; refine hS1.mono ?_; rintro e w9 ⟨rfl, hp9, hf9⟩))
              have hB9 := hB.fx hf9 (by omega)
              have hO9 := hO.fx kp_varD hf9 hXb
              have hOi9 := hOi.fx (kp_stD _) hf9 hXb
              have hF9 := hF.trans hf9
              have hT9 := hTv.fx hF9
              have hs9 := Nat.le_trans hsz hf9.size
              have hp9d := hp9.on ((Below.refl w9.heap.size w9).drew)
              have hT9d := hT9.on ((Below.refl w9.heap.size w9).drew)
              clear hB hO hOi hF hf9 hsz hp hp9 hT9 c5 hS1 hTr
              obtain ⟨k3, z3⟩ := hB9 5 _ rfl
              go_region_law (first
                | (refine step_pushB wa rfl _ _ 33 rfl (X + 2) (fun b => (Value.slice va vs.length vc).ownBlock = some b) 76 it (.agg #[.string ⟨#[]⟩, .int .i64 0, .int .i64 0, .bool false, .bool false, .string ⟨#[]⟩, .string ⟨#[]⟩, .int .i64 0, .int .i64 0, .slice none 0 0, .slice none 0 0]) 11 136 Tryz.underlying33 hit hit0 hit1 hit2 rfl (kp_stD _) (.slice ua ss.length uc) ss s1 [.string sn, .int .i64 sl, .int .i64 sc, .bool sb, .bool se, .string sd, .string su, .int .i64 sw, .int .i64 sr, .slice p1 p2 p3, .slice p4 p5 p6] w9.heap.size rfl rfl rfl (by simp [Value.oneCell']) hOia hra hs9 (fun x hx => (hOi9.lt x hx).2) (fun b hb => ⟨(hO9.lt b hb).2, (hOa.lt b hb).2⟩) (by omega) (by unfold maxLen; omega) hsa ?_; intro vb wb hOb hgb hbb hat; have hBb := hBa.blk (hbb.block _ (by omega)); have hpb := hpa.belowB hbb (by omega); have hFb := hFa.andD hbb (by omega); have hXb2 := (hOa.on kp_varD hali).other kp_varD hgb hat; obtain ⟨m5, n5⟩ := hBb 5 _ rfl; obtain ⟨vba, vbc, hvb, hvbl, hvbm⟩ := hOb.form; rw [List.length_append, List.length_singleton] at hvb; subst hvb)
                | (go_simp; (with_reducible refine (hI4 _ hp9d hT9d).mono ?_); rintro e wa ⟨⟨p1, p2, p3, p4, p5, p6, rfl, hra⟩, hpa, hfa⟩; have hfa' := ((Fx.refl X w9).drew).trans hfa; have hBa := hB9.fx hfa' (by omega); have hOa := hO9.fx kp_varD hfa' hXb; have hOia := hOi9.fx (kp_stD _) hfa' hXb; have hFa := hF9.trans hfa'; have hsa := Nat.le_trans hs9 hfa'.size; obtain ⟨m3, n3⟩ := hBa 5 _ rfl; have hali := (Below.refl wa.heap.size wa).alloc (Nat.le_refl _) (.cells #[.string sn, .int .i64 sl, .int .i64 sc, .bool sb, .bool se, .string sd, .string su, .int .i64 sw, .int .i64 sr, .slice p1 p2 p3, .slice p4 p5 p6] 76); have m4 := ((hBa.on hali) 5 _ rfl).1)
                | fail)
              all_goals (
                have hBc := hBb.set (i := 5) (by simp) (.slice vba (ss.length + 1) vbc)
                have hOc := hXb2.set kp_varD (X := X + 1) (i := 5) (by omega) (.slice vba (ss.length + 1) vbc)
                have hOic := hOb.set (kp_stD _) (X := X + 1) (i := 5) (by omega) (.slice vba (ss.length + 1) vbc)
                have hpc := hpb.far (Y := X + 1) (i := 5) (by omega) (.slice vba (ss.length + 1) vbc)
                have hFc := hFb.setN (N := X + 1) (i := 5) (by omega) (.slice vba (ss.length + 1) vbc)
                have hsc : X + 2 ≤ (wb.setCell ⟨X + 1, 5, none⟩ (.slice vba (ss.length + 1) vbc)).heap.size := by simpa using Nat.le_trans hsa hbb.size
                have hm2 := hpc.left
                have hq2 := hpc.er
                have hlc : (ss ++ [s1]).length = ss.length + 1 := by simp
                have hmq : (ss.length + 1) + q2.1.length + er0 (wb.setCell ⟨X + 1, 5, none⟩ (.slice vba (ss.length + 1) vbc)) X ≤ 3001 ∧ 2 * q2.1.length + er0 (wb.setCell ⟨X + 1, 5, none⟩ (.slice vba (ss.length + 1) vbc)) X < 2 * q.1.length + 1 := by
                  rw [hq2]
                  by_cases hz2 : q2.2.2 = 0
                  · rw [if_pos hz2]; have := hgo2 hz2; omega
                  · rw [if_neg hz2]; omega
                have hgq : q2.2.2 = 0 → q2.1.length < g' := fun hz2 => by have := hgo2 hz2; omega
                clear hBa hOa hOia hpa hFa hfa hfa' hsa m3 n3 hali m4 hBb hOb hXb2 hpb hFb hgb hbb hat k3 z3 hra hq2
                go_wp2
                go_roundw
                case rel => exact ⟨g', ss ++ [s1], q2, _, hpc, HOUT, hgq, by omega, hBc, hOc, hOic, hFc, hsc⟩
                case measure => omega)
            | true =>
              rw [hi2] at hS1
              have hout := ho.out
              rw [stsD_no (by rw [hi2]; simp)] at hout
              have HOUT : Hid ((ss, q) = OUT) := hout
              have hM4 := fun w1 (hp : DR w1 X fin q) => hTk w1 _ [125] hp
              clear hout ho hI hIs hTk
              go_upto_region 23 with (first
                | (go_at_call 34; refine hS1.mono ?_; rintro e w9 ⟨rfl, hp9, hf9⟩))
              have hB9 := hB.fx hf9 (by omega)
              have hO9 := hO.fx kp_varD hf9 hXb
              have hOi9 := hOi.fx (kp_stD _) hf9 hXb
              have hF9 := hF.trans hf9
              clear hB hF hf9 hp hO hOi hS1 c5 hsz hTr
              go_upto_region 24 with (first
                | (go_at_call 31; refine (hM4 _ hp9).mono ?_; rintro e wa ⟨⟨u, rfl⟩, hpa, hfa⟩))
              have hBa := hB9.fx hfa (by omega)
              have hOa := hO9.fx kp_varD hfa hXb
              have hOia := hOi9.fx (kp_stD _) hfa hXb
              have hFa := hF9.trans hfa
              have hr := HRES.out
              have hoo := HOUT.out
              subst hoo
              simp only at hr
              clear HRES HOUT hM4 hp9 hB9 hO9 hOi9 hF9 hfa hq1 hm1 hal hgl
              generalize takeR fin [125] q = e0 at *
              by_cases hc : e0.2.2 = 0 ∧ e0.1 ≠ []
              · -- words are left
                rw [if_pos hc] at hr
                have hcz := hc.1
                have hcl : 0 < e0.1.length := List.length_pos_iff.2 hc.2
                have hfz : failC 12 (hereR fin e0) e0 = (e0.1, hereR fin e0, 12) := by unfold failC; rw [if_pos hcz]
                rw [hfz] at hr
                simp only at hr
                rw [if_neg (by decide)] at hr
                obtain ⟨da, dc, hd⟩ := hpa
                obtain ⟨u0, x0⟩ := hd.b 0 _ rfl
                obtain ⟨u5, x5⟩ := hd.b 5 _ rfl
                rw [hcz] at u5
                have hH := here_any hd
                have hFl := fun w1 (hd : Dr w1 X fin e0 da dc) => dfail_any hd 12 (hereR fin e0)
                rw [hfz] at hFl
                obtain ⟨y1, y2, hy⟩ : ∃ y1 y2, hereR fin e0 = (y1, y2) := ⟨_, _, rfl⟩
                rw [hy] at hr hH hFl
                simp only at hH hFl
                have HR : Hid ((noC, (y1, y2), (12 : Int)) = RES) := hr
                have i7 : ((e0.1.length : Int) > 0) := by omega
                have i8 : decide ((e0.1.length : Int) > 0) = true := decide_eq_true i7
                have i9 : (0 : Int) < (e0.1.length : Int) := by omega
                clear hr hy hfz
                go_upto_region 26 with (first
                  | (go_at_call 37; refine hH.mono ?_; rintro e wb ⟨rfl, bb⟩; have hd2 := hd.on bb)
                  | (go_at_call 36; refine (hFl _ hd2).mono ?_; rintro e wc ⟨⟨u, rfl⟩, hd3, hf3⟩))
                have hFa := (hFa.trans (Fx.of bb (Nat.le_refl _))).trans hf3
                have hAa := hAv.fx hFa (by omega)
                have hPa := hPv.fx hFa (by omega)
                have hba := hFa.bel hbv (by omega) (Nat.le_refl _)
                obtain ⟨z3, _⟩ := hd3.b 3 _ rfl
                obtain ⟨z4, _⟩ := hd3.b 4 _ rfl
                obtain ⟨z5, _⟩ := hd3.b 5 _ rfl
                simp only at z3 z4 z5
                obtain ⟨a0, k0⟩ := hAa 0 _ rfl
                obtain ⟨a1, k1⟩ := hAa 1 _ rfl
                obtain ⟨a2, k2⟩ := hAa 2 _ rfl
                obtain ⟨a3, k3⟩ := hAa 3 _ rfl
                obtain ⟨a4, k4⟩ := hAa 4 _ rfl
                obtain ⟨a5, k5⟩ := hAa 5 _ rfl
                obtain ⟨p0, o0⟩ := hPa 0 _ rfl
                obtain ⟨p1, o1⟩ := hPa 1 _ rfl
                go_upto_region 27 with fail
                go_region
                go_wp2
                have hvv := HR.out
                subst hvv
                exact bodyPost_ret (dread_res (((((((((hAa.set (i := 0) (by simp) (.string ⟨#[]⟩)).set (i := 1) (by simp) (.int .i64 0)).set (i := 2) (by simp) (.int .i64 0)).set (i := 3) (by simp) (.int .i64 0)).set (i := 4) (by simp) (.slice none 0 0)).set (i := 5) (by simp) (.slice none 0 0)).far (X := w.heap.size + 1) (i := 0) (by omega) (.int .i64 y1)).far (X := w.heap.size + 1) (i := 1) (by omega) (.int .i64 y2))).drew (((((((((hPa.far (X := w.heap.size) (i := 0) (by omega) (.string ⟨#[]⟩)).far (X := w.heap.size) (i := 1) (by omega) (.int .i64 0)).far (X := w.heap.size) (i := 2) (by omega) (.int .i64 0)).far (X := w.heap.size) (i := 3) (by omega) (.int .i64 0)).far (X := w.heap.size) (i := 4) (by omega) (.slice none 0 0)).far (X := w.heap.size) (i := 5) (by omega) (.slice none 0 0)).set (i := 0) (by simp) (.int .i64 y1)).set (i := 1) (by simp) (.int .i64 y2))).drew rfl rfl rfl) rfl ⟨_, rfl, rdD_no _ _, ((below_st (below_st (below_st (below_st (below_st (below_st (below_st (below_st hba w.heap.size 0 (.string ⟨#[]⟩) (Nat.le_refl _)) w.heap.size 1 (.int .i64 0) (Nat.le_refl _)) w.heap.size 2 (.int .i64 0) (Nat.le_refl _)) w.heap.size 3 (.int .i64 0) (Nat.le_refl _)) w.heap.size 4 (.slice none 0 0) (Nat.le_refl _)) w.heap.size 5 (.slice none 0 0) (Nat.le_refl _)) (w.heap.size + 1) 0 (.int .i64 y1) (by omega)) (w.heap.size + 1) 1 (.int .i64 y2) (by omega))).drew⟩
              · rw [if_neg hc] at hr
                by_cases hez : e0.2.2 = 0
                · have hel : e0.1 = [] := by
                    cases h9 : e0.1 with
                    | nil => rfl
                    | cons x l => exact absurd ⟨hez, by rw [h9]; simp⟩ hc
                  rw [if_pos hez] at hr
                  have HR : Hid (((((nm, ln, co), vn, vs, ss), (0, 0), 0) : ChC × Pl × Int) = RES) := hr
                  obtain ⟨da, dc, hd⟩ := hpa
                  obtain ⟨u0, x0⟩ := hd.b 0 _ rfl
                  obtain ⟨u5, x5⟩ := hd.b 5 _ rfl
                  rw [hez] at u5
                  rw [hel] at u0
                  simp only [List.length_nil] at u0
                  have hAa := hAv.fx hFa (by omega)
                  have hPa := hPv.fx hFa (by omega)
                  have hba := hFa.bel hbv (by omega) (Nat.le_refl _)
                  obtain ⟨b0, g0⟩ := hBa 0 _ rfl
                  obtain ⟨b1, g1⟩ := hBa 1 _ rfl
                  obtain ⟨b2, g2⟩ := hBa 2 _ rfl
                  obtain ⟨b3, g3⟩ := hBa 3 _ rfl
                  obtain ⟨b4, g4⟩ := hBa 4 _ rfl
                  obtain ⟨b5, g5⟩ := hBa 5 _ rfl
                  obtain ⟨a0, k0⟩ := hAa 0 _ rfl
                  obtain ⟨a1, k1⟩ := hAa 1 _ rfl
                  obtain ⟨a2, k2⟩ := hAa 2 _ rfl
                  obtain ⟨a3, k3⟩ := hAa 3 _ rfl
                  obtain ⟨a4, k4⟩ := hAa 4 _ rfl
                  obtain ⟨a5, k5⟩ := hAa 5 _ rfl
                  obtain ⟨p0, o0⟩ := hPa 0 _ rfl
                  obtain ⟨p1, o1⟩ := hPa 1 _ rfl
                  clear hr hc
                  go_wp2
                  have hAz := ((((((((hAa.set (i := 0) (by simp) (.string nv)).set (i := 1) (by simp) (.int .i64 vn)).set (i := 2) (by simp) (.int .i64 ln)).set (i := 3) (by simp) (.int .i64 co)).set (i := 4) (by simp) (.slice va vs.length vc)).set (i := 5) (by simp) (.slice ua ss.length uc)).far (X := w.heap.size + 1) (i := 0) (by omega) (.int .i64 0)).far (X := w.heap.size + 1) (i := 1) (by omega) (.int .i64 0))
                  have hPz := ((((((((hPa.far (X := w.heap.size) (i := 0) (by omega) (.string nv)).far (X := w.heap.size) (i := 1) (by omega) (.int .i64 vn)).far (X := w.heap.size) (i := 2) (by omega) (.int .i64 ln)).far (X := w.heap.size) (i := 3) (by omega) (.int .i64 co)).far (X := w.heap.size) (i := 4) (by omega) (.slice va vs.length vc)).far (X := w.heap.size) (i := 5) (by omega) (.slice ua ss.length uc)).set (i := 0) (by simp) (.int .i64 0)).set (i := 1) (by simp) (.int .i64 0))
                  have hBz := (below_st (below_st (below_st (below_st (below_st (below_st (below_st (below_st hba w.heap.size 0 (.string nv) (Nat.le_refl _)) w.heap.size 1 (.int .i64 vn) (Nat.le_refl _)) w.heap.size 2 (.int .i64 ln) (Nat.le_refl _)) w.heap.size 3 (.int .i64 co) (Nat.le_refl _)) w.heap.size 4 (.slice va vs.length vc) (Nat.le_refl _)) w.heap.size 5 (.slice ua ss.length uc) (Nat.le_refl _)) (w.heap.size + 1) 0 (.int .i64 0) (by omega)) (w.heap.size + 1) 1 (.int .i64 0) (by omega))
                  have hk : ∀ b, X + 2 ≤ b → b < wa.heap.size → w.heap.size ≤ b ∧ ((((((((wa.setCell ⟨w.heap.size, 0, none⟩ (.string nv)).setCell ⟨w.heap.size, 1, none⟩ (.int .i64 vn)).setCell ⟨w.heap.size, 2, none⟩ (.int .i64 ln)).setCell ⟨w.heap.size, 3, none⟩ (.int .i64 co)).setCell ⟨w.heap.size, 4, none⟩ (.slice va vs.length vc)).setCell ⟨w.heap.size, 5, none⟩ (.slice ua ss.length uc)).setCell ⟨w.heap.size + 1, 0, none⟩ (.int .i64 0)).setCell ⟨w.heap.size + 1, 1, none⟩ (.int .i64 0)).heap[b]? = wa.heap[b]? := fun b hb hl => ⟨by omega, by rw [Below.heap_setCell _ _ _ _ (fun e => by have e2 : b = w.heap.size + 1 := e; omega), Below.heap_setCell _ _ _ _ (fun e => by have e2 : b = w.heap.size + 1 := e; omega), Below.heap_setCell _ _ _ _ (fun e => by have e2 : b = w.heap.size := e; omega), Below.heap_setCell _ _ _ _ (fun e => by have e2 : b = w.heap.size := e; omega), Below.heap_setCell _ _ _ _ (fun e => by have e2 : b = w.heap.size := e; omega), Below.heap_setCell _ _ _ _ (fun e => by have e2 : b = w.heap.size := e; omega), Below.heap_setCell _ _ _ _ (fun e => by have e2 : b = w.heap.size := e; omega), Below.heap_setCell _ _ _ _ (fun e => by have e2 : b = w.heap.size := e; omega)]⟩
                  have hVz := (hOa.rd kp_varD).stay kp_varD hk
                  have hSz := (hOia.rd (kp_stD _)).stay (kp_stD _) hk
                  clear hk hAa hPa hba hOa hOia hBa
                  have hvv := HR.out
                  subst hvv
                  refine bodyPost_ret (dread_res hAz hPz rfl rfl rfl) rfl ⟨_, rfl, ⟨_, _, ?_, hVz, hSz⟩, hBz⟩
                  rw [← HNV.out]; rfl
                · rw [if_neg hez] at hr
                  obtain ⟨⟨ew, ⟨y1, y2⟩, en⟩, he0⟩ : ∃ x, e0 = x := ⟨_, rfl⟩
                  subst he0
                  simp only at hr hez
                  have HR : Hid ((noC, (y1, y2), en) = RES) := hr
                  have i6 : (en == 0) = false := by simpa using hez
                  have i7 : (en != 0) = true := by simpa using hez
                  obtain ⟨da, dc, hd⟩ := hpa
                  obtain ⟨z3, _⟩ := hd.b 3 _ rfl
                  obtain ⟨z4, _⟩ := hd.b 4 _ rfl
                  obtain ⟨z5, _⟩ := hd.b 5 _ rfl
                  simp only at z3 z4 z5
                  have hAa := hAv.fx hFa (by omega)
                  have hPa := hPv.fx hFa (by omega)
                  have hba := hFa.bel hbv (by omega) (Nat.le_refl _)
                  obtain ⟨a0, k0⟩ := hAa 0 _ rfl
                  obtain ⟨a1, k1⟩ := hAa 1 _ rfl
                  obtain ⟨a2, k2⟩ := hAa 2 _ rfl
                  obtain ⟨a3, k3⟩ := hAa 3 _ rfl
                  obtain ⟨a4, k4⟩ := hAa 4 _ rfl
                  obtain ⟨a5, k5⟩ := hAa 5 _ rfl
                  obtain ⟨p0, o0⟩ := hPa 0 _ rfl
                  obtain ⟨p1, o1⟩ := hPa 1 _ rfl
                  clear hr hc
                  go_upto_region 27 with fail
                  go_region
                  go_wp2
                  have hvv := HR.out
                  subst hvv
                  exact bodyPost_ret (dread_res (((((((((hAa.set (i := 0) (by simp) (.string ⟨#[]⟩)).set (i := 1) (by simp) (.int .i64 0)).set (i := 2) (by simp) (.int .i64 0)).set (i := 3) (by simp) (.int .i64 0)).set (i := 4) (by simp) (.slice none 0 0)).set (i := 5) (by simp) (.slice none 0 0)).far (X := w.heap.size + 1) (i := 0) (by omega) (.int .i64 y1)).far (X := w.heap.size + 1) (i := 1) (by omega) (.int .i64 y2))).drew (((((((((hPa.far (X := w.heap.size) (i := 0) (by omega) (.string ⟨#[]⟩)).far (X := w.heap.size) (i := 1) (by omega) (.int .i64 0)).far (X := w.heap.size) (i := 2) (by omega) (.int .i64 0)).far (X := w.heap.size) (i := 3) (by omega) (.int .i64 0)).far (X := w.heap.size) (i := 4) (by omega) (.slice none 0 0)).far (X := w.heap.size) (i := 5) (by omega) (.slice none 0 0)).set (i := 0) (by simp) (.int .i64 y1)).set (i := 1) (by simp) (.int .i64 y2))).drew rfl rfl rfl) rfl ⟨_, rfl, rdD_no _ _, ((below_st (below_st (below_st (below_st (below_st (below_st (below_st (below_st hba w.heap.size 0 (.string ⟨#[]⟩) (Nat.le_refl _)) w.heap.size 1 (.int .i64 0) (Nat.le_refl _)) w.heap.size 2 (.int .i64 0) (Nat.le_refl _)) w.heap.size 3 (.int .i64 0) (Nat.le_refl _)) w.heap.size 4 (.slice none 0 0) (Nat.le_refl _)) w.heap.size 5 (.slice none 0 0) (Nat.le_refl _)) (w.heap.size + 1) 0 (.int .i64 y1) (by omega)) (w.heap.size + 1) 1 (.int .i64 y2) (by omega))).drew⟩
          · have i5 : (q.2.2 == 0) = false := by simpa using hz
            have hout := ho.out
            rw [sts_err hz] at hout
            have HOUT : Hid ((ss, q) = OUT) := hout
            have hM4 := fun w1 (hp : DR w1 X fin q) => hTk w1 _ [125] hp
            clear hout ho hI hIs hTk
            have hB9 := hB
            have hO9 := hO
            have hOi9 := hOi
            have hF9 := hF
            have hp9 := hp
            clear hB hF hp hO hOi hsz hTr
            go_upto_region 24 with (first
              | (go_at_call 31; refine (hM4 _ hp9).mono ?_; rintro e wa ⟨⟨u, rfl⟩, hpa, hfa⟩))
            have hBa := hB9.fx hfa (by omega)
            have hOa := hO9.fx kp_varD hfa hXb
            have hOia := hOi9.fx (kp_stD _) hfa hXb
            have hFa := hF9.trans hfa
            have hr := HRES.out
            have hoo := HOUT.out
            subst hoo
            simp only at hr
            clear HRES HOUT hM4 hp9 hB9 hO9 hOi9 hF9 hfa hq1 hm1 hal hgl
            generalize takeR fin [125] q = e0 at *
            by_cases hc : e0.2.2 = 0 ∧ e0.1 ≠ []
            · -- words are left
              rw [if_pos hc] at hr
              have hcz := hc.1
              have hcl : 0 < e0.1.length := List.length_pos_iff.2 hc.2
              have hfz : failC 12 (hereR fin e0) e0 = (e0.1, hereR fin e0, 12) := by unfold failC; rw [if_pos hcz]
              rw [hfz] at hr
              simp only at hr
              rw [if_neg (by decide)] at hr
              obtain ⟨da, dc, hd⟩ := hpa
              obtain ⟨u0, x0⟩ := hd.b 0 _ rfl
              obtain ⟨u5, x5⟩ := hd.b 5 _ rfl
              rw [hcz] at u5
              have hH := here_any hd
              have hFl := fun w1 (hd : Dr w1 X fin e0 da dc) => dfail_any hd 12 (hereR fin e0)
              rw [hfz] at hFl
              obtain ⟨y1, y2, hy⟩ : ∃ y1 y2, hereR fin e0 = (y1, y2) := ⟨_, _, rfl⟩
              rw [hy] at hr hH hFl
              simp only at hH hFl
              have HR : Hid ((noC, (y1, y2), (12 : Int)) = RES) := hr
              have i7 : ((e0.1.length : Int) > 0) := by omega
              have i8 : decide ((e0.1.length : Int) > 0) = true := decide_eq_true i7
              have i9 : (0 : Int) < (e0.1.length : Int) := by omega
              clear hr hy hfz
              go_upto_region 26 with (first
                | (go_at_call 37; refine hH.mono ?_; rintro e wb ⟨rfl, bb⟩; have hd2 := hd.on bb)
                | (go_at_call 36; refine (hFl _ hd2).mono ?_; rintro e wc ⟨⟨u, rfl⟩, hd3, hf3⟩))
              have hFa := (hFa.trans (Fx.of bb (Nat.le_refl _))).trans hf3
              have hAa := hAv.fx hFa (by omega)
              have hPa := hPv.fx hFa (by omega)
              have hba := hFa.bel hbv (by omega) (Nat.le_refl _)
              obtain ⟨z3, _⟩ := hd3.b 3 _ rfl
              obtain ⟨z4, _⟩ := hd3.b 4 _ rfl
              obtain ⟨z5, _⟩ := hd3.b 5 _ rfl
              simp only at z3 z4 z5
              obtain ⟨a0, k0⟩ := hAa 0 _ rfl
              obtain ⟨a1, k1⟩ := hAa 1 _ rfl
              obtain ⟨a2, k2⟩ := hAa 2 _ rfl
              obtain ⟨a3, k3⟩ := hAa 3 _ rfl
              obtain ⟨a4, k4⟩ := hAa 4 _ rfl
              obtain ⟨a5, k5⟩ := hAa 5 _ rfl
              obtain ⟨p0, o0⟩ := hPa 0 _ rfl
              obtain ⟨p1, o1⟩ := hPa 1 _ rfl
              go_upto_region 27 with fail
              go_region
              go_wp2
              have hvv := HR.out
              subst hvv
              exact bodyPost_ret (dread_res (((((((((hAa.set (i := 0) (by simp) (.string ⟨#[]⟩)).set (i := 1) (by simp) (.int .i64 0)).set (i := 2) (by simp) (.int .i64 0)).set (i := 3) (by simp) (.int .i64 0)).set (i := 4) (by simp) (.slice none 0 0)).set (i := 5) (by simp) (.slice none 0 0)).far (X := w.heap.size + 1) (i := 0) (by omega) (.int .i64 y1)).far (X := w.heap.size + 1) (i := 1) (by omega) (.int .i64 y2))).drew (((((((((hPa.far (X := w.heap.size) (i := 0) (by omega) (.string ⟨#[]⟩)).far (X := w.heap.size) (i := 1) (by omega) (.int .i64 0)).far (X := w.heap.size) (i := 2) (by omega) (.int .i64 0)).far (X := w.heap.size) (i := 3) (by omega) (.int .i64 0)).far (X := w.heap.size) (i := 4) (by omega) (.slice none 0 0)).far (X := w.heap.size) (i := 5) (by omega) (.slice none 0 0)).set (i := 0) (by simp) (.int .i64 y1)).set (i := 1) (by simp) (.int .i64 y2))).drew rfl rfl rfl) rfl ⟨_, rfl, rdD_no _ _, ((below_st (below_st (below_st (below_st (below_st (below_st (below_st (below_st hba w.heap.size 0 (.string ⟨#[]⟩) (Nat.le_refl _)) w.heap.size 1 (.int .i64 0) (Nat.le_refl _)) w.heap.size 2 (.int .i64 0) (Nat.le_refl _)) w.heap.size 3 (.int .i64 0) (Nat.le_refl _)) w.heap.size 4 (.slice none 0 0) (Nat.le_refl _)) w.heap.size 5 (.slice none 0 0) (Nat.le_refl _)) (w.heap.size + 1) 0 (.int .i64 y1) (by omega)) (w.heap.size + 1) 1 (.int .i64 y2) (by omega))).drew⟩
            · rw [if_neg hc] at hr
              by_cases hez : e0.2.2 = 0
              · have hel : e0.1 = [] := by
                  cases h9 : e0.1 with
                  | nil => rfl
                  | cons x l => exact absurd ⟨hez, by rw [h9]; simp⟩ hc
                rw [if_pos hez] at hr
                have HR : Hid (((((nm, ln, co), vn, vs, ss), (0, 0), 0) : ChC × Pl × Int) = RES) := hr
                obtain ⟨da, dc, hd⟩ := hpa
                obtain ⟨u0, x0⟩ := hd.b 0 _ rfl
                obtain ⟨u5, x5⟩ := hd.b 5 _ rfl
                rw [hez] at u5
                rw [hel] at u0
                simp only [List.length_nil] at u0
                have hAa := hAv.fx hFa (by omega)
                have hPa := hPv.fx hFa (by omega)
                have hba := hFa.bel hbv (by omega) (Nat.le_refl _)
                obtain ⟨b0, g0⟩ := hBa 0 _ rfl
                obtain ⟨b1, g1⟩ := hBa 1 _ rfl
                obtain ⟨b2, g2⟩ := hBa 2 _ rfl
                obtain ⟨b3, g3⟩ := hBa 3 _ rfl
                obtain ⟨b4, g4⟩ := hBa 4 _ rfl
                obtain ⟨b5, g5⟩ := hBa 5 _ rfl
                obtain ⟨a0, k0⟩ := hAa 0 _ rfl
                obtain ⟨a1, k1⟩ := hAa 1 _ rfl
                obtain ⟨a2, k2⟩ := hAa 2 _ rfl
                obtain ⟨a3, k3⟩ := hAa 3 _ rfl
                obtain ⟨a4, k4⟩ := hAa 4 _ rfl
                obtain ⟨a5, k5⟩ := hAa 5 _ rfl
                obtain ⟨p0, o0⟩ := hPa 0 _ rfl
                obtain ⟨p1, o1⟩ := hPa 1 _ rfl
                clear hr hc
                go_wp2
                have hAz := ((((((((hAa.set (i := 0) (by simp) (.string nv)).set (i := 1) (by simp) (.int .i64 vn)).set (i := 2) (by simp) (.int .i64 ln)).set (i := 3) (by simp) (.int .i64 co)).set (i := 4) (by simp) (.slice va vs.length vc)).set (i := 5) (by simp) (.slice ua ss.length uc)).far (X := w.heap.size + 1) (i := 0) (by omega) (.int .i64 0)).far (X := w.heap.size + 1) (i := 1) (by omega) (.int .i64 0))
                have hPz := ((((((((hPa.far (X := w.heap.size) (i := 0) (by omega) (.string nv)).far (X := w.heap.size) (i := 1) (by omega) (.int .i64 vn)).far (X := w.heap.size) (i := 2) (by omega) (.int .i64 ln)).far (X := w.heap.size) (i := 3) (by omega) (.int .i64 co)).far (X := w.heap.size) (i := 4) (by omega) (.slice va vs.length vc)).far (X := w.heap.size) (i := 5) (by omega) (.slice ua ss.length uc)).set (i := 0) (by simp) (.int .i64 0)).set (i := 1) (by simp) (.int .i64 0))
                have hBz := (below_st (below_st (below_st (below_st (below_st (below_st (below_st (below_st hba w.heap.size 0 (.string nv) (Nat.le_refl _)) w.heap.size 1 (.int .i64 vn) (Nat.le_refl _)) w.heap.size 2 (.int .i64 ln) (Nat.le_refl _)) w.heap.size 3 (.int .i64 co) (Nat.le_refl _)) w.heap.size 4 (.slice va vs.length vc) (Nat.le_refl _)) w.heap.size 5 (.slice ua ss.length uc) (Nat.le_refl _)) (w.heap.size + 1) 0 (.int .i64 0) (by omega)) (w.heap.size + 1) 1 (.int .i64 0) (by omega))
                have hk : ∀ b, X + 2 ≤ b → b < wa.heap.size → w.heap.size ≤ b ∧ ((((((((wa.setCell ⟨w.heap.size, 0, none⟩ (.string nv)).setCell ⟨w.heap.size, 1, none⟩ (.int .i64 vn)).setCell ⟨w.heap.size, 2, none⟩ (.int .i64 ln)).setCell ⟨w.heap.size, 3, none⟩ (.int .i64 co)).setCell ⟨w.heap.size, 4, none⟩ (.slice va vs.length vc)).setCell ⟨w.heap.size, 5, none⟩ (.slice ua ss.length uc)).setCell ⟨w.heap.size + 1, 0, none⟩ (.int .i64 0)).setCell ⟨w.heap.size + 1, 1, none⟩ (.int .i64 0)).heap[b]? = wa.heap[b]? := fun b hb hl => ⟨by omega, by rw [Below.heap_setCell _ _ _ _ (fun e => by have e2 : b = w.heap.size + 1 := e; omega), Below.heap_setCell _ _ _ _ (fun e => by have e2 : b = w.heap.size + 1 := e; omega), Below.heap_setCell _ _ _ _ (fun e => by have e2 : b = w.heap.size := e; omega), Below.heap_setCell _ _ _ _ (fun e => by have e2 : b = w.heap.size := e; omega), Below.heap_setCell _ _ _ _ (fun e => by have e2 : b = w.heap.size := e; omega), Below.heap_setCell _ _ _ _ (fun e => by have e2 : b = w.heap.size := e; omega), Below.heap_setCell _ _ _ _ (fun e => by have e2 : b = w.heap.size := e; omega), Below.heap_setCell _ _ _ _ (fun e => by have e2 : b = w.heap.size := e; omega)]⟩
                have hVz := (hOa.rd kp_varD).stay kp_varD hk
                have hSz := (hOia.rd (kp_stD _)).stay (kp_stD _) hk
                clear hk hAa hPa hba hOa hOia hBa
                have hvv := HR.out
                subst hvv
                refine bodyPost_ret (dread_res hAz hPz rfl rfl rfl) rfl ⟨_, rfl, ⟨_, _, ?_, hVz, hSz⟩, hBz⟩
                rw [← HNV.out]; rfl
              · rw [if_neg hez] at hr
                obtain ⟨⟨ew, ⟨y1, y2⟩, en⟩, he0⟩ : ∃ x, e0 = x := ⟨_, rfl⟩
                subst he0
                simp only at hr hez
                have HR : Hid ((noC, (y1, y2), en) = RES) := hr
                have i6 : (en == 0) = false := by simpa using hez
                have i7 : (en != 0) = true := by simpa using hez
                obtain ⟨da, dc, hd⟩ := hpa
                obtain ⟨z3, _⟩ := hd.b 3 _ rfl
                obtain ⟨z4, _⟩ := hd.b 4 _ rfl
                obtain ⟨z5, _⟩ := hd.b 5 _ rfl
                simp only at z3 z4 z5
                have hAa := hAv.fx hFa (by omega)
                have hPa := hPv.fx hFa (by omega)
                have hba := hFa.bel hbv (by omega) (Nat.le_refl _)
                obtain ⟨a0, k0⟩ := hAa 0 _ rfl
                obtain ⟨a1, k1⟩ := hAa 1 _ rfl
                obtain ⟨a2, k2⟩ := hAa 2 _ rfl
                obtain ⟨a3, k3⟩ := hAa 3 _ rfl
                obtain ⟨a4, k4⟩ := hAa 4 _ rfl
                obtain ⟨a5, k5⟩ := hAa 5 _ rfl
                obtain ⟨p0, o0⟩ := hPa 0 _ rfl
                obtain ⟨p1, o1⟩ := hPa 1 _ rfl
                clear hr hc
                go_upto_region 27 with fail
                go_region
                go_wp2
                have hvv := HR.out
                subst hvv
                exact bodyPost_ret (dread_res (((((((((hAa.set (i := 0) (by simp) (.string ⟨#[]⟩)).set (i := 1) (by simp) (.int .i64 0)).set (i := 2) (by simp) (.int .i64 0)).set (i := 3) (by simp) (.int .i64 0)).set (i := 4) (by simp) (.slice none 0 0)).set (i := 5) (by simp) (.slice none 0 0)).far (X := w.heap.size + 1) (i := 0) (by omega) (.int .i64 y1)).far (X := w.heap.size + 1) (i := 1) (by omega) (.int .i64 y2))).drew (((((((((hPa.far (X := w.heap.size) (i := 0) (by omega) (.string ⟨#[]⟩)).far (X := w.heap.size) (i := 1) (by omega) (.int .i64 0)).far (X := w.heap.size) (i := 2) (by omega) (.int .i64 0)).far (X := w.heap.size) (i := 3) (by omega) (.int .i64 0)).far (X := w.heap.size) (i := 4) (by omega) (.slice none 0 0)).far (X := w.heap.size) (i := 5) (by omega) (.slice none 0 0)).set (i := 0) (by simp) (.int .i64 y1)).set (i := 1) (by simp) (.int .i64 y2))).drew rfl rfl rfl) rfl ⟨_, rfl, rdD_no _ _, ((below_st (below_st (below_st (below_st (below_st (below_st (below_st (below_st hba w.heap.size 0 (.string ⟨#[]⟩) (Nat.le_refl _)) w.heap.size 1 (.int .i64 0) (Nat.le_refl _)) w.heap.size 2 (.int .i64 0) (Nat.le_refl _)) w.heap.size 3 (.int .i64 0) (Nat.le_refl _)) w.heap.size 4 (.slice none 0 0) (Nat.le_refl _)) w.heap.size 5 (.slice none 0 0) (Nat.le_refl _)) (w.heap.size + 1) 0 (.int .i64 y1) (by omega)) (w.heap.size + 1) 1 (.int .i64 y2) (by omega))).drew⟩
end Go.Proofs.YtccmmkhcacglhaaGreatDoor
