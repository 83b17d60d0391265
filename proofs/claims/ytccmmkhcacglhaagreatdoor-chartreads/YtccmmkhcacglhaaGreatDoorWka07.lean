import Derived.Test.YtccmmkhcacglhaaGreatDoorWka06
import Derived.Deep.RegionLaw
import Derived.Deep.CutBlock

/- What the document's state does. -/
namespace Go.Proofs.YtccmmkhcacglhaaGreatDoor
open Go.RowKit Go.Lib
set_option linter.unusedSimpArgs false
set_option linter.unusedVariables false
attribute [local go_sem ↓] Go.wp_at_zero Go.wp_at_succ

abbrev zD11 : Obj := .cells #[.string ⟨#[]⟩, .int .i64 0, .int .i64 0, .bool false, .bool false, .string ⟨#[]⟩, .string ⟨#[]⟩, .int .i64 0, .int .i64 0, .slice none 0 0, .slice none 0 0] 76
abbrev zDl : List Value := [.string ⟨#[]⟩, .int .i64 0, .int .i64 0, .bool false, .bool false, .string ⟨#[]⟩, .string ⟨#[]⟩, .int .i64 0, .int .i64 0, .slice none 0 0, .slice none 0 0]
theorem Tryz.infoOnD : (Tryz.prog.info? 135).map (fun i => (i.zero, i.size, i.bytes)) = some (some (.agg #[.string ⟨#[]⟩, .bool false, .int .i64 0, .int .i64 0, .string ⟨#[]⟩, .slice none 0 0, .string ⟨#[]⟩, .slice none 0 0, .int .i64 0, .int .i64 0]), 10, 136) := by kernel_rfl
theorem Tryz.infoStD : (Tryz.prog.info? 76).map (fun i => (i.zero, i.size, i.bytes)) = some (some (.agg #[.string ⟨#[]⟩, .int .i64 0, .int .i64 0, .bool false, .bool false, .string ⟨#[]⟩, .string ⟨#[]⟩, .int .i64 0, .int .i64 0, .slice none 0 0, .slice none 0 0]), 11, 136) := by kernel_rfl
def er0 (w : World) (X : Nat) : Nat := match w.cell? ⟨X, 5, none⟩ with | some (.int _ n) => (if n = 0 then 1 else 0) | _ => 0
theorem DR.er {w : World} {X : Nat} {fin : Pl} {r : RsC} (h : DR w X fin r) : er0 w X = if r.2.2 = 0 then 1 else 0 := by
  obtain ⟨a, cap, h⟩ := h
  unfold er0
  rw [(h.b 5 _ rfl).1]
theorem DR.c5 {w : World} {X : Nat} {fin : Pl} {r : RsC} (h : DR w X fin r) : w.cell? ⟨X, 5, none⟩ = some (.int .i64 r.2.2) := by
  obtain ⟨a, cap, h⟩ := h
  exact (h.b 5 _ rfl).1
theorem dstate_res {w4 : World} {R : Nat} {a b c d e f g h i j k : Value} {tmps : Array Value} (hR : Bn w4 R [a, b, c, d, e, f, g, h, i, j, k]) (ht : tmps.getD 4 undef = .pointer (some ⟨R, 0, none⟩)) : (results Tryz.f35 tmps).run Tryz.prog w4 = .ok (.agg #[a, b, c, d, e, f, g, h, i, j, k]) w4 := by
  have ht' : tmps[4]?.getD undef = .pointer (some ⟨R, 0, none⟩) := by simpa using ht
  have c0 := (hR 0 _ rfl).1
  have c1 := (hR 1 _ rfl).1
  have c2 := (hR 2 _ rfl).1
  have c3 := (hR 3 _ rfl).1
  have c4 := (hR 4 _ rfl).1
  have c5 := (hR 5 _ rfl).1
  have c6 := (hR 6 _ rfl).1
  have c7 := (hR 7 _ rfl).1
  have c8 := (hR 8 _ rfl).1
  have c9 := (hR 9 _ rfl).1
  have c10 := (hR 10 _ rfl).1
  simp [results, Tryz.results35, go_sem, ht', c0, c1, c2, c3, c4, c5, c6, c7, c8, c9, c10]
/-- What is told of a state that lies k below the deepest. -/
def SdC (k : Nat) : Prop := ∀ (w : World) (X : Nat) (fin : Pl) (r : RsC) (dp : Int), dp + (k : Int) = 7 → DR w X fin r → Ty w X →
  Calls Tryz.prog 35 #[.pointer (some ⟨X, 0, none⟩), .int .i64 dp] w fun e w' => (∃ cs, e = .returned (.agg cs.toArray) ∧ rStD (k + 1) (fun b => w.heap.size ≤ b) w' (stR fin k r).1 cs) ∧ DR w' X fin (stR fin k r).2 ∧ Fx X w w'
def stVD (c0 c1 c2 : Value) (k : (Bool × Bool) × (List UInt8 × List UInt8) × (Int × Int)) (so si : Value) : List Value := [c0, c1, c2, .bool k.1.1, .bool k.1.2, sD k.2.1.1, sD k.2.1.2, .int .i64 k.2.2.1, .int .i64 k.2.2.2, so, si]
set_option maxRecDepth 100000 in
set_option maxHeartbeats 16000000 in
theorem dstate_step (k : Nat) (hk6 : k + 1 ≤ 6) (IH : SdC k) : SdC (k + 1) := by
  intro w X fin r dp hdp h hTy
  obtain ⟨io, hio, hio0, hio1, hio2⟩ := info_parts Tryz.infoOnD
  obtain ⟨it, hit, hit0, hit1, hit2⟩ := info_parts Tryz.infoStD
  have hdp1 : dp ≤ 6 := by omega
  have hdp2 : 0 ≤ dp := by omega
  have hX := h.lt
  have hbel : Below w.heap.size w ((w.alloc zD11).alloc zD11) := ((Below.refl _ _).alloc (Nat.le_refl _) _).alloc (by simp) _
  have hp0 := h.on hbel
  have hT0 := hTy.on hbel
  have hA0 : Bn ((w.alloc zD11).alloc zD11) w.heap.size zDl := (Bn.new w zDl 76 _ rfl).on ((Below.refl _ _).alloc (Nat.le_refl _) _)
  have hB0 : Bn ((w.alloc zD11).alloc zD11) (w.heap.size + 1) zDl := Bn.new (w.alloc zD11) zDl 76 _ (by simp)
  have hF0 : Fx X w ((w.alloc zD11).alloc zD11) := Fx.of hbel (Nat.le_refl _)
  have hs0 : w.heap.size + 2 ≤ ((w.alloc zD11).alloc zD11).heap.size := by simp
  have e1 : (⟨wState.toArray⟩ : ByteArray) = ⟨#[115, 116, 97, 116, 101]⟩ := rfl
  have e2 : (⟨wOn.toArray⟩ : ByteArray) = ⟨#[111, 110]⟩ := rfl
  have f1 : (⟨wAll.toArray⟩ : ByteArray) = ⟨#[97, 108, 108]⟩ := rfl
  have f2 : (⟨wEnd.toArray⟩ : ByteArray) = ⟨#[101, 110, 100]⟩ := rfl
  have f3 : (⟨wDo.toArray⟩ : ByteArray) = ⟨#[100, 111]⟩ := rfl
  have f4 : (⟨wUndo.toArray⟩ : ByteArray) = ⟨#[117, 110, 100, 111]⟩ := rfl
  have f5 : (⟨wAt.toArray⟩ : ByteArray) = ⟨#[97, 116]⟩ := rfl
  have f6 : (⟨wRetries.toArray⟩ : ByteArray) = ⟨#[114, 101, 116, 114, 105, 101, 115]⟩ := rfl
  obtain ⟨RES, hRES⟩ : ∃ x, stR fin (k + 1) r = x := ⟨_, rfl⟩
  rw [hRES]
  unfold stR at hRES
  have hM1 := dtake_any hp0 wState
  rw [e1] at hM1
  generalize takeR fin wState r = r1 at *
  have hN := fun w1 (hp : DR w1 X fin r1) (ht : Ty w1 X) => dname_any hp ht
  obtain ⟨⟨⟨nm, ln, co⟩, r2⟩, hR1⟩ : ∃ x, nameR fin r1 = x := ⟨_, rfl⟩
  simp only [hR1] at hN hRES
  have hM2 := fun w1 (hp : DR w1 X fin r2) => dtake_any hp [123]
  generalize takeR fin [123] r2 = r3 at *
  obtain ⟨nv, hnv⟩ : ∃ nv, (⟨nm.toArray⟩ : ByteArray) = nv := ⟨_, rfl⟩
  simp only [hnv] at hN
  have HNV : Hid ((⟨nm.toArray⟩ : ByteArray) = nv) := hnv
  have hTk := fun w1 q t (hp : DR w1 X fin q) => dtake_any hp t
  have hIs := fun w1 q t (hp : DR w1 X fin q) => disR_any hp t
  have hNa := fun w1 q (hp : DR w1 X fin q) (ht : Ty w1 X) => dname_any hp ht
  have hNu := fun w1 q (hp : DR w1 X fin q) => dnum_any hp
  have hT := fun w1 q (hp : DR w1 X fin q) (ht : Ty w1 X) => don_any hp ht
  have hI := fun w1 q (hp : DR w1 X fin q) (ht : Ty w1 X) => IH w1 X fin q (dp + 1) (by omega) hp ht
  have i9 : IntKind.i64.wrap (dp + 1) = dp + 1 := by rw [IntKind.wrap_i64]; omega
  have i1 : decide (dp > 6) = false := decide_eq_false (by omega)
  have i1' : ¬ 6 < dp := by omega
  clear hR1 hnv hbel h IH
  obtain ⟨⟨kd, r4⟩, hR2⟩ : ∃ x, kindR fin r3 = x := ⟨_, rfl⟩
  simp only [hR2] at hRES
  obtain ⟨OUT, hOUT⟩ : ∃ o, inR fin (stR fin k) (r4.1.length + 1) [] [] r4 = o := ⟨_, rfl⟩
  simp only [hOUT] at hRES
  have HO : Hid (inR fin (stR fin k) (r4.1.length + 1) [] [] r4 = OUT) := hOUT
  have HRES : Hid (((((nm, ln, co), kd.1, kd.2.1, kd.2.2, OUT.1.1), OUT.1.2), takeR fin [125] OUT.2) = RES) := hRES
  obtain ⟨kb, ke, kdo, kun, kw, kr, hkd⟩ : ∃ kb ke kdo kun kw kr, stVD (.string nv) (.int .i64 ln) (.int .i64 co) kd = fun so si => [.string nv, .int .i64 ln, .int .i64 co, .bool kb, .bool ke, .string kdo, .string kun, .int .i64 kw, .int .i64 kr, so, si] := ⟨_, _, _, _, _, _, rfl⟩
  have HKD : Hid (stVD (.string nv) (.int .i64 ln) (.int .i64 co) kd = fun so si => [.string nv, .int .i64 ln, .int .i64 co, .bool kb, .bool ke, .string kdo, .string kun, .int .i64 kw, .int .i64 kr, so, si]) := hkd
  have HR2 : Hid (kindR fin r3 = (kd, r4)) := hR2
  clear hR2 hRES hOUT hkd
  go_enter Tryz.func35, Tryz.ntmps35
  go_upto_region 2 with fail
  generalize (w.alloc zD11).alloc zD11 = w0 at *
  go_upto_region 5 with (first
    | (go_at_call 31; refine hM1.mono ?_; rintro e w3 ⟨⟨u, rfl⟩, hp3, hf3⟩))
  have hA3 := hA0.fx hf3 (by omega)
  have hB3 := hB0.fx hf3 (by omega)
  have hT3 := hT0.fx hf3
  have hF3 := hF0.trans hf3
  have hs3 := Nat.le_trans hs0 hf3.size
  clear hA0 hB0 hp0 hT0 hF0 hs0 hf3 hM1
  go_upto_region 6 with (first
    | (go_at_call 32; refine (hN _ hp3 hT3).mono ?_; rintro e w4 ⟨rfl, hp4, hf4⟩; have hA4 := hA3.fx hf4 (by omega); have hB4 := hB3.fx hf4 (by omega); obtain ⟨b0, g0⟩ := hB4 0 _ rfl; obtain ⟨b1, g1⟩ := hB4 1 _ rfl; obtain ⟨b2, g2⟩ := hB4 2 _ rfl))
  have hA5 := ((hA4.far (X := w.heap.size + 1) (i := 0) (by omega) (.string nv)).far (X := w.heap.size + 1) (i := 1) (by omega) (.int .i64 ln)).far (X := w.heap.size + 1) (i := 2) (by omega) (.int .i64 co)
  have hB5 : Bn _ (w.heap.size + 1) [.string nv, .int .i64 ln, .int .i64 co, .bool false, .bool false, .string ⟨#[]⟩, .string ⟨#[]⟩, .int .i64 0, .int .i64 0, .slice none 0 0, .slice none 0 0] := ((hB4.set (i := 0) (by simp) (.string nv)).set (i := 1) (by simp) (.int .i64 ln)).set (i := 2) (by simp) (.int .i64 co)
  have hp5 := ((hp4.far (Y := w.heap.size + 1) (i := 0) (by omega) (.string nv)).far (Y := w.heap.size + 1) (i := 1) (by omega) (.int .i64 ln)).far (Y := w.heap.size + 1) (i := 2) (by omega) (.int .i64 co)
  have hF5 := (((hF3.trans hf4).setN (N := w.heap.size + 1) (i := 0) (by omega) (.string nv)).setN (N := w.heap.size + 1) (i := 1) (by omega) (.int .i64 ln)).setN (N := w.heap.size + 1) (i := 2) (by omega) (.int .i64 co)
  have hT5 := hTy.fx hF5
  have hs5 : w.heap.size + 2 ≤ (((w4.setCell ⟨w.heap.size + 1, 0, none⟩ (.string nv)).setCell ⟨w.heap.size + 1, 1, none⟩ (.int .i64 ln)).setCell ⟨w.heap.size + 1, 2, none⟩ (.int .i64 co)).heap.size := by simpa using Nat.le_trans hs3 hf4.size
  clear hA3 hB3 hp3 hT3 hF3 hA4 hB4 hp4 hf4 b0 g0 b1 g1 b2 g2 hs3 hN
  generalize ((w4.setCell ⟨w.heap.size + 1, 0, none⟩ (.string nv)).setCell ⟨w.heap.size + 1, 1, none⟩ (.int .i64 ln)).setCell ⟨w.heap.size + 1, 2, none⟩ (.int .i64 co) = w5 at *
  go_upto_block 0 with (first
    | (go_at_call 31; refine (hM2 _ hp5).mono ?_; rintro e w6 ⟨⟨u, rfl⟩, hp6, hf6⟩))
  have hA6 := hA5.fx hf6 (by omega)
  have hB6 := hB5.fx hf6 (by omega)
  have hT6 := hT5.fx hf6
  have hF6 := hF5.trans hf6
  have hs6 := Nat.le_trans hs5 hf6.size
  clear hA5 hB5 hp5 hT5 hF5 hf6 hs5 hM2
  go_cut [] from 6 (fun wc => DR wc X fin r4 ∧ Bn wc (w.heap.size + 1) [.string nv, .int .i64 ln, .int .i64 co, .bool kb, .bool ke, .string kdo, .string kun, .int .i64 kw, .int .i64 kr, .slice none 0 0, .slice none 0 0] ∧ Bn wc w.heap.size zDl ∧ Fx X w wc ∧ w.heap.size + 2 ≤ wc.heap.size)
  case first =>
    have hKD := HKD.out
    have hKR := HR2.out
    unfold kindR at hKR
    clear HO HRES HKD HR2 hT hI
    have hI1 := hIs w6 r3 wAll hp6
    rw [f1] at hI1
    cases h1 : isC wAll r3 with
    | true =>
      rw [h1] at hI1
      rw [h1, if_pos rfl] at hKR
      have hT1 := fun w1 (hp : DR w1 X fin r3) => hTk w1 _ wAll hp
      rw [f1] at hT1
      simp only [Prod.mk.injEq] at hKR
      obtain ⟨hk1, hk2⟩ := hKR
      subst hk1
      have hk3 := congrFun (congrFun hKD (.slice none 0 0)) (.slice none 0 0)
      simp only [stVD, sD, List.cons.injEq, Value.bool.injEq, Value.string.injEq, Value.int.injEq, true_and, and_true] at hk3
      obtain ⟨rfl, rfl, rfl, rfl, rfl, rfl⟩ := hk3
      rw [hk2] at hT1
      clear hKD hk2
      go_upto_region 9 with (first
        | (go_at_call 34; refine hI1.mono ?_; rintro e w7 ⟨rfl, hp7, hf7⟩)
        | (go_at_call 31; refine (hT1 _ hp7).mono ?_; rintro e w8 ⟨⟨u, rfl⟩, hp8, hf8⟩))
      have hf78 := hf7.trans hf8
      have hB8 := hB6.fx hf78 (by omega)
      have hA8 := hA6.fx hf78 (by omega)
      obtain ⟨b3, g3⟩ := hB8 3 _ rfl
      go_wp2
      go_meet
      case rel => exact ⟨hp8.far (by omega) _, hB8.set (i := 3) (by simp) (.bool true), hA8.far (by omega) _, (hF6.trans hf78).setN (by omega) _, by simpa using Nat.le_trans hs6 hf78.size⟩
    | false =>
      rw [h1] at hI1
      rw [h1, if_neg (by decide)] at hKR
      have hI2 := fun w1 (hp : DR w1 X fin r3) => hIs w1 r3 wEnd hp
      rw [f2] at hI2
      cases h2 : isC wEnd r3 with
      | true =>
        rw [h2] at hI2
        rw [h2, if_pos rfl] at hKR
        have hT1 := fun w1 (hp : DR w1 X fin r3) => hTk w1 _ wEnd hp
        rw [f2] at hT1
        simp only [Prod.mk.injEq] at hKR
        obtain ⟨hk1, hk2⟩ := hKR
        subst hk1
        have hk3 := congrFun (congrFun hKD (.slice none 0 0)) (.slice none 0 0)
        simp only [stVD, sD, List.cons.injEq, Value.bool.injEq, Value.string.injEq, Value.int.injEq, true_and, and_true] at hk3
        obtain ⟨rfl, rfl, rfl, rfl, rfl, rfl⟩ := hk3
        rw [hk2] at hT1
        clear hKD hk2
        go_upto_region 10 with (first
          | (go_at_call 34; refine hI1.mono ?_; rintro e w7 ⟨rfl, hp7, hf7⟩))
        go_upto_region 12 with (first
          | (go_at_call 34; refine (hI2 _ hp7).mono ?_; rintro e w7a ⟨rfl, hp7a, hf7a⟩)
          | (go_at_call 31; refine (hT1 _ hp7a).mono ?_; rintro e w8 ⟨⟨u, rfl⟩, hp8, hf8⟩))
        have hf78 := (hf7.trans hf7a).trans hf8
        have hB8 := hB6.fx hf78 (by omega)
        have hA8 := hA6.fx hf78 (by omega)
        obtain ⟨b3, g3⟩ := hB8 4 _ rfl
        go_wp2
        go_meet
        case rel => exact ⟨hp8.far (by omega) _, hB8.set (i := 4) (by simp) (.bool true), hA8.far (by omega) _, (hF6.trans hf78).setN (by omega) _, by simpa using Nat.le_trans hs6 hf78.size⟩
      | false =>
        rw [h2] at hI2
        rw [h2, if_neg (by decide)] at hKR
        have hI3 := fun w1 (hp : DR w1 X fin r3) => hIs w1 r3 wDo hp
        rw [f3] at hI3
        cases h3 : isC wDo r3 with
        | true =>
          rw [h3] at hI3
          rw [h3, if_pos rfl] at hKR
          simp only at hKR
          have hT1 := fun w1 (hp : DR w1 X fin r3) => hTk w1 _ wDo hp
          rw [f3] at hT1
          have hN1 := fun w1 (hp : DR w1 X fin (takeR fin wDo r3)) (ht : Ty w1 X) => hNa w1 _ hp ht
          generalize takeR fin wDo r3 = t1 at *
          obtain ⟨⟨⟨nm1, ln1, co1⟩, t2⟩, hR1⟩ : ∃ x, nameR fin t1 = x := ⟨_, rfl⟩
          simp only [hR1] at hN1 hKR
          have hT2 := fun w1 (hp : DR w1 X fin t2) => hTk w1 _ wUndo hp
          rw [f4] at hT2
          have hN2 := fun w1 (hp : DR w1 X fin (takeR fin wUndo t2)) (ht : Ty w1 X) => hNa w1 _ hp ht
          generalize takeR fin wUndo t2 = t3 at *
          obtain ⟨⟨⟨nm2, ln2, co2⟩, t4⟩, hR2⟩ : ∃ x, nameR fin t3 = x := ⟨_, rfl⟩
          simp only [hR2] at hN2 hKR
          have hT3 := fun w1 (hp : DR w1 X fin t4) => hTk w1 _ wAt hp
          rw [f5] at hT3
          have hN3 := fun w1 (hp : DR w1 X fin (takeR fin wAt t4)) => hNu w1 _ hp
          generalize takeR fin wAt t4 = t5 at *
          obtain ⟨⟨n1, t6⟩, hR3⟩ : ∃ x, numR fin t5 = x := ⟨_, rfl⟩
          simp only [hR3] at hN3 hKR
          have hT4 := fun w1 (hp : DR w1 X fin t6) => hTk w1 _ wRetries hp
          rw [f6] at hT4
          have hN4 := fun w1 (hp : DR w1 X fin (takeR fin wRetries t6)) => hNu w1 _ hp
          generalize takeR fin wRetries t6 = t7 at *
          obtain ⟨⟨n2, t8⟩, hR4⟩ : ∃ x, numR fin t7 = x := ⟨_, rfl⟩
          simp only [hR4] at hN4 hKR
          simp only [Prod.mk.injEq] at hKR
          obtain ⟨hk1, hk2⟩ := hKR
          subst hk1
          have hk3 := congrFun (congrFun hKD (.slice none 0 0)) (.slice none 0 0)
          simp only [stVD, sD, List.cons.injEq, Value.bool.injEq, Value.string.injEq, Value.int.injEq, true_and, and_true] at hk3
          obtain ⟨rfl, rfl, hkdo, hkun, rfl, rfl⟩ := hk3
          rw [hkdo] at hN1
          rw [hkun] at hN2
          subst hk2
          clear hKD hkdo hkun hR1 hR2 hR3 hR4
          go_upto_region 10 with (first
            | (go_at_call 34; refine hI1.mono ?_; rintro e w7 ⟨rfl, hp7, hf7⟩))
          go_upto_region 13 with (first
            | (go_at_call 34; refine (hI2 _ hp7).mono ?_; rintro e w8 ⟨rfl, hp8, hf8⟩))
          go_upto_region 15 with (first
            | (go_at_call 34; refine (hI3 _ hp8).mono ?_; rintro e w9 ⟨rfl, hp9, hf9⟩)
            | (go_at_call 31; refine (hT1 _ hp9).mono ?_; rintro e wa ⟨⟨u, rfl⟩, hpa, hfa⟩))
          have hfa4 := ((hf7.trans hf8).trans hf9).trans hfa
          have hBa := hB6.fx hfa4 (by omega)
          have hAa := hA6.fx hfa4 (by omega)
          have hFa := hF6.trans hfa4
          have hTa := hTy.fx hFa
          have hsa := Nat.le_trans hs6 hfa4.size
          clear hB6 hA6 hF6 hT6 hs6 hp6 hp7 hf7 hp8 hf8 hp9 hf9 hfa hfa4 hI1 hI2 hI3 hT1
          go_upto_region 16 with (first
            | (go_at_call 32; refine (hN1 _ hpa hTa).mono ?_; rintro e wka ⟨rfl, hpka, hfka⟩; have hBka := hBa.fx hfka (by omega); obtain ⟨yka, zka⟩ := hBka 5 _ rfl))
          have hAkb := (hAa.fx hfka (by omega)).far (X := w.heap.size + 1) (i := 5) (by omega) (.string kdo)
          have hBkb := hBka.set (i := 5) (by simp) (.string kdo)
          have hpkb := hpka.far (Y := w.heap.size + 1) (i := 5) (by omega) (.string kdo)
          have hFkb := (hFa.trans hfka).setN (N := w.heap.size + 1) (i := 5) (by omega) (.string kdo)
          have hTkb := hTy.fx hFkb
          have hskb : w.heap.size + 2 ≤ (wka.setCell ⟨w.heap.size + 1, 5, none⟩ (.string kdo)).heap.size := by simpa using Nat.le_trans hsa hfka.size
          clear hAa hBa hpa hFa hTa hsa hBka hpka hfka yka zka
          generalize wka.setCell ⟨w.heap.size + 1, 5, none⟩ (.string kdo) = wkb at *
          go_upto_region 17 with (first
            | (go_at_call 31; refine (hT2 _ hpkb).mono ?_; rintro e wkc ⟨⟨u, rfl⟩, hpkc, hfkc⟩))
          have hAkc := hAkb.fx hfkc (by omega)
          have hBkc := hBkb.fx hfkc (by omega)
          have hFkc := hFkb.trans hfkc
          have hTkc := hTkb.fx hfkc
          have hskc := Nat.le_trans hskb hfkc.size
          clear hAkb hBkb hpkb hFkb hTkb hskb hfkc
          go_upto_region 18 with (first
            | (go_at_call 32; refine (hN2 _ hpkc hTkc).mono ?_; rintro e wkd ⟨rfl, hpkd, hfkd⟩; have hBkd := hBkc.fx hfkd (by omega); obtain ⟨ykd, zkd⟩ := hBkd 6 _ rfl))
          have hAke := (hAkc.fx hfkd (by omega)).far (X := w.heap.size + 1) (i := 6) (by omega) (.string kun)
          have hBke := hBkd.set (i := 6) (by simp) (.string kun)
          have hpke := hpkd.far (Y := w.heap.size + 1) (i := 6) (by omega) (.string kun)
          have hFke := (hFkc.trans hfkd).setN (N := w.heap.size + 1) (i := 6) (by omega) (.string kun)
          have hTke := hTy.fx hFke
          have hske : w.heap.size + 2 ≤ (wkd.setCell ⟨w.heap.size + 1, 6, none⟩ (.string kun)).heap.size := by simpa using Nat.le_trans hskc hfkd.size
          clear hAkc hBkc hpkc hFkc hTkc hskc hBkd hpkd hfkd ykd zkd
          generalize wkd.setCell ⟨w.heap.size + 1, 6, none⟩ (.string kun) = wke at *
          go_upto_region 19 with (first
            | (go_at_call 31; refine (hT3 _ hpke).mono ?_; rintro e wkf ⟨⟨u, rfl⟩, hpkf, hfkf⟩))
          have hAkf := hAke.fx hfkf (by omega)
          have hBkf := hBke.fx hfkf (by omega)
          have hFkf := hFke.trans hfkf
          have hTkf := hTke.fx hfkf
          have hskf := Nat.le_trans hske hfkf.size
          clear hAke hBke hpke hFke hTke hske hfkf
          go_upto_region 20 with (first
            | (go_at_call 33; refine (hN3 _ hpkf).mono ?_; rintro e wkg ⟨rfl, hpkg, hfkg⟩; have hBkg := hBkf.fx hfkg (by omega); obtain ⟨ykg, zkg⟩ := hBkg 7 _ rfl))
          have hAkh := (hAkf.fx hfkg (by omega)).far (X := w.heap.size + 1) (i := 7) (by omega) (.int .i64 n1)
          have hBkh := hBkg.set (i := 7) (by simp) (.int .i64 n1)
          have hpkh := hpkg.far (Y := w.heap.size + 1) (i := 7) (by omega) (.int .i64 n1)
          have hFkh := (hFkf.trans hfkg).setN (N := w.heap.size + 1) (i := 7) (by omega) (.int .i64 n1)
          have hTkh := hTy.fx hFkh
          have hskh : w.heap.size + 2 ≤ (wkg.setCell ⟨w.heap.size + 1, 7, none⟩ (.int .i64 n1)).heap.size := by simpa using Nat.le_trans hskf hfkg.size
          clear hAkf hBkf hpkf hFkf hTkf hskf hBkg hpkg hfkg ykg zkg
          generalize wkg.setCell ⟨w.heap.size + 1, 7, none⟩ (.int .i64 n1) = wkh at *
          go_upto_region 21 with (first
            | (go_at_call 31; refine (hT4 _ hpkh).mono ?_; rintro e wla ⟨⟨u, rfl⟩, hpla, hfla⟩))
          have hAla := hAkh.fx hfla (by omega)
          have hBla := hBkh.fx hfla (by omega)
          have hFla := hFkh.trans hfla
          have hTla := hTkh.fx hfla
          have hsla := Nat.le_trans hskh hfla.size
          clear hAkh hBkh hpkh hFkh hTkh hskh hfla
          go_wp2_with (first
            | (go_at_call 33; refine (hN4 _ hpla).mono ?_; rintro e wlb ⟨rfl, hplb, hflb⟩; have hBlb := hBla.fx hflb (by omega); obtain ⟨ylb, zlb⟩ := hBlb 8 _ rfl))
          go_meet
          case rel => exact ⟨hplb.far (by omega) _, hBlb.set (i := 8) (by simp) (.int .i64 n2), (hAla.fx hflb (by omega)).far (by omega) _, (hFla.trans hflb).setN (by omega) _, by simpa using Nat.le_trans hsla hflb.size⟩
        | false =>
          rw [h3] at hI3
          rw [h3, if_neg (by decide)] at hKR
          simp only [Prod.mk.injEq] at hKR
          obtain ⟨hk1, hk2⟩ := hKR
          subst hk1
          subst hk2
          have hk3 := congrFun (congrFun hKD (.slice none 0 0)) (.slice none 0 0)
          simp only [stVD, sD, List.cons.injEq, Value.bool.injEq, Value.string.injEq, Value.int.injEq, true_and, and_true] at hk3
          obtain ⟨rfl, rfl, rfl, rfl, rfl, rfl⟩ := hk3
          clear hKD
          go_upto_region 10 with (first
            | (go_at_call 34; refine hI1.mono ?_; rintro e w7 ⟨rfl, hp7, hf7⟩))
          go_upto_region 13 with (first
            | (go_at_call 34; refine (hI2 _ hp7).mono ?_; rintro e w8 ⟨rfl, hp8, hf8⟩))
          go_wp2_with (first
            | (go_at_call 34; refine (hI3 _ hp8).mono ?_; rintro e w9 ⟨rfl, hp9, hf9⟩))
          have hf79 := (hf7.trans hf8).trans hf9
          go_meet
          case rel => exact ⟨hp9, hB6.fx hf79 (by omega), hA6.fx hf79 (by omega), hF6.trans hf79, Nat.le_trans hs6 hf79.size⟩
  case rest =>
    clear hA6 hB6 hp6 hT6 hF6 hs6 hNa hNu HR2
    obtain ⟨hp7, hB7, hA7, hF7, hs7⟩ := hcut
    have hl7 := hp7.len
    go_wp2
    go_loopw [] (fun wr => ∃ (g : Nat) (os : List OnC) (ss : List (St (k + 1))) (q : RsC) (slo sli : Value), DR wr X fin q ∧ Hid (inR fin (stR fin k) g os ss q = OUT) ∧ (q.2.2 = 0 → q.1.length < g) ∧ os.length + ss.length + q.1.length + er0 wr X ≤ 3001 ∧
      Bn wr (w.heap.size + 1) [.string nv, .int .i64 ln, .int .i64 co, .bool kb, .bool ke, .string kdo, .string kun, .int .i64 kw, .int .i64 kr, slo, sli] ∧ OwnB wr (w.heap.size + 2) (fun b => sli.ownBlock = some b) 135 10 rOnD slo os ∧ OwnB wr (w.heap.size + 2) (fun b => slo.ownBlock = some b) 76 11 (rStD (k + 1)) sli ss ∧ Bn wr w.heap.size zDl ∧ Fx X w wr ∧ w.heap.size + 2 ≤ wr.heap.size) (fun wr => 2 * ln0 wr X + er0 wr X)
    case atStart =>
      have hq := hp7.er
      refine ⟨_, [], [], r4, _, _, hp7, HO, fun _ => Nat.lt_succ_self _, ?_, hB7, ownB_nil _ _ _ _ _ _, ownB_nil _ _ _ _ _ _, hA7, hF7, hs7⟩
      have : er0 wc X ≤ 1 := by rw [hq]; split <;> omega
      simp only [List.length_nil]
      omega
    case round =>
      clear hA7 hB7 hp7 hF7 hs7 HO hl7
      obtain ⟨g, os, ss, q, slo, sli, hp, ho, hgl, hal, hB, hOo, hOi, hA, hF, hsz⟩ := hrel
      have hm1 := hp.left
      have hq1 := hp.er
      have hXb : X < w.heap.size + 2 := by omega
      have c5 := hp.c5
      obtain ⟨va, vc, rfl, hvl, hvm⟩ := hOo.form
      obtain ⟨ua, uc, rfl, hul, hum⟩ := hOi.form
      by_cases hz : q.2.2 = 0
      · obtain ⟨g', rfl⟩ : ∃ g', g = g' + 1 := ⟨g - 1, by have := hgl hz; omega⟩
        have hgl2 := hgl hz
        rw [if_pos hz] at hq1
        rw [hz] at c5
        have hI1 := hIs _ q [125] hp
        have hI2 := fun w1 (hp : DR w1 X fin q) => hIs w1 q wOn hp
        rw [e2] at hI2
        have hout := ho.out
        unfold inR at hout
        cases hi0 : isC [125] q with
        | true =>
          rw [hi0] at hI1
          rw [if_neg (by rw [hi0]; simp)] at hout
          have HOUT : Hid (((os, ss), q) = OUT) := hout
          have hM4 := fun w1 (hp : DR w1 X fin q) => hTk w1 _ [125] hp
          clear hout ho hT hI hIs
          go_upto_region 26 with (first
            | (go_at_call 34; refine hI1.mono ?_; rintro e w9 ⟨rfl, hp9, hf9⟩))
          have hB9 := hB.fx hf9 (by omega)
          have hA9 := hA.fx hf9 (by omega)
          have hOo9 := hOo.fx kp_onD hf9 hXb
          have hOi9 := hOi.fx (kp_stD _) hf9 hXb
          have hF9 := hF.trans hf9
          clear hB hA hF hf9 hp hOo hOi hI1 c5 hsz
          go_upto_region 27 with (first
            | (go_at_call 31; refine (hM4 _ hp9).mono ?_; rintro e wa ⟨⟨u, rfl⟩, hpa, hfa⟩))
          have hBa := hB9.fx hfa (by omega)
          have hAa := hA9.fx hfa (by omega)
          have hFa := hF9.trans hfa
          have hOoa := hOo9.fx kp_onD hfa hXb
          have hOia := hOi9.fx (kp_stD _) hfa hXb
          clear hp9 hB9 hA9 hF9 hfa hOo9 hOi9
          obtain ⟨b0, g0⟩ := hBa 0 _ rfl
          obtain ⟨b1, g1⟩ := hBa 1 _ rfl
          obtain ⟨b2, g2⟩ := hBa 2 _ rfl
          obtain ⟨b3, g3⟩ := hBa 3 _ rfl
          obtain ⟨b4, g4⟩ := hBa 4 _ rfl
          obtain ⟨b5, g5⟩ := hBa 5 _ rfl
          obtain ⟨b6, g6⟩ := hBa 6 _ rfl
          obtain ⟨b7, g7⟩ := hBa 7 _ rfl
          obtain ⟨b8, g8⟩ := hBa 8 _ rfl
          obtain ⟨b9, g9⟩ := hBa 9 _ rfl
          obtain ⟨b10, g10⟩ := hBa 10 _ rfl
          obtain ⟨a0, k0⟩ := hAa 0 _ rfl
          obtain ⟨a1, k1⟩ := hAa 1 _ rfl
          obtain ⟨a2, k2⟩ := hAa 2 _ rfl
          obtain ⟨a3, k3⟩ := hAa 3 _ rfl
          obtain ⟨a4, k4⟩ := hAa 4 _ rfl
          obtain ⟨a5, k5⟩ := hAa 5 _ rfl
          obtain ⟨a6, k6⟩ := hAa 6 _ rfl
          obtain ⟨a7, k7⟩ := hAa 7 _ rfl
          obtain ⟨a8, k8⟩ := hAa 8 _ rfl
          obtain ⟨a9, k9⟩ := hAa 9 _ rfl
          obtain ⟨a10, k10⟩ := hAa 10 _ rfl
          have hAz := (((((((((((hAa.set (i := 0) (by simp) (.string nv)).set (i := 1) (by simp) (.int .i64 ln)).set (i := 2) (by simp) (.int .i64 co)).set (i := 3) (by simp) (.bool kb)).set (i := 4) (by simp) (.bool ke)).set (i := 5) (by simp) (.string kdo)).set (i := 6) (by simp) (.string kun)).set (i := 7) (by simp) (.int .i64 kw)).set (i := 8) (by simp) (.int .i64 kr)).set (i := 9) (by simp) (.slice va os.length vc)).set (i := 10) (by simp) (.slice ua ss.length uc))
          have hpz := (((((((((((hpa.far (Y := w.heap.size) (i := 0) (by omega) (.string nv)).far (Y := w.heap.size) (i := 1) (by omega) (.int .i64 ln)).far (Y := w.heap.size) (i := 2) (by omega) (.int .i64 co)).far (Y := w.heap.size) (i := 3) (by omega) (.bool kb)).far (Y := w.heap.size) (i := 4) (by omega) (.bool ke)).far (Y := w.heap.size) (i := 5) (by omega) (.string kdo)).far (Y := w.heap.size) (i := 6) (by omega) (.string kun)).far (Y := w.heap.size) (i := 7) (by omega) (.int .i64 kw)).far (Y := w.heap.size) (i := 8) (by omega) (.int .i64 kr)).far (Y := w.heap.size) (i := 9) (by omega) (.slice va os.length vc)).far (Y := w.heap.size) (i := 10) (by omega) (.slice ua ss.length uc))
          have hFz := (((((((((((hFa.setN (N := w.heap.size) (i := 0) (Nat.le_refl _) (.string nv)).setN (N := w.heap.size) (i := 1) (Nat.le_refl _) (.int .i64 ln)).setN (N := w.heap.size) (i := 2) (Nat.le_refl _) (.int .i64 co)).setN (N := w.heap.size) (i := 3) (Nat.le_refl _) (.bool kb)).setN (N := w.heap.size) (i := 4) (Nat.le_refl _) (.bool ke)).setN (N := w.heap.size) (i := 5) (Nat.le_refl _) (.string kdo)).setN (N := w.heap.size) (i := 6) (Nat.le_refl _) (.string kun)).setN (N := w.heap.size) (i := 7) (Nat.le_refl _) (.int .i64 kw)).setN (N := w.heap.size) (i := 8) (Nat.le_refl _) (.int .i64 kr)).setN (N := w.heap.size) (i := 9) (Nat.le_refl _) (.slice va os.length vc)).setN (N := w.heap.size) (i := 10) (Nat.le_refl _) (.slice ua ss.length uc))
          have hOoz := (((((((((((hOoa.set kp_onD (X := w.heap.size) (i := 0) (by omega) (.string nv)).set kp_onD (X := w.heap.size) (i := 1) (by omega) (.int .i64 ln)).set kp_onD (X := w.heap.size) (i := 2) (by omega) (.int .i64 co)).set kp_onD (X := w.heap.size) (i := 3) (by omega) (.bool kb)).set kp_onD (X := w.heap.size) (i := 4) (by omega) (.bool ke)).set kp_onD (X := w.heap.size) (i := 5) (by omega) (.string kdo)).set kp_onD (X := w.heap.size) (i := 6) (by omega) (.string kun)).set kp_onD (X := w.heap.size) (i := 7) (by omega) (.int .i64 kw)).set kp_onD (X := w.heap.size) (i := 8) (by omega) (.int .i64 kr)).set kp_onD (X := w.heap.size) (i := 9) (by omega) (.slice va os.length vc)).set kp_onD (X := w.heap.size) (i := 10) (by omega) (.slice ua ss.length uc))
          have hOiz := (((((((((((hOia.set (kp_stD _) (X := w.heap.size) (i := 0) (by omega) (.string nv)).set (kp_stD _) (X := w.heap.size) (i := 1) (by omega) (.int .i64 ln)).set (kp_stD _) (X := w.heap.size) (i := 2) (by omega) (.int .i64 co)).set (kp_stD _) (X := w.heap.size) (i := 3) (by omega) (.bool kb)).set (kp_stD _) (X := w.heap.size) (i := 4) (by omega) (.bool ke)).set (kp_stD _) (X := w.heap.size) (i := 5) (by omega) (.string kdo)).set (kp_stD _) (X := w.heap.size) (i := 6) (by omega) (.string kun)).set (kp_stD _) (X := w.heap.size) (i := 7) (by omega) (.int .i64 kw)).set (kp_stD _) (X := w.heap.size) (i := 8) (by omega) (.int .i64 kr)).set (kp_stD _) (X := w.heap.size) (i := 9) (by omega) (.slice va os.length vc)).set (kp_stD _) (X := w.heap.size) (i := 10) (by omega) (.slice ua ss.length uc))
          clear hBa hAa hpa hFa hOoa hOia
          go_wp2
          refine bodyPost_ret (dstate_res hAz rfl) rfl ?_
          have hr := HRES.out
          have hoo := HOUT.out
          have hv := HNV.out
          have hkd := HKD.out
          subst hoo
          subst hr
          subst hv
          exact ⟨⟨_, rfl, _, _, (congrFun (congrFun hkd _) _).symm, (hOoz.rd kp_onD).low kp_onD (by omega), (hOiz.rd (kp_stD _)).low (kp_stD _) (by omega)⟩, hpz, hFz⟩
        | false =>
          rw [hi0] at hI1
          rw [if_pos (⟨hz, hi0⟩ : q.2.2 = 0 ∧ isC [125] q = false)] at hout
          cases hi1 : isC wOn q with
          | true =>
            rw [hi1] at hI2
            rw [if_pos hi1] at hout
            have hT1 := fun w1 (hp : DR w1 X fin q) (ht : Ty w1 X) => hT w1 _ hp ht
            have hlt := on_less (fin := fin) hi1
            obtain ⟨⟨o1, q2⟩, hS1⟩ : ∃ x, onR fin q = x := ⟨_, rfl⟩
            simp only [hS1] at hT1 hout hlt
            have HOUT : Hid (inR fin (stR fin k) g' (os ++ [o1]) ss q2 = OUT) := hout
            obtain ⟨ev, gb, tg, ol, oc, hov⟩ : ∃ ev gb tg ol oc, ∀ c0 c1 c2 c3 sl, [sD o1.1, .bool o1.2.1.1, c0, c1, c2, c3, sD o1.2.2.1, sl, .int .i64 o1.2.2.2.2.1, .int .i64 o1.2.2.2.2.2] = [.string ev, .bool gb, c0, c1, c2, c3, .string tg, sl, .int .i64 ol, .int .i64 oc] := ⟨_, _, _, _, _, fun _ _ _ _ _ => rfl⟩
            have hT2 : ∀ w1, DR w1 X fin q → Ty w1 X → Calls Tryz.prog 79 #[.pointer (some ⟨X, 0, none⟩)] w1 fun e w' => (∃ x1 x2 x3 x4 x5 x6 sa sn sc, e = .returned (.agg #[.string ev, .bool gb, .int .i64 x1, .int .i64 x2, .string x3, .slice x4 x5 x6, .string tg, .slice sa sn sc, .int .i64 ol, .int .i64 oc]) ∧ rOnD (fun b => w1.heap.size ≤ b) w' o1 [.string ev, .bool gb, .int .i64 x1, .int .i64 x2, .string x3, .slice x4 x5 x6, .string tg, .slice sa sn sc, .int .i64 ol, .int .i64 oc]) ∧ DR w' X fin q2 ∧ Fx X w1 w' := fun w1 hp1 ht1 => (hT1 w1 hp1 ht1).mono (fun e w' hh => by
              obtain ⟨⟨cs, h1, c0, c1, c2, c3, sl, h2, h3, h4⟩, h5, h6⟩ := hh
              obtain ⟨x1, x2, x3, x4, x5, x6, he⟩ := h3.form
              simp only [Value.agg.injEq, Array.mk.injEq, List.cons.injEq, and_true] at he
              obtain ⟨rfl, rfl, rfl, rfl⟩ := he
              obtain ⟨sa, sc, rfl, _⟩ := h4.form
              refine ⟨⟨x1, x2, x3, x4, x5, x6, sa, _, sc, ?_, ⟨_, _, _, _, _, (hov _ _ _ _ _).symm, h3, h4⟩⟩, h5, h6⟩
              rw [h1, h2, hov])
            clear hS1 hout hT1 ho hov hT hI hIs hTk
            go_upto_region 24 with (first
              | (go_at_call 34; refine hI1.mono ?_; rintro e w8 ⟨rfl, hp8, hf8⟩; have hI2' := hI2 _ hp8; clear hI1)
              | (go_at_call 34; refine hI2'.mono ?_; rintro e w9 ⟨rfl, hp9, hf9a⟩))
            have hf9 := hf8.trans hf9a
            have hB9 := hB.fx hf9 (by omega)
            have hA9 := hA.fx hf9 (by omega)
            have hOo9 := hOo.fx kp_onD hf9 hXb
            have hOi9 := hOi.fx (kp_stD _) hf9 hXb
            have hF9 := hF.trans hf9
            have hT9 := hTy.fx hF9
            have hs9 := Nat.le_trans hsz hf9.size
            have hp9d := hp9.on ((Below.refl w9.heap.size w9).drew)
            have hT9d := hT9.on ((Below.refl w9.heap.size w9).drew)
            clear hB hA hOo hOi hF hf9 hf8 hf9a hsz hp hp8 hI2 hI2' hp9 hT9 c5
            obtain ⟨k3, z3⟩ := hB9 9 _ rfl
            go_region_law (first
              | (refine step_pushB wa rfl _ _ 74 rfl (w.heap.size + 2) (fun b => (Value.slice ua ss.length uc).ownBlock = some b) 135 io (.agg #[.string ⟨#[]⟩, .bool false, .int .i64 0, .int .i64 0, .string ⟨#[]⟩, .slice none 0 0, .string ⟨#[]⟩, .slice none 0 0, .int .i64 0, .int .i64 0]) 10 136 Tryz.underlying74 hio hio0 hio1 hio2 rfl kp_onD (.slice va os.length vc) os o1 [.string ev, .bool gb, .int .i64 x1, .int .i64 x2, .string x3, .slice x4 x5 x6, .string tg, .slice sa sn sc, .int .i64 ol, .int .i64 oc] w9.heap.size rfl rfl rfl (by simp [Value.oneCell']) hOoa hra hs9 (fun x hx => (hOo9.lt x hx).2) (fun b hb => ⟨(hOi9.lt b hb).2, (hOia.lt b hb).2⟩) (by omega) (by unfold maxLen; omega) hsa ?_; intro vb wb hOb hgb hbb hat; have hBb := hBa.blk (hbb.block _ (by omega)); have hAb := hAa.blk (hbb.block _ (by omega)); have hpb := hpa.belowB hbb (by omega); have hFb := hFa.andD hbb (by omega); have hXb2 := (hOia.on (kp_stD _) hali).other (kp_stD _) hgb hat; obtain ⟨m5, n5⟩ := hBb 9 _ rfl; obtain ⟨vba, vbc, hvb, hvbl, hvbm⟩ := hOb.form; rw [List.length_append, List.length_singleton] at hvb; subst hvb)
              | (go_simp; (with_reducible refine (hT2 _ hp9d hT9d).mono ?_); rintro e wa ⟨⟨x1, x2, x3, x4, x5, x6, sa, sn, sc, rfl, hra⟩, hpa, hfa⟩; have hfa' := ((Fx.refl X w9).drew).trans hfa; have hBa := hB9.fx hfa' (by omega); have hAa := hA9.fx hfa' (by omega); have hOoa := hOo9.fx kp_onD hfa' hXb; have hOia := hOi9.fx (kp_stD _) hfa' hXb; have hFa := hF9.trans hfa'; have hsa := Nat.le_trans hs9 hfa'.size; obtain ⟨m3, n3⟩ := hBa 9 _ rfl; have hali := (Below.refl wa.heap.size wa).alloc (Nat.le_refl _) (.cells #[.string ev, .bool gb, .int .i64 x1, .int .i64 x2, .string x3, .slice x4 x5 x6, .string tg, .slice sa sn sc, .int .i64 ol, .int .i64 oc] 135); have m4 := ((hBa.on hali) 9 _ rfl).1)
              | fail)
            all_goals (
              have hBc := hBb.set (i := 9) (by simp) (.slice vba (os.length + 1) vbc)
              have hAc := hAb.far (X := w.heap.size + 1) (i := 9) (by omega) (.slice vba (os.length + 1) vbc)
              have hOoc := hOb.set kp_onD (X := w.heap.size + 1) (i := 9) (by omega) (.slice vba (os.length + 1) vbc)
              have hOic := hXb2.set (kp_stD _) (X := w.heap.size + 1) (i := 9) (by omega) (.slice vba (os.length + 1) vbc)
              have hpc := hpb.far (Y := w.heap.size + 1) (i := 9) (by omega) (.slice vba (os.length + 1) vbc)
              have hFc := hFb.setN (N := w.heap.size + 1) (i := 9) (by omega) (.slice vba (os.length + 1) vbc)
              have hsc : w.heap.size + 2 ≤ (wb.setCell ⟨w.heap.size + 1, 9, none⟩ (.slice vba (os.length + 1) vbc)).heap.size := by simpa using Nat.le_trans hsa hbb.size
              have hm2 := hpc.left
              have hq2 := hpc.er
              have hlc : (os ++ [o1]).length = os.length + 1 := by simp
              have hq3 : er0 (wb.setCell ⟨w.heap.size + 1, 9, none⟩ (.slice vba (os.length + 1) vbc)) X ≤ 1 := by rw [hq2]; split <;> omega
              have hmq : os.length + 1 + ss.length + q2.1.length + er0 (wb.setCell ⟨w.heap.size + 1, 9, none⟩ (.slice vba (os.length + 1) vbc)) X ≤ 3001 ∧ 2 * q2.1.length + er0 (wb.setCell ⟨w.heap.size + 1, 9, none⟩ (.slice vba (os.length + 1) vbc)) X < 2 * q.1.length + 1 := by omega
              have hgq : q2.2.2 = 0 → q2.1.length < g' := fun _ => by omega
              clear hBa hAa hOoa hOia hpa hFa hfa hfa' hsa m3 n3 hali m4 hBb hAb hOb hXb2 hpb hFb hgb hbb hat k3 z3 hra hq2
              go_wp2
              go_roundw
              case rel => exact ⟨g', os ++ [o1], ss, q2, _, _, hpc, HOUT, hgq, by omega, hBc, hOoc, hOic, hAc, hFc, hsc⟩
              case measure => omega)
          | false =>
            rw [hi1] at hI2
            rw [if_neg (by rw [hi1]; decide)] at hout
            have hI3 := fun w1 (hp : DR w1 X fin q) (ht : Ty w1 X) => hI w1 q hp ht
            obtain ⟨hgo1, hgo2⟩ := goes_st fin k q
            obtain ⟨⟨s1, q2⟩, hS⟩ : ∃ x, stR fin k q = x := ⟨_, rfl⟩
            simp only [hS] at hI3 hout hgo1 hgo2
            have hgo3 := hgo1.1
            have HOUT : Hid (inR fin (stR fin k) g' os (ss ++ [s1]) q2 = OUT) := hout
            obtain ⟨sn, sl, sc, sb, se, sd, su, sw, sr, hsv⟩ : ∃ sn sl sc sb se sd su sw sr, hdD s1.1 = fun so si => [.string sn, .int .i64 sl, .int .i64 sc, .bool sb, .bool se, .string sd, .string su, .int .i64 sw, .int .i64 sr, so, si] := ⟨_, _, _, _, _, _, _, _, _, rfl⟩
            have hI4 : ∀ w1, DR w1 X fin q → Ty w1 X → Calls Tryz.prog 35 #[.pointer (some ⟨X, 0, none⟩), .int .i64 (dp + 1)] w1 fun e w' => (∃ p1 p2 p3 p4 p5 p6, e = .returned (.agg #[.string sn, .int .i64 sl, .int .i64 sc, .bool sb, .bool se, .string sd, .string su, .int .i64 sw, .int .i64 sr, .slice p1 p2 p3, .slice p4 p5 p6]) ∧ rStD (k + 1) (fun b => w1.heap.size ≤ b) w' s1 [.string sn, .int .i64 sl, .int .i64 sc, .bool sb, .bool se, .string sd, .string su, .int .i64 sw, .int .i64 sr, .slice p1 p2 p3, .slice p4 p5 p6]) ∧ DR w' X fin q2 ∧ Fx X w1 w' := fun w1 hp1 ht1 => (hI3 w1 hp1 ht1).mono (fun e w' hh => by
              obtain ⟨⟨cs, h1, so, si, h2, h3, h4⟩, h5, h6⟩ := hh
              obtain ⟨p1, p3, rfl, _⟩ := h3.form
              obtain ⟨p4, p6, rfl, _⟩ := h4.form
              refine ⟨⟨p1, s1.1.2.2.2.2.length, p3, p4, s1.2.length, p6, ?_, ⟨_, _, ?_, h3, h4⟩⟩, h5, h6⟩
              · rw [h1, h2, hsv]
              · rw [hsv])
            clear hS hout hI3 ho hsv hT hI hIs hTk hgo1
            go_upto_region 25 with (first
              | (go_at_call 34; refine hI1.mono ?_; rintro e w8 ⟨rfl, hp8, hf8⟩; have hI2' := hI2 _ hp8; clear hI1)
              | (go_at_call 34; refine hI2'.mono ?_; rintro e w9 ⟨rfl, hp9, hf9a⟩))
            have hf9 := hf8.trans hf9a
            have hI2 := hI4
            have hB9 := hB.fx hf9 (by omega)
            have hA9 := hA.fx hf9 (by omega)
            have hOo9 := hOo.fx kp_onD hf9 hXb
            have hOi9 := hOi.fx (kp_stD _) hf9 hXb
            have hF9 := hF.trans hf9
            have hT9 := hTy.fx hF9
            have hs9 := Nat.le_trans hsz hf9.size
            have hp9d := hp9.on ((Below.refl w9.heap.size w9).drew)
            have hT9d := hT9.on ((Below.refl w9.heap.size w9).drew)
            clear hB hA hOo hOi hF hf9 hf8 hf9a hsz hp hp8 hI2' hp9 hT9 c5
            obtain ⟨k3, z3⟩ := hB9 10 _ rfl
            go_region_law (first
              | (refine step_pushB wa rfl _ _ 33 rfl (w.heap.size + 2) (fun b => (Value.slice va os.length vc).ownBlock = some b) 76 it (.agg #[.string ⟨#[]⟩, .int .i64 0, .int .i64 0, .bool false, .bool false, .string ⟨#[]⟩, .string ⟨#[]⟩, .int .i64 0, .int .i64 0, .slice none 0 0, .slice none 0 0]) 11 136 Tryz.underlying33 hit hit0 hit1 hit2 rfl (kp_stD _) (.slice ua ss.length uc) ss s1 [.string sn, .int .i64 sl, .int .i64 sc, .bool sb, .bool se, .string sd, .string su, .int .i64 sw, .int .i64 sr, .slice p1 p2 p3, .slice p4 p5 p6] w9.heap.size rfl rfl rfl (by simp [Value.oneCell']) hOia hra hs9 (fun x hx => (hOi9.lt x hx).2) (fun b hb => ⟨(hOo9.lt b hb).2, (hOoa.lt b hb).2⟩) (by omega) (by unfold maxLen; omega) hsa ?_; intro vb wb hOb hgb hbb hat; have hBb := hBa.blk (hbb.block _ (by omega)); have hAb := hAa.blk (hbb.block _ (by omega)); have hpb := hpa.belowB hbb (by omega); have hFb := hFa.andD hbb (by omega); have hXb2 := (hOoa.on kp_onD hali).other kp_onD hgb hat; obtain ⟨m5, n5⟩ := hBb 10 _ rfl; obtain ⟨vba, vbc, hvb, hvbl, hvbm⟩ := hOb.form; rw [List.length_append, List.length_singleton] at hvb; subst hvb)
              | (go_simp; (with_reducible refine (hI2 _ hp9d hT9d).mono ?_); rintro e wa ⟨⟨p1, p2, p3, p4, p5, p6, rfl, hra⟩, hpa, hfa⟩; have hfa' := ((Fx.refl X w9).drew).trans hfa; have hBa := hB9.fx hfa' (by omega); have hAa := hA9.fx hfa' (by omega); have hOoa := hOo9.fx kp_onD hfa' hXb; have hOia := hOi9.fx (kp_stD _) hfa' hXb; have hFa := hF9.trans hfa'; have hsa := Nat.le_trans hs9 hfa'.size; obtain ⟨m3, n3⟩ := hBa 10 _ rfl; have hali := (Below.refl wa.heap.size wa).alloc (Nat.le_refl _) (.cells #[.string sn, .int .i64 sl, .int .i64 sc, .bool sb, .bool se, .string sd, .string su, .int .i64 sw, .int .i64 sr, .slice p1 p2 p3, .slice p4 p5 p6] 76); have m4 := ((hBa.on hali) 10 _ rfl).1)
              | fail)
            all_goals (
              have hBc := hBb.set (i := 10) (by simp) (.slice vba (ss.length + 1) vbc)
              have hAc := hAb.far (X := w.heap.size + 1) (i := 10) (by omega) (.slice vba (ss.length + 1) vbc)
              have hOoc := hXb2.set kp_onD (X := w.heap.size + 1) (i := 10) (by omega) (.slice vba (ss.length + 1) vbc)
              have hOic := hOb.set (kp_stD _) (X := w.heap.size + 1) (i := 10) (by omega) (.slice vba (ss.length + 1) vbc)
              have hpc := hpb.far (Y := w.heap.size + 1) (i := 10) (by omega) (.slice vba (ss.length + 1) vbc)
              have hFc := hFb.setN (N := w.heap.size + 1) (i := 10) (by omega) (.slice vba (ss.length + 1) vbc)
              have hsc : w.heap.size + 2 ≤ (wb.setCell ⟨w.heap.size + 1, 10, none⟩ (.slice vba (ss.length + 1) vbc)).heap.size := by simpa using Nat.le_trans hsa hbb.size
              have hm2 := hpc.left
              have hq2 := hpc.er
              have hlc : (ss ++ [s1]).length = ss.length + 1 := by simp
              have hmq : os.length + (ss.length + 1) + q2.1.length + er0 (wb.setCell ⟨w.heap.size + 1, 10, none⟩ (.slice vba (ss.length + 1) vbc)) X ≤ 3001 ∧ 2 * q2.1.length + er0 (wb.setCell ⟨w.heap.size + 1, 10, none⟩ (.slice vba (ss.length + 1) vbc)) X < 2 * q.1.length + 1 := by
                rw [hq2]
                by_cases hz2 : q2.2.2 = 0
                · rw [if_pos hz2]; have := hgo2 hz2; omega
                · rw [if_neg hz2]; omega
              have hgq : q2.2.2 = 0 → q2.1.length < g' := fun hz2 => by have := hgo2 hz2; omega
              clear hBa hAa hOoa hOia hpa hFa hfa hfa' hsa m3 n3 hali m4 hBb hAb hOb hXb2 hpb hFb hgb hbb hat k3 z3 hra hq2
              go_wp2
              go_roundw
              case rel => exact ⟨g', os, ss ++ [s1], q2, _, _, hpc, HOUT, hgq, by omega, hBc, hOoc, hOic, hAc, hFc, hsc⟩
              case measure => omega)
      · have hout := ho.out
        rw [in_err hz] at hout
        have i5 : (q.2.2 == 0) = false := by simpa using hz
        have HOUT : Hid (((os, ss), q) = OUT) := hout
        have hM4 := fun w1 (hp : DR w1 X fin q) => hTk w1 _ [125] hp
        clear hout ho hT hI hIs
        have hB9 := hB
        have hA9 := hA
        have hOo9 := hOo
        have hOi9 := hOi
        have hF9 := hF
        have hp9 := hp
        clear hB hA hOo hOi hF hp hsz
        go_upto_region 27 with (first
          | (go_at_call 31; refine (hM4 _ hp9).mono ?_; rintro e wa ⟨⟨u, rfl⟩, hpa, hfa⟩))
        have hBa := hB9.fx hfa (by omega)
        have hAa := hA9.fx hfa (by omega)
        have hFa := hF9.trans hfa
        have hOoa := hOo9.fx kp_onD hfa hXb
        have hOia := hOi9.fx (kp_stD _) hfa hXb
        clear hp9 hB9 hA9 hF9 hfa hOo9 hOi9
        obtain ⟨b0, g0⟩ := hBa 0 _ rfl
        obtain ⟨b1, g1⟩ := hBa 1 _ rfl
        obtain ⟨b2, g2⟩ := hBa 2 _ rfl
        obtain ⟨b3, g3⟩ := hBa 3 _ rfl
        obtain ⟨b4, g4⟩ := hBa 4 _ rfl
        obtain ⟨b5, g5⟩ := hBa 5 _ rfl
        obtain ⟨b6, g6⟩ := hBa 6 _ rfl
        obtain ⟨b7, g7⟩ := hBa 7 _ rfl
        obtain ⟨b8, g8⟩ := hBa 8 _ rfl
        obtain ⟨b9, g9⟩ := hBa 9 _ rfl
        obtain ⟨b10, g10⟩ := hBa 10 _ rfl
        obtain ⟨a0, k0⟩ := hAa 0 _ rfl
        obtain ⟨a1, k1⟩ := hAa 1 _ rfl
        obtain ⟨a2, k2⟩ := hAa 2 _ rfl
        obtain ⟨a3, k3⟩ := hAa 3 _ rfl
        obtain ⟨a4, k4⟩ := hAa 4 _ rfl
        obtain ⟨a5, k5⟩ := hAa 5 _ rfl
        obtain ⟨a6, k6⟩ := hAa 6 _ rfl
        obtain ⟨a7, k7⟩ := hAa 7 _ rfl
        obtain ⟨a8, k8⟩ := hAa 8 _ rfl
        obtain ⟨a9, k9⟩ := hAa 9 _ rfl
        obtain ⟨a10, k10⟩ := hAa 10 _ rfl
        have hAz := (((((((((((hAa.set (i := 0) (by simp) (.string nv)).set (i := 1) (by simp) (.int .i64 ln)).set (i := 2) (by simp) (.int .i64 co)).set (i := 3) (by simp) (.bool kb)).set (i := 4) (by simp) (.bool ke)).set (i := 5) (by simp) (.string kdo)).set (i := 6) (by simp) (.string kun)).set (i := 7) (by simp) (.int .i64 kw)).set (i := 8) (by simp) (.int .i64 kr)).set (i := 9) (by simp) (.slice va os.length vc)).set (i := 10) (by simp) (.slice ua ss.length uc))
        have hpz := (((((((((((hpa.far (Y := w.heap.size) (i := 0) (by omega) (.string nv)).far (Y := w.heap.size) (i := 1) (by omega) (.int .i64 ln)).far (Y := w.heap.size) (i := 2) (by omega) (.int .i64 co)).far (Y := w.heap.size) (i := 3) (by omega) (.bool kb)).far (Y := w.heap.size) (i := 4) (by omega) (.bool ke)).far (Y := w.heap.size) (i := 5) (by omega) (.string kdo)).far (Y := w.heap.size) (i := 6) (by omega) (.string kun)).far (Y := w.heap.size) (i := 7) (by omega) (.int .i64 kw)).far (Y := w.heap.size) (i := 8) (by omega) (.int .i64 kr)).far (Y := w.heap.size) (i := 9) (by omega) (.slice va os.length vc)).far (Y := w.heap.size) (i := 10) (by omega) (.slice ua ss.length uc))
        have hFz := (((((((((((hFa.setN (N := w.heap.size) (i := 0) (Nat.le_refl _) (.string nv)).setN (N := w.heap.size) (i := 1) (Nat.le_refl _) (.int .i64 ln)).setN (N := w.heap.size) (i := 2) (Nat.le_refl _) (.int .i64 co)).setN (N := w.heap.size) (i := 3) (Nat.le_refl _) (.bool kb)).setN (N := w.heap.size) (i := 4) (Nat.le_refl _) (.bool ke)).setN (N := w.heap.size) (i := 5) (Nat.le_refl _) (.string kdo)).setN (N := w.heap.size) (i := 6) (Nat.le_refl _) (.string kun)).setN (N := w.heap.size) (i := 7) (Nat.le_refl _) (.int .i64 kw)).setN (N := w.heap.size) (i := 8) (Nat.le_refl _) (.int .i64 kr)).setN (N := w.heap.size) (i := 9) (Nat.le_refl _) (.slice va os.length vc)).setN (N := w.heap.size) (i := 10) (Nat.le_refl _) (.slice ua ss.length uc))
        have hOoz := (((((((((((hOoa.set kp_onD (X := w.heap.size) (i := 0) (by omega) (.string nv)).set kp_onD (X := w.heap.size) (i := 1) (by omega) (.int .i64 ln)).set kp_onD (X := w.heap.size) (i := 2) (by omega) (.int .i64 co)).set kp_onD (X := w.heap.size) (i := 3) (by omega) (.bool kb)).set kp_onD (X := w.heap.size) (i := 4) (by omega) (.bool ke)).set kp_onD (X := w.heap.size) (i := 5) (by omega) (.string kdo)).set kp_onD (X := w.heap.size) (i := 6) (by omega) (.string kun)).set kp_onD (X := w.heap.size) (i := 7) (by omega) (.int .i64 kw)).set kp_onD (X := w.heap.size) (i := 8) (by omega) (.int .i64 kr)).set kp_onD (X := w.heap.size) (i := 9) (by omega) (.slice va os.length vc)).set kp_onD (X := w.heap.size) (i := 10) (by omega) (.slice ua ss.length uc))
        have hOiz := (((((((((((hOia.set (kp_stD _) (X := w.heap.size) (i := 0) (by omega) (.string nv)).set (kp_stD _) (X := w.heap.size) (i := 1) (by omega) (.int .i64 ln)).set (kp_stD _) (X := w.heap.size) (i := 2) (by omega) (.int .i64 co)).set (kp_stD _) (X := w.heap.size) (i := 3) (by omega) (.bool kb)).set (kp_stD _) (X := w.heap.size) (i := 4) (by omega) (.bool ke)).set (kp_stD _) (X := w.heap.size) (i := 5) (by omega) (.string kdo)).set (kp_stD _) (X := w.heap.size) (i := 6) (by omega) (.string kun)).set (kp_stD _) (X := w.heap.size) (i := 7) (by omega) (.int .i64 kw)).set (kp_stD _) (X := w.heap.size) (i := 8) (by omega) (.int .i64 kr)).set (kp_stD _) (X := w.heap.size) (i := 9) (by omega) (.slice va os.length vc)).set (kp_stD _) (X := w.heap.size) (i := 10) (by omega) (.slice ua ss.length uc))
        clear hBa hAa hpa hFa hOoa hOia
        go_wp2
        refine bodyPost_ret (dstate_res hAz rfl) rfl ?_
        have hr := HRES.out
        have hoo := HOUT.out
        have hv := HNV.out
        have hkd := HKD.out
        subst hoo
        subst hr
        subst hv
        exact ⟨⟨_, rfl, _, _, (congrFun (congrFun hkd _) _).symm, (hOoz.rd kp_onD).low kp_onD (by omega), (hOiz.rd (kp_stD _)).low (kp_stD _) (by omega)⟩, hpz, hFz⟩
end Go.Proofs.YtccmmkhcacglhaaGreatDoor
