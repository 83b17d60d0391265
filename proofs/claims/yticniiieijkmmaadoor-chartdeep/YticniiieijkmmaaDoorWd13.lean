import Derived.Test.YticniiieijkmmaaDoorWd12

/- What the program's kind does. -/
namespace Go.Proofs.YticniiieijkmmaaDoor
open Go.RowKit Go.Lib
set_option linter.unusedSimpArgs false
set_option linter.unusedVariables false
attribute [local go_sem ↓] Go.wp_at_zero Go.wp_at_succ

abbrev KdC := (Bool × Bool) × (List UInt8 × List UInt8) × (Int × Int)
/-- A state's cells, its kind put in. -/
def stV (c0 c1 c2 : Value) (k : KdC) (so si : Value) : List Value := [c0, c1, c2, .bool k.1.1, .bool k.1.2, sV k.2.1.1, sV k.2.1.2, .int .i64 k.2.2.1, .int .i64 k.2.2.2, so, si]
def zK : KdC := ((false, false), ([], []), (0, 0))
set_option maxRecDepth 100000 in
set_option maxHeartbeats 4000000 in
theorem kind_any {w : World} {X Y : Nat} {a : Option Addr} {cap : Nat} {ws : List Wd} {fin : Pl} {r : RsC} (h : Pr w X a cap ws fin r) (hk : Wk ws cap) (hE : Ey w X) (hXY : X < Y) {c0 c1 c2 so si : Value} (hB : Bn w Y (stV c0 c1 c2 zK so si)) :
    Calls Tryd.prog 32 #[.pointer (some ⟨X, 0, none⟩), .pointer (some ⟨Y, 0, none⟩)] w fun e w' => (∃ u, e = .returned u) ∧ Pr w' X a cap ws fin (kindR fin r).2 ∧ Bn w' Y (stV c0 c1 c2 (kindR fin r).1 so si) ∧ Fy X Y w w' := by
  unfold kindR
  have hS1 := skips_any h hk wAll
  have e1 : (⟨wAll.toArray⟩ : ByteArray) = ⟨#[97, 108, 108]⟩ := rfl
  have e2 : (⟨wEnd.toArray⟩ : ByteArray) = ⟨#[101, 110, 100]⟩ := rfl
  have e3 : (⟨wDo.toArray⟩ : ByteArray) = ⟨#[100, 111]⟩ := rfl
  have e4 : (⟨wUndo.toArray⟩ : ByteArray) = ⟨#[117, 110, 100, 111]⟩ := rfl
  have e5 : (⟨wAt.toArray⟩ : ByteArray) = ⟨#[97, 116]⟩ := rfl
  have e6 : (⟨wRetries.toArray⟩ : ByteArray) = ⟨#[114, 101, 116, 114, 105, 101, 115]⟩ := rfl
  rw [e1] at hS1
  have hYX : Y ≠ X := by omega
  cases h1 : isC wAll r with
  | true =>
    rw [h1, skR_yes h1] at hS1
    rw [if_pos rfl]
    generalize takeR fin wAll r = r1 at *
    go_enter Tryd.func32, Tryd.ntmps32
    go_upto_region 1 with (first
      | (go_at_call 17; refine hS1.mono ?_; rintro e w1 ⟨rfl, hp1, hf1⟩))
    have hB1 : Bn w1 Y (stV c0 c1 c2 zK so si) := Bn.fx (c := c0) hB hf1 hYX
    obtain ⟨b3, g3⟩ := hB1 3 _ rfl
    go_wp2
    go_end0
    exact ⟨⟨_, rfl⟩, hp1.far hXY _, hB1.set (i := 3) (by simp [stV]) (.bool true), (Fy.of hf1).setY _⟩
  | false =>
    rw [h1, skR_no h1] at hS1
    rw [if_neg (by decide)]
    have hS2 := fun w1 (hp : Pr w1 X a cap ws fin r) => skips_any hp hk wEnd
    rw [e2] at hS2
    cases h2 : isC wEnd r with
    | true =>
      simp only [h2, skR_yes h2] at hS2
      rw [if_pos rfl]
      generalize takeR fin wEnd r = r1 at *
      go_enter Tryd.func32, Tryd.ntmps32
      go_upto_region 2 with (first
        | (go_at_call 17; refine hS1.mono ?_; rintro e w0 ⟨rfl, hp0, hf0⟩))
      go_upto_region 3 with (first
        | (go_at_call 17; refine (hS2 _ hp0).mono ?_; rintro e w1 ⟨rfl, hp1, hf1⟩))
      have hB1 : Bn w1 Y (stV c0 c1 c2 zK so si) := Bn.fx (c := c0) (Bn.fx (c := c0) hB hf0 hYX) hf1 hYX
      obtain ⟨b3, g3⟩ := hB1 4 _ rfl
      go_wp2
      go_end0
      exact ⟨⟨_, rfl⟩, hp1.far hXY _, hB1.set (i := 4) (by simp [stV]) (.bool true), (Fy.of (hf0.trans hf1)).setY _⟩
    | false =>
      simp only [h2, skR_no h2] at hS2
      rw [if_neg (by decide)]
      have hS3 := fun w1 (hp : Pr w1 X a cap ws fin r) => skips_any hp hk wDo
      rw [e3] at hS3
      cases h3 : isC wDo r with
      | true =>
        simp only [h3, skR_yes h3] at hS3
        rw [if_pos rfl]
        simp only
        have hN1 := fun w1 (hp : Pr w1 X a cap ws fin (takeR fin wDo r)) => pname_any hp hk
        generalize takeR fin wDo r = r1 at *
        obtain ⟨⟨⟨nm1, ln1, co1⟩, r2⟩, hR1⟩ : ∃ x, nameR fin r1 = x := ⟨_, rfl⟩
        simp only [hR1] at hN1 ⊢
        have hM1 := fun w1 (hp : Pr w1 X a cap ws fin r2) => must_any hp hk wUndo
        have hN2 := fun w1 (hp : Pr w1 X a cap ws fin (takeR fin wUndo r2)) => pname_any hp hk
        generalize takeR fin wUndo r2 = r3 at *
        obtain ⟨⟨⟨nm2, ln2, co2⟩, r4⟩, hR2⟩ : ∃ x, nameR fin r3 = x := ⟨_, rfl⟩
        simp only [hR2] at hN2 ⊢
        have hM2 := fun w1 (hp : Pr w1 X a cap ws fin r4) => must_any hp hk wAt
        have hN3 := fun w1 (hp : Pr w1 X a cap ws fin (takeR fin wAt r4)) (he : Ey w1 X) => pnum_any hp hk he
        generalize takeR fin wAt r4 = r5 at *
        obtain ⟨⟨n1, r6⟩, hR3⟩ : ∃ x, numR fin r5 = x := ⟨_, rfl⟩
        simp only [hR3] at hN3 ⊢
        have hM3 := fun w1 (hp : Pr w1 X a cap ws fin r6) => must_any hp hk wRetries
        have hN4 := fun w1 (hp : Pr w1 X a cap ws fin (takeR fin wRetries r6)) (he : Ey w1 X) => pnum_any hp hk he
        generalize takeR fin wRetries r6 = r7 at *
        obtain ⟨⟨n2, r8⟩, hR4⟩ : ∃ x, numR fin r7 = x := ⟨_, rfl⟩
        simp only [hR4] at hN4 ⊢
        rw [e4] at hM1
        rw [e5] at hM2
        rw [e6] at hM3
        unfold sV at hN1 hN2
        clear hR1 hR2 hR3 hR4
        obtain ⟨nv1, hnv1⟩ : ∃ nv, (⟨nm1.toArray⟩ : ByteArray) = nv := ⟨_, rfl⟩
        obtain ⟨nv2, hnv2⟩ : ∃ nv, (⟨nm2.toArray⟩ : ByteArray) = nv := ⟨_, rfl⟩
        simp only [hnv1, hnv2] at hN1 hN2
        have HN : Hid ((⟨nm1.toArray⟩ : ByteArray) = nv1 ∧ (⟨nm2.toArray⟩ : ByteArray) = nv2) := ⟨hnv1, hnv2⟩
        clear hnv1 hnv2
        go_enter Tryd.func32, Tryd.ntmps32
        go_upto_region 2 with (first
          | (go_at_call 17; refine hS1.mono ?_; rintro e w1 ⟨rfl, hp1, hf1⟩))
        go_upto_region 4 with (first
          | (go_at_call 17; refine (hS2 _ hp1).mono ?_; rintro e w2 ⟨rfl, hp2, hf2⟩))
        go_upto_region 5 with (first
          | (go_at_call 17; refine (hS3 _ hp2).mono ?_; rintro e w3 ⟨rfl, hp3, hf3⟩))
        have hF3 : Fy X Y w w3 := Fy.of ((hf1.trans hf2).trans hf3)
        have hE3 := hE.fx ((hf1.trans hf2).trans hf3)
        have hB3 : Bn w3 Y (stV c0 c1 c2 zK so si) := Bn.fx (c := c0) hB ((hf1.trans hf2).trans hf3) hYX
        clear hS1 hS2 hS3 hp1 hf1 hp2 hf2 hf3 hB hE h
        go_upto_region 6 with (first
          | (go_at_call 15; refine (hN1 _ hp3).mono ?_; rintro e w4 ⟨rfl, hp4, hf4⟩; have hB4 : Bn w4 Y (stV c0 c1 c2 zK so si) := Bn.fx (c := c0) hB3 hf4 hYX; obtain ⟨b5, g5⟩ := hB4 5 _ rfl))
        have hB5 := hB4.set (i := 5) (by simp [stV]) (.string nv1)
        have hp5 := hp4.far (i := 5) hXY (.string nv1)
        have hE5 := (hE3.fx hf4).far hXY (i := 5) (.string nv1)
        have hF5 := (hF3.trans (Fy.of hf4)).setY (i := 5) (.string nv1)
        clear hB3 hB4 b5 g5 hp3 hp4 hE3 hF3 hf4 hN1
        generalize w4.setCell ⟨Y, 5, none⟩ (.string nv1) = w5 at *
        go_upto_region 7 with (first
          | (go_at_call 14; refine (hM1 _ hp5).mono ?_; rintro e w6 ⟨⟨u, rfl⟩, hp6, hf6⟩))
        have hB6 := Bn.fx (c := c0) hB5 hf6 hYX
        have hE6 := hE5.fx hf6
        have hF6 := hF5.trans (Fy.of hf6)
        clear hB5 hE5 hF5 hf6 hp5 hM1
        go_upto_region 8 with (first
          | (go_at_call 15; refine (hN2 _ hp6).mono ?_; rintro e w7 ⟨rfl, hp7, hf7⟩; have hB7 := Bn.fx (c := c0) hB6 hf7 hYX; obtain ⟨b5, g5⟩ := hB7 6 _ rfl))
        have hB8 := hB7.set (i := 6) (by simp [stV]) (.string nv2)
        have hp8 := hp7.far (i := 6) hXY (.string nv2)
        have hE8 := (hE6.fx hf7).far hXY (i := 6) (.string nv2)
        have hF8 := (hF6.trans (Fy.of hf7)).setY (i := 6) (.string nv2)
        clear hB6 hB7 b5 g5 hp6 hp7 hE6 hF6 hf7 hN2
        generalize w7.setCell ⟨Y, 6, none⟩ (.string nv2) = w8 at *
        go_upto_region 9 with (first
          | (go_at_call 14; refine (hM2 _ hp8).mono ?_; rintro e w9 ⟨⟨u, rfl⟩, hp9, hf9⟩))
        have hB9 := Bn.fx (c := c0) hB8 hf9 hYX
        have hE9 := hE8.fx hf9
        have hF9 := hF8.trans (Fy.of hf9)
        clear hB8 hE8 hF8 hf9 hp8 hM2
        go_upto_region 10 with (first
          | (go_at_call 16; refine (hN3 _ hp9 hE9).mono ?_; rintro e wa ⟨rfl, hpa, hfa⟩; have hBa := Bn.fx (c := c0) hB9 hfa hYX; obtain ⟨b5, g5⟩ := hBa 7 _ rfl))
        have hBb := hBa.set (i := 7) (by simp [stV]) (.int .i64 n1)
        have hpb := hpa.far (i := 7) hXY (.int .i64 n1)
        have hEb := (hE9.fx hfa).far hXY (i := 7) (.int .i64 n1)
        have hFb := (hF9.trans (Fy.of hfa)).setY (i := 7) (.int .i64 n1)
        clear hB9 hBa b5 g5 hp9 hpa hE9 hF9 hfa hN3
        generalize wa.setCell ⟨Y, 7, none⟩ (.int .i64 n1) = wb at *
        go_upto_region 11 with (first
          | (go_at_call 14; refine (hM3 _ hpb).mono ?_; rintro e wc ⟨⟨u, rfl⟩, hpc, hfc⟩))
        have hBc := Bn.fx (c := c0) hBb hfc hYX
        have hEc := hEb.fx hfc
        have hFc := hFb.trans (Fy.of hfc)
        clear hBb hEb hFb hfc hpb hM3
        go_wp2_with (first
          | (go_at_call 16; refine (hN4 _ hpc hEc).mono ?_; rintro e wd ⟨rfl, hpd, hfd⟩; have hBd := Bn.fx (c := c0) hBc hfd hYX; obtain ⟨b5, g5⟩ := hBd 8 _ rfl))
        go_end0
        have hBe := hBd.set (i := 8) (by simp [stV]) (.int .i64 n2)
        obtain ⟨hv1, hv2⟩ := HN.out
        subst hv1
        subst hv2
        exact ⟨⟨_, rfl⟩, hpd.far hXY _, hBe, (hFc.trans (Fy.of hfd)).setY _⟩
      | false =>
        simp only [h3, skR_no h3] at hS3
        rw [if_neg (by decide)]
        go_enter Tryd.func32, Tryd.ntmps32
        go_upto_region 2 with (first
          | (go_at_call 17; refine hS1.mono ?_; rintro e w0 ⟨rfl, hp0, hf0⟩))
        go_upto_region 4 with (first
          | (go_at_call 17; refine (hS2 _ hp0).mono ?_; rintro e w1 ⟨rfl, hp1, hf1⟩))
        go_wp2_with (first
          | (go_at_call 17; refine (hS3 _ hp1).mono ?_; rintro e w2 ⟨rfl, hp2, hf2⟩))
        go_end0
        exact ⟨⟨_, rfl⟩, hp2, Bn.fx (c := c0) hB ((hf0.trans hf1).trans hf2) hYX, Fy.of ((hf0.trans hf1).trans hf2)⟩
end Go.Proofs.YticniiieijkmmaaDoor
