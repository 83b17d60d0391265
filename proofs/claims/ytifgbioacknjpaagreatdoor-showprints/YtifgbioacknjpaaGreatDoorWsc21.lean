import Derived.Test.YtifgbioacknjpaaGreatDoorWsc20
import Derived.Test.YtifgbioacknjpaaGreatDoorWsc12
import Derived.Test.YtifgbioacknjpaaGreatDoorWsc14
import Derived.Test.YtifgbioacknjpaaGreatDoorWsc19
import Derived.Test.YtifgbioacknjpaaGreatDoorWsc07
import Derived.Test.YtifgbioacknjpaaGreatDoorWsc04
import Derived.Test.YtifgbioacknjpaaGreatDoorRows
import Derived.Lib.LaidU8
import Derived.Lib.LaidTab
import Derived.MakeChecks
import Derived.Test.YtifgbioacknjpaaGreatDoorWsc01
import Derived.ProofKit
import Derived.OpenShut
import Derived.ShutString
import Derived.ChangeOld
import Derived.SizedLaws
import Derived.Below

/- ShowPrints: any chart has the text that the document says, or none. -/
namespace Go.Proofs.YtifgbioacknjpaaGreatDoor
open Go.RowKit Go.Lib
set_option linter.unusedSimpArgs false
set_option linter.unusedVariables false
attribute [local go_sem ↓] Go.wp_at_zero Go.wp_at_succ

theorem rdC_formP {ok : Nat → Prop} {w : World} {d : Nat} {c : ChG d} {v : Value} (h : RdC ok w d c v) : ∃ a b e f g h' i j k l, v = .agg #[.string a, .int .i64 b, .int .i64 e, .int .i64 f, .slice g h' i, .slice j k l] := by
  obtain ⟨sv, ss, rfl, h1, h2⟩ := h
  obtain ⟨a, cap, rfl, _⟩ := h1.form
  obtain ⟨a', cap', rfl, _⟩ := h2.form
  exact ⟨_, _, _, _, _, _, _, _, _, _, rfl⟩
theorem RdC.nxt {w w1 : World} {d : Nat} {c : ChG d} {v : Value} (h : RdC (fun _ => True) w d c v) (b : Below w.heap.size w w1) : RdC (fun _ => True) w1 d c v := h.keep (fun k hk hl => ⟨trivial, b.block k hl⟩)
theorem RdC.nxtd {w w1 : World} {d : Nat} {c : ChG d} {v : Value} (h : RdC (fun _ => True) w d c v) (b : Below w.drew.heap.size w.drew w1) : RdC (fun _ => True) w1 d c v := h.keep (fun k hk hl => ⟨trivial, b.block k hl⟩)
theorem RdD.nxt {w w1 : World} {d : Nat} {c : ChD d} {v : Value} (h : RdD (fun _ => True) w d c v) (b : Below w.heap.size w w1) : RdD (fun _ => True) w1 d c v := h.keep (fun k hk hl => ⟨trivial, b.block k hl⟩)
theorem RdD.nxtd {w w1 : World} {d : Nat} {c : ChD d} {v : Value} (h : RdD (fun _ => True) w d c v) (b : Below w.drew.heap.size w.drew w1) : RdD (fun _ => True) w1 d c v := h.keep (fun k hk hl => ⟨trivial, b.block k hl⟩)
theorem rdD_let {ok : Nat → Prop} {w : World} {d : Nat} {c : ChD d} {v : Value} (h : RdD ok w d c v) : ∃ a b e f g h' i j k l, v = .agg #[.string a, .int .i64 b, .int .i64 e, .int .i64 f, .slice g h' i, .slice j k l] := by
  obtain ⟨sv, ss, rfl, h1, h2⟩ := h
  obtain ⟨a, cap, rfl, _⟩ := h1.form
  obtain ⟨a', cap', rfl, _⟩ := h2.form
  exact ⟨_, _, _, _, _, _, _, _, _, _, rfl⟩
set_option maxRecDepth 100000 in
set_option maxHeartbeats 16000000 in
theorem showPrints_walk {w : World} (hTb : Tabs w) (hPw : Pow w) {d : Nat} {c : ChD d} {v : Value} (hr : RdD (fun _ => True) w d c v) (hwf : WfC d c) : Calls Tryz.prog 4 #[v] w fun e w' => e = .returned (.bool true) ∧ Below w.heap.size w w' := by
  obtain ⟨g0, g1, g2, g3, g4, g5, g6, g7, g8, g9, rfl⟩ := rdD_let hr
  have h1 := fun w1 (b : Below w.heap.size w w1) => awakeS w1 (hPw.below b)
  have hal : Below w.heap.size w (w.alloc (.cells #[.string g0, .int .i64 g1, .int .i64 g2, .int .i64 g3, .slice g4 g5 g6, .slice g7 g8 g9] 27)) := (Below.refl w.heap.size w).alloc (Nat.le_refl _) _
  have hX : Bn (w.alloc (.cells #[.string g0, .int .i64 g1, .int .i64 g2, .int .i64 g3, .slice g4 g5 g6, .slice g7 g8 g9] 27)) w.heap.size [.string g0, .int .i64 g1, .int .i64 g2, .int .i64 g3, .slice g4 g5 g6, .slice g7 g8 g9] := Bn.new w [.string g0, .int .i64 g1, .int .i64 g2, .int .i64 g3, .slice g4 g5 g6, .slice g7 g8 g9] 27 _ rfl
  have h2 := fun w1 (b : Below w.heap.size w w1) => small_any (hr.keep (ok' := fun _ => True) (fun k hk hl => ⟨trivial, b.block k hl⟩)) hwf (w := w1)
  go_enter Tryz.func4, Tryz.ntmps4
  go_upto_region 1 with fail
  generalize (w.alloc (.cells #[.string g0, .int .i64 g1, .int .i64 g2, .int .i64 g3, .slice g4 g5 g6, .slice g7 g8 g9] 27)) = wx at *
  obtain ⟨x0, _⟩ := hX 0 _ rfl
  obtain ⟨x1, _⟩ := hX 1 _ rfl
  obtain ⟨x2, _⟩ := hX 2 _ rfl
  obtain ⟨x3, _⟩ := hX 3 _ rfl
  obtain ⟨x4, _⟩ := hX 4 _ rfl
  obtain ⟨x5, _⟩ := hX 5 _ rfl
  have h1a := h1 _ hal
  go_upto_if 13 with (first
    | (go_at_call 14; refine h1a.mono ?_; rintro e w1 ⟨rfl, b1⟩; have x0 := (b1.cell (p := ⟨w.heap.size, 0, none⟩) hX.lt).trans x0; have x1 := (b1.cell (p := ⟨w.heap.size, 1, none⟩) hX.lt).trans x1; have x2 := (b1.cell (p := ⟨w.heap.size, 2, none⟩) hX.lt).trans x2; have x3 := (b1.cell (p := ⟨w.heap.size, 3, none⟩) hX.lt).trans x3; have x4 := (b1.cell (p := ⟨w.heap.size, 4, none⟩) hX.lt).trans x4; have x5 := (b1.cell (p := ⟨w.heap.size, 5, none⟩) hX.lt).trans x5)
    | (go_at_call 6; refine (h2 _ (hal.trans (b1.mono hal.size))).mono ?_; rintro e w2 ⟨bb, rfl, hsm, b2⟩)
    | fail)
  have hb1 := hal.trans (b1.mono hal.size)
  have hb2 := hb1.trans (b2.mono hb1.size)
  have hX2 := (hX.on b1).on b2
  clear b1 b2 hX hal h2 h1a hb1 x0 x1 x2 x3 x4 x5
  cases bb with
  | false =>
    have h1b := h1 _ hb2
    go_wp2_with (first
      | (go_at_call 14; refine h1b.mono ?_; rintro e w3 ⟨rfl, b3⟩)
      | fail)
    go_ret
    exact ⟨rfl, hb2.trans (b3.mono hb2.size)⟩
  | true =>
    replace hsm := hsm rfl
    have hck := chK_th hsm hwf
    have hcl := chCl_th c
    have hdp := dpr_dc hsm hwf
    obtain ⟨C, hC⟩ : ∃ C, thC d c = C := ⟨_, rfl⟩
    have eG : prG d (dcC d c) = prG d (thC d c) := prG_dc d c
    have eF : chF d (dcC d c) = chF d (thC d c) := chF_dc d c
    rw [hC] at hck hcl eG eF
    have h3 : ∀ w1, Below w.heap.size w w1 → Calls Tryz.prog 7 #[.agg #[.string g0, .int .i64 g1, .int .i64 g2, .int .i64 g3, .slice g4 g5 g6, .slice g7 g8 g9]] w1 fun e w' => ∃ e0 e1 e2 e3 e4 e5 e6 e7 e8 e9, e = .returned (.agg #[.string e0, .int .i64 e1, .int .i64 e2, .int .i64 e3, .slice e4 e5 e6, .slice e7 e8 e9]) ∧ RdC (fun b => w1.heap.size ≤ b) w' d C (.agg #[.string e0, .int .i64 e1, .int .i64 e2, .int .i64 e3, .slice e4 e5 e6, .slice e7 e8 e9]) ∧ Below w1.heap.size w1 w' := fun w1 bb => (theirs_ch (hr.keep (ok' := fun _ => True) (fun k hk hl => ⟨trivial, bb.block k hl⟩)) hsm.2.2.2 hsm.2.2.1 (by have := hsm.2.1; omega) (w := w1)).mono (fun e w' hh => by
      obtain ⟨u, q1, q2, q3⟩ := hh
      rw [hC] at q2
      obtain ⟨e0, e1, e2, e3, e4, e5, e6, e7, e8, e9, rfl⟩ := rdC_formP q2
      exact ⟨e0, e1, e2, e3, e4, e5, e6, e7, e8, e9, q1, q2, q3⟩)
    obtain ⟨DC, hDC⟩ : ∃ x, dcC d c = x := ⟨_, rfl⟩
    rw [hDC] at eG eF hdp
    have h5 : ∀ w1, Below w.heap.size w w1 → Calls Tryz.prog 10 #[.agg #[.string g0, .int .i64 g1, .int .i64 g2, .int .i64 g3, .slice g4 g5 g6, .slice g7 g8 g9]] w1 fun e w' => ∃ f0 f1 f2 f3 f4 f5 f6 f7 f8 f9, e = .returned (.agg #[.string f0, .int .i64 f1, .int .i64 f2, .int .i64 f3, .slice f4 f5 f6, .slice f7 f8 f9]) ∧ RdD (fun _ => True) w' d DC (.agg #[.string f0, .int .i64 f1, .int .i64 f2, .int .i64 f3, .slice f4 f5 f6, .slice f7 f8 f9]) ∧ Below w1.heap.size w1 w' := fun w1 b => (dclean_any d (fun _ => True) w1 c _ (hr.keep (fun k hk hl => ⟨trivial, b.block k hl⟩)) hsm).mono (fun e w' hh => by
      obtain ⟨u, q1, q2, q3⟩ := hh
      rw [hDC] at q2
      obtain ⟨f0, f1, f2, f3, f4, f5, f6, f7, f8, f9, rfl⟩ := rdD_let q2
      exact ⟨f0, f1, f2, f3, f4, f5, f6, f7, f8, f9, q1, q2.keep (fun k hk hl => ⟨trivial, rfl⟩), q3⟩)
    have h4 := fun (ok : Nat → Prop) w1 v (h : RdC ok w1 d C v) (hp : Pow w1) => printC_any h hck hcl hp
    have h6 := fun (ok : Nat → Prop) w1 v (h : RdD ok w1 d DC v) (ht : Tabs w1) (hp : Pow w1) => dprint_any d ok w1 DC v h hdp ht hp
    have h7 := fun (ok : Nat → Prop) w1 v (h : RdC ok w1 d C v) (hp : Pow w1) => formedC_any h hck hp
    have h8 := fun (ok : Nat → Prop) w1 v (h : RdD ok w1 d DC v) (ht : Tabs w1) => dformed_any d ok w1 DC v h hdp.1 ht
    simp only [eG] at h6
    simp only [eF] at h8
    obtain ⟨T, hT, eT, zT⟩ := letter_of (prG d C).1
    obtain ⟨pe, hpe⟩ : ∃ x, (prG d C).2 = x := ⟨_, rfl⟩
    obtain ⟨fo, hfo⟩ : ∃ x, chF d C = x := ⟨_, rfl⟩
    simp only [hT, hpe] at h4 h6
    simp only [hfo] at h7 h8
    obtain ⟨x0, _⟩ := hX2 0 _ rfl
    obtain ⟨x1, _⟩ := hX2 1 _ rfl
    obtain ⟨x2, _⟩ := hX2 2 _ rfl
    obtain ⟨x3, _⟩ := hX2 3 _ rfl
    obtain ⟨x4, _⟩ := hX2 4 _ rfl
    obtain ⟨x5, _⟩ := hX2 5 _ rfl
    clear eG eF hdp hck hcl hT eT zT hpe hfo hC hDC
    have hlt := hX2.lt
    go_upto_region 4 with (first
      | (go_at_call 7; refine (h3 _ hb2).mono ?_; rintro e w3 ⟨e0, e1, e2, e3, e4, e5, e6, e7, e8, e9, rfl, hr3, b3⟩; have hb3 := hb2.trans (b3.mono hb2.size))
      | (go_at_call 15; refine (h4 _ _ _ hr3 (hPw.below hb3)).mono ?_; rintro e w4 ⟨rfl, b4⟩)
      | fail)
    have hb4 := hb3.trans (b4.mono hb3.size)
    have hX4 := (hX2.on b3).on b4
    clear b3 b4 hb3 hr3 hX2 hb2 h4 x0 x1 x2 x3 x4 x5 hlt
    obtain ⟨x0, _⟩ := hX4 0 _ rfl
    obtain ⟨x1, _⟩ := hX4 1 _ rfl
    obtain ⟨x2, _⟩ := hX4 2 _ rfl
    obtain ⟨x3, _⟩ := hX4 3 _ rfl
    obtain ⟨x4, _⟩ := hX4 4 _ rfl
    obtain ⟨x5, _⟩ := hX4 5 _ rfl
    go_upto_region 5 with (first
      | (go_at_call 10; refine (h5 _ hb4).mono ?_; rintro e w5 ⟨f0, f1, f2, f3, f4, f5, f6, f7, f8, f9, rfl, hr5, b5⟩; have hb5 := hb4.trans (b5.mono hb4.size))
      | (go_at_call 16; refine (h6 _ _ _ hr5 (hTb.below hb5 (Nat.le_refl _)) (hPw.below hb5)).mono ?_; rintro e w6 ⟨rfl, b6⟩)
      | fail)
    have hb6 := hb5.trans (b6.mono hb5.size)
    have hX6 := (hX4.on b5).on b6
    clear b5 b6 hb5 hr5 hX4 hb4 h6 x0 x1 x2 x3 x4 x5
    obtain ⟨x0, _⟩ := hX6 0 _ rfl
    obtain ⟨x1, _⟩ := hX6 1 _ rfl
    obtain ⟨x2, _⟩ := hX6 2 _ rfl
    obtain ⟨x3, _⟩ := hX6 3 _ rfl
    obtain ⟨x4, _⟩ := hX6 4 _ rfl
    obtain ⟨x5, _⟩ := hX6 5 _ rfl
    have hlt := hX6.lt
    have t1 : (T.toList == T.toList) = true := by simp
    have t2 : (pe == pe) = true := by simp
    have t3 : (fo == fo) = true := by simp
    have hB : Below w6.heap.size w6 w6 := Below.refl _ _
    have h3b := fun w1 (b : Below w6.heap.size w6 w1) => h3 w1 (hb6.trans (b.mono hb6.size))
    have h5b := fun w1 (b : Below w6.heap.size w6 w1) => h5 w1 (hb6.trans (b.mono hb6.size))
    have hpw6 := fun w1 (b : Below w6.heap.size w6 w1) => hPw.below (hb6.trans (b.mono hb6.size))
    have htb6 := fun w1 (b : Below w6.heap.size w6 w1) => hTb.below (hb6.trans (b.mono hb6.size)) (Nat.le_refl _)
    have HPW6 := mkHid hpw6
    have HTB6 := mkHid htb6
    clear h3 h5 hPw hTb hr h1 hpw6 htb6
    obtain ⟨X, hXe⟩ : ∃ x, w.heap.size = x := ⟨_, rfl⟩
    have HXE := mkHid hXe
    rw [hXe] at x0 x1 x2 x3 x4 x5 hlt ⊢
    clear hXe
    have y0 := x0
    have y1 := x1
    have y2 := x2
    have y3 := x3
    have y4 := x4
    have y5 := x5
    go_region_held_law (fun w' => w'.cell? ⟨X, 0, none⟩ = some (.string g0) ∧ w'.cell? ⟨X, 1, none⟩ = some (.int .i64 g1) ∧ w'.cell? ⟨X, 2, none⟩ = some (.int .i64 g2) ∧ w'.cell? ⟨X, 3, none⟩ = some (.int .i64 g3) ∧ w'.cell? ⟨X, 4, none⟩ = some (.slice g4 g5 g6) ∧ w'.cell? ⟨X, 5, none⟩ = some (.slice g7 g8 g9))
      ((refine ⟨?_, ?_, ?_, ?_, ?_, ?_⟩ <;> (repeat (first | (with_reducible exact y0) | (with_reducible exact y1) | (with_reducible exact y2) | (with_reducible exact y3) | (with_reducible exact y4) | (with_reducible exact y5) | (with_reducible refine cell_dr ?_))) <;> done))
      (first
        | (go_at_call 7; (first | (with_reducible refine (h3b _ hB).mono ?_) | (with_reducible refine (h3b _ hB.drew).mono ?_)); rintro e wq ⟨e0, e1, e2, e3, e4, e5, e6, e7, e8, e9, rfl, hra0, bq⟩; have hra : RdC (fun _ => True) wq d C (.agg #[.string e0, .int .i64 e1, .int .i64 e2, .int .i64 e3, .slice e4 e5 e6, .slice e7 e8 e9]) := hra0.keep (fun k hk hl => ⟨trivial, rfl⟩); clear hra0; (first | have hrc := RdD.nxtd hrc bq | have hrc := RdD.nxt hrc bq | skip); (first | have hB := Below.nxd hB bq | have hB := Below.nx hB bq); have y0 := (hB.cell (p := ⟨X, 0, none⟩) hlt).trans x0; have y1 := (hB.cell (p := ⟨X, 1, none⟩) hlt).trans x1; have y2 := (hB.cell (p := ⟨X, 2, none⟩) hlt).trans x2; have y3 := (hB.cell (p := ⟨X, 3, none⟩) hlt).trans x3; have y4 := (hB.cell (p := ⟨X, 4, none⟩) hlt).trans x4; have y5 := (hB.cell (p := ⟨X, 5, none⟩) hlt).trans x5)
        | (go_at_call 10; (first | (with_reducible refine (h5b _ hB).mono ?_) | (with_reducible refine (h5b _ hB.drew).mono ?_)); rintro e wq ⟨f0, f1, f2, f3, f4, f5, f6, f7, f8, f9, rfl, hrc, bq⟩; (first | have hra := RdC.nxtd hra bq | have hra := RdC.nxt hra bq | skip); (first | have hB := Below.nxd hB bq | have hB := Below.nx hB bq); have y0 := (hB.cell (p := ⟨X, 0, none⟩) hlt).trans x0; have y1 := (hB.cell (p := ⟨X, 1, none⟩) hlt).trans x1; have y2 := (hB.cell (p := ⟨X, 2, none⟩) hlt).trans x2; have y3 := (hB.cell (p := ⟨X, 3, none⟩) hlt).trans x3; have y4 := (hB.cell (p := ⟨X, 4, none⟩) hlt).trans x4; have y5 := (hB.cell (p := ⟨X, 5, none⟩) hlt).trans x5)
        | (go_at_call 17; (first | (with_reducible refine (h7 _ _ _ hra (HPW6.out _ hB)).mono ?_) | (with_reducible refine (h7 _ _ _ hra (HPW6.out _ hB.drew)).mono ?_)); rintro e wq ⟨rfl, bq⟩; (first | have hrc := RdD.nxtd hrc bq | have hrc := RdD.nxt hrc bq | skip); (first | have hB := Below.nxd hB bq | have hB := Below.nx hB bq); have y0 := (hB.cell (p := ⟨X, 0, none⟩) hlt).trans x0; have y1 := (hB.cell (p := ⟨X, 1, none⟩) hlt).trans x1; have y2 := (hB.cell (p := ⟨X, 2, none⟩) hlt).trans x2; have y3 := (hB.cell (p := ⟨X, 3, none⟩) hlt).trans x3; have y4 := (hB.cell (p := ⟨X, 4, none⟩) hlt).trans x4; have y5 := (hB.cell (p := ⟨X, 5, none⟩) hlt).trans x5)
        | (go_at_call 18; (first | (with_reducible refine (h8 _ _ _ hrc (HTB6.out _ hB)).mono ?_) | (with_reducible refine (h8 _ _ _ hrc (HTB6.out _ hB.drew)).mono ?_)); rintro e wq ⟨rfl, bq⟩; (first | have hra := RdC.nxtd hra bq | have hra := RdC.nxt hra bq | skip); (first | have hB := Below.nxd hB bq | have hB := Below.nx hB bq); have y0 := (hB.cell (p := ⟨X, 0, none⟩) hlt).trans x0; have y1 := (hB.cell (p := ⟨X, 1, none⟩) hlt).trans x1; have y2 := (hB.cell (p := ⟨X, 2, none⟩) hlt).trans x2; have y3 := (hB.cell (p := ⟨X, 3, none⟩) hlt).trans x3; have y4 := (hB.cell (p := ⟨X, 4, none⟩) hlt).trans x4; have y5 := (hB.cell (p := ⟨X, 5, none⟩) hlt).trans x5)
        | fail)
    all_goals (
      have hbz := hb6.trans (hB.mono hb6.size)
      go_wp2
      go_ret
      exact ⟨rfl, hbz⟩)
end Go.Proofs.YtifgbioacknjpaaGreatDoor

/- The table of powers of ten, by the row's list. -/
namespace Go.Proofs.YtifgbioacknjpaaGreatDoor
open Go.RowKit Go.Lib
theorem pow_of {w : World} {L : List (String × DataW Unit)} (h : laidMetH Tryz.prog L w) (hp : (L.all fun x => x.2.handleName?.isNone) = true) (m : ("internal/strconv.uint64pow10", Rows.laid_internal_strconv_uint64pow10) ∈ L) : Pow w := by
  rw [MakeChecks.laidMetH_plain _ _ _ hp] at h
  have h1 := Lib.laidMet.reads h m
  have d1 : (Rows.laid_internal_strconv_uint64pow10 : DataW Unit) = Lib.tabData .u64 Lib.pow10Tab := by kernel_rfl
  rw [d1] at h1
  obtain ⟨g, t, cs, fuel, p, hg, ht, hvar, hd⟩ := h1
  have hg2 : ((Tryz.prog.globalNamed "internal/strconv.uint64pow10").bind fun g => (Tryz.prog.globals[g]?).map (·.type)) = some 206 := by kernel_rfl
  rw [hg, Option.bind_some, ht] at hg2
  obtain rfl := Option.some.inj hg2
  unfold Pow Lib.TabIs
  rw [hvar, ← cells_of_tab Tryz.underlying206 Tryz.underlying176 (by kernel_rfl) (by kernel_rfl) hd]
end Go.Proofs.YtifgbioacknjpaaGreatDoor

/- An argument that is a slice of bytes, opened: the bytes that it reads as, each from 0 to 255, and their number within the form's reach. -/
namespace Go.Proofs.YtifgbioacknjpaaGreatDoor
open Go.ChangeShapes Go.WideShapes Go.ChangeAt Go.RowKit

end Go.Proofs.YtifgbioacknjpaaGreatDoor
