
/- What the document's Words does. -/
import Derived.Test.YtiddccohldjjcaaDoorGlyE
import Derived.Deep.RegionHeldLaw
namespace Go.Proofs.YtiddccohldjjcaaDoor
open Go.RowKit Go.Lib
set_option linter.unusedSimpArgs false
set_option linter.unusedVariables false
attribute [local go_sem ↓] Go.wp_at_zero Go.wp_at_succ

theorem Tryd.infoWord : (Tryd.prog.info? 44).map (fun i => (i.zero, i.size, i.bytes)) = some (some (.agg #[.int .i64 0, .string ⟨#[]⟩, .int .i64 0, .int .i64 0]), 4, 40) := by kernel_rfl

set_option maxRecDepth 100000 in
set_option maxHeartbeats 4000000 in
theorem refWords_any (s : ByteArray) (w : World) (hT : Tabs w) (hs : s.size ≤ 140737488351232) :
    Calls Tryd.prog 11 #[.string s] w fun e w' => ∃ u, e = .returned (.tuple #[u, .agg #[.int .i64 (wordsS (bl s)).2.1.1, .int .i64 (wordsS (bl s)).2.1.2], .int .i64 (wordsS (bl s)).2.2]) ∧ OwnW w' w.heap.size 44 u (wordsS (bl s)).1 ∧ Below w.heap.size w w' := by
  obtain ⟨i0, hi, hz0, hz1, hz2⟩ := info_parts Tryd.infoWord
  by_cases hlong : 12000 < s.size
  · rw [words_long (show 12000 < (bl s).length from hlong)]
    have e1 : (s.size : Int) > 12000 := by omega
    obtain ⟨x0, x1, x2, x3⟩ := At.new w (.int .i64 0) (.int .i64 0) 38 _ rfl
    have hA := ((At.new w (.int .i64 0) (.int .i64 0) 38 _ rfl).set0 (.int .i64 1)).set1 (.int .i64 1)
    obtain ⟨y0, y1, y2, y3⟩ := id hA
    go_enter Tryd.func11, Tryd.ntmps11
    go_wp2
    exact bodyPost_ret (v := .tuple #[.slice none 0 0, .agg #[.int .i64 1, .int .i64 1], .int .i64 4]) (by simp [results, Tryd.results11, go_sem]) rfl ⟨_, rfl, ownW_nil _ _ _, by first | exact (Below.refl _ _).alloc (Nat.le_refl _) _ | exact (((Below.refl _ _).alloc (Nat.le_refl _) _).setCell (by simp) _).setCell (by simp) _⟩
  have e1 : ¬ (s.size : Int) > 12000 := by omega
  obtain ⟨⟨X, ⟨pL, pC⟩, er⟩, hE⟩ : ∃ x, wordsS (bl s) = x := ⟨_, rfl⟩
  rw [hE]
  have HE : Hid (comb [] (wrds (runes (bl s)) 1 1 0) = (X, (pL, pC), er)) := by
    show comb [] (wrds (runes (bl s)) 1 1 0) = (X, (pL, pC), er)
    rw [comb_nil, ← hE]
    unfold wordsS
    rw [if_neg (show ¬ 12000 < (bl s).length from hlong)]
  clear hE
  go_enter Tryd.func11, Tryd.ntmps11
  go_wp2
  go_loopw [0, 5] (fun u o wr => ∃ (s' : ByteArray) (ln co : Int) (acc : List Wd), u = .string s' ∧ s'.size ≤ s.size ∧ Hid (comb acc (wrds (runes (bl s')) ln co acc.length) = (X, (pL, pC), er)) ∧ 1 ≤ ln ∧ 1 ≤ co ∧ ln + s'.size ≤ 1 + s.size ∧ co + s'.size ≤ 1 + s.size ∧ acc.length ≤ 3000 ∧
    OwnW wr (w.heap.size + 2) 44 o acc ∧ At wr (w.heap.size + 1) (.int .i64 ln) (.int .i64 co) ∧ (∃ a b, At wr w.heap.size a b) ∧ w.heap.size + 2 ≤ wr.heap.size ∧ Below w.heap.size w wr) (fun u _ _ => szOf u)
  case atStart =>
    exact ⟨s, 1, 1, [], rfl, by omega, HE, by omega, by omega, by omega, by omega, by simp, ownW_nil _ _ _, At.new _ _ _ _ _ (by simp), ⟨_, _, (At.new w (.int .i64 0) (.int .i64 0) 38 _ rfl).keep ((Below.refl _ _).alloc (Nat.le_refl _) _)⟩, by simp, ((Below.refl _ _).alloc (Nat.le_refl _) _).alloc (by simp) _⟩
  case round =>
    obtain ⟨s', ln, co, acc, rfl, hsz, hv, hl1, hc1, hl2, hc2, hacc, ho, hA, ⟨a, b, hR⟩, hsize, hb⟩ := hrel
    have hTr := hT.below hb (Nat.le_refl _)
    obtain ⟨y0, y1, y2, y3⟩ := id hA
    obtain ⟨z0, z1, z2, z3⟩ := id hR
    by_cases hz : 0 < s'.size
    · have e2 : (s'.size : Int) > 0 := by omega
      have e3 : (0 : Int) < (s'.size : Int) := by omega
      have e4 : (1 : Int) ≤ (s'.size : Int) := by omega
      obtain ⟨c, r, hl⟩ : ∃ c r, bl s' = c :: r := by
        match hbl : bl s' with
        | [] => have := bl_length s'; rw [hbl] at this; simp at this; omega
        | c :: r => exact ⟨c, r, rfl⟩
      have hs0 : s'[0] = c := by rw [get_bl]; simp [hl]
      have hf1 : bl (s'.extract 1 s'.size) = r := by rw [bl_from, hl]; rfl
      have hsx1 : (s'.extract 1 s'.size).size = s'.size - 1 := by rw [ByteArray.size_extract]; omega
      have hvv := hv.out
      rw [hl] at hvv
      by_cases c10 : c.toNat = 10
      · have g10 : ((c.toNat : Int) == 10) = true := by simp; omega
        rw [runes_small r (k := 10) (by omega) c10, wrds_cons, if_pos (by rfl)] at hvv
        have hn : Hid (comb acc (wrds (runes (bl (s'.extract 1 s'.size))) (ln + 1) 1 acc.length) = (X, (pL, pC), er)) := by rw [hf1]; exact hvv
        clear hvv hl hf1 hT hTr c10
        go_wp2
        go_roundw
        case rel =>
          exact ⟨_, ln + 1, 1, acc, rfl, by omega, hn, by omega, by omega, by omega, by omega, hacc, (ho.set (by simp) _).set (by simp) _, (hA.set0 _).set1 _, ⟨a, b, (hR.far (by omega) _).far (by omega) _⟩, by simpa using hsize, (hb.setCell (by simp) _).setCell (by simp) _⟩
        case measure => simp [szOf]; omega
      have g10 : ((c.toNat : Int) == 10) = false := beq_eq_false_iff_ne.2 (by omega)
      by_cases c32 : c.toNat = 32 ∨ c.toNat = 9
      · have hn : Hid (comb acc (wrds (runes (bl (s'.extract 1 s'.size))) ln (co + 1) acc.length) = (X, (pL, pC), er)) := by
          rw [hf1]
          rcases c32 with h | h
          · rw [runes_small r (k := 32) (by omega) h, wrds_cons, if_neg (by simp), if_pos (by simp)] at hvv; exact hvv
          · rw [runes_small r (k := 9) (by omega) h, wrds_cons, if_neg (by simp), if_pos (by simp)] at hvv; exact hvv
        clear hvv hl hf1 hT hTr
        rcases c32 with h | h
        · have g32 : ((c.toNat : Int) == 32) = true := by simp; omega
          clear h
          go_wp2
          go_roundw
          case rel =>
            exact ⟨_, ln, co + 1, acc, rfl, by omega, hn, by omega, by omega, by omega, by omega, hacc, ho.set (by simp) _, hA.set1 _, ⟨a, b, hR.far (by omega) _⟩, by simpa using hsize, hb.setCell (by simp) _⟩
          case measure => simp [szOf]; omega
        · have g32 : ((c.toNat : Int) == 32) = false := beq_eq_false_iff_ne.2 (by omega)
          have g9 : ((c.toNat : Int) == 9) = true := by simp; omega
          clear h
          go_wp2
          go_roundw
          case rel =>
            exact ⟨_, ln, co + 1, acc, rfl, by omega, hn, by omega, by omega, by omega, by omega, hacc, ho.set (by simp) _, hA.set1 _, ⟨a, b, hR.far (by omega) _⟩, by simpa using hsize, hb.setCell (by simp) _⟩
          case measure => simp [szOf]; omega
      have g32 : ((c.toNat : Int) == 32) = false := beq_eq_false_iff_ne.2 (by omega)
      have g9 : ((c.toNat : Int) == 9) = false := beq_eq_false_iff_ne.2 (by omega)
      by_cases c35 : c.toNat = 35
      · have g35 : ((c.toNat : Int) == 35) = true := by simp; omega
        obtain ⟨R, hRR⟩ : ∃ R, R = runes (bl s') := ⟨_, rfl⟩
        have hp1 : 1 ≤ rest R := by rw [hRR, hl, runes_small r (k := 35) (by omega) c35]; exact rest_pos (by simp)
        have hN : Hid (comb acc (wrds (R.drop (rest R)) ln (co + rest R) acc.length) = (X, (pL, pC), er)) := by
          have h5 := hvv
          rw [← hl, ← hRR] at h5
          have h6 : R = (((35 : Nat) : Int), [c]) :: runes r := by rw [hRR, hl, runes_small r (k := 35) (by omega) c35]
          rw [h6] at h5 ⊢
          rw [wrds_cons, if_neg (by simp), if_neg (by simp), if_pos (by simp)] at h5
          exact h5
        have H0 : Hid (Rem R 0 (bl s')) := by rw [hRR]; exact Rem.zero
        clear hvv hl hf1 c35 c32 hRR y0 y1 y2 y3 z0 z1 z2 z3
        go_wp2
        go_loopw [0] (fun u wq => ∃ (s2 : ByteArray) (j : Nat), u = .string s2 ∧ j + s2.size ≤ s'.size ∧ Hid (Rem R j (bl s2)) ∧ OwnW wq (w.heap.size + 2) 44 u5 acc ∧ At wq (w.heap.size + 1) (.int .i64 ln) (.int .i64 (co + j)) ∧ (∃ a b, At wq w.heap.size a b) ∧ w.heap.size + 2 ≤ wq.heap.size ∧ Below w.heap.size w wq) (fun u _ => szOf u)
        case atStart => exact ⟨s', 0, rfl, by omega, H0, ho, by simpa using hA, ⟨a, b, hR⟩, hsize, hb⟩
        case round =>
          obtain ⟨s2, j, rfl, hj, hM, ho2, hA2, ⟨a2, b2, hR2⟩, hsz2, hb2⟩ := hrel
          have hT2 := hT.below hb2 (Nat.le_refl _)
          obtain ⟨y0, y1, y2, y3⟩ := id hA2
          by_cases hz3 : 0 < s2.size
          · have f2 : (s2.size : Int) > 0 := by omega
            have f3 : (0 : Int) < (s2.size : Int) := by omega
            obtain ⟨d, r2, hl2⟩ : ∃ d r2, bl s2 = d :: r2 := by
              match hbl : bl s2 with
              | [] => have := bl_length s2; rw [hbl] at this; simp at this; omega
              | d :: r2 => exact ⟨d, r2, rfl⟩
            have hd0 : s2[0] = d := by rw [get_bl]; simp [hl2]
            have hMM := hM.out
            rw [hl2] at hMM
            by_cases d10 : d.toNat = 10
            · have f10 : ((d.toNat : Int) != 10) = false := by simp; omega
              have hE := hMM.stop d10
              have hn : Hid (comb acc (wrds (runes (bl s2)) ln (co + (j : Int)) acc.length) = (X, (pL, pC), er)) := by
                have := hN.out
                rw [hE, ← hM.out.left] at this
                exact this
              clear hMM hl2 hT2 d10
              go_wp2
              go_roundw
              case rel => exact ⟨_, ln, co + j, acc, rfl, by omega, hn, by omega, by omega, by omega, by omega, hacc, ho2, hA2, ⟨a2, b2, hR2⟩, hsz2, hb2⟩
              case measure => simp [szOf]; omega
            · have f10 : ((d.toNat : Int) != 10) = true := by simp; omega
              have hst := hMM.step d10
              rw [← hl2] at hst
              have hne : bl s2 ≠ [] := by rw [hl2]; simp
              have h20 := refNext_any s2 _ hT2
              have hps := nx_pos hne
              have hnl := nx_le hne
              rw [bl_length] at hnl
              have hfr := bl_from s2 (nx (bl s2)).2
              obtain ⟨x, hx⟩ : ∃ x, (nx (bl s2)).1 = x := ⟨_, rfl⟩
              obtain ⟨q, hq⟩ : ∃ q, (nx (bl s2)).2 = q := ⟨_, rfl⟩
              rw [hx, hq] at h20
              rw [hq] at hps hnl hfr hst
              have hq0 : (0 : Int) ≤ (q : Int) := by omega
              have hq1 : (q : Int) ≤ (s2.size : Int) := by omega
              have hsx : (s2.extract q s2.size).size = s2.size - q := by rw [ByteArray.size_extract]; omega
              have hn : Hid (Rem R (j + 1) (bl (s2.extract q s2.size))) := by rw [hfr]; exact hst
              have hw1 : IntKind.i64.wrap (co + (j : Int) + 1) = co + j + 1 := by rw [IntKind.wrap_i64]; omega
              clear hMM hl2 hT2 d10 hst hne hfr hx hq
              go_wp2_with (first
                | (go_at_call 16; refine h20.mono ?_; rintro e w1 ⟨rfl, b1⟩; have hA3 := hA2.keep b1; have hR3 := hR2.keep b1; have ho3 := ho2.below b1 (Nat.le_refl _); obtain ⟨v0, v1, v2, v3⟩ := id hA3; have bb := hb2.trans (b1.mono hb2.size); have hsz3 : w.heap.size + 2 ≤ w1.heap.size := Nat.le_trans hsz2 b1.size; clear h20 hA2 hR2 hb2 ho2 y0 y1 y2 y3))
              go_roundw
              case rel => exact ⟨_, j + 1, rfl, by omega, hn, ho3.set (by simp) _, by have := hA3.set1 (.int .i64 (co + (j : Int) + 1)); rw [show co + ((j + 1 : Nat) : Int) = co + (j : Int) + 1 by omega]; exact this, ⟨a2, b2, hR3.far (by omega) _⟩, by simpa using hsz3, bb.setCell (by simp) _⟩
              case measure => simp [szOf]; omega
          · have f2 : ¬ (s2.size : Int) > 0 := by omega
            have hnil : bl s2 = [] := List.eq_nil_of_length_eq_zero (by rw [bl_length]; omega)
            have hMM := hM.out
            rw [hnil] at hMM
            have hE := hMM.stop_nil
            have hn : Hid (comb acc (wrds (runes (bl s2)) ln (co + (j : Int)) acc.length) = (X, (pL, pC), er)) := by
              have := hN.out
              rw [hE, ← hM.out.left] at this
              exact this
            clear hMM hnil hT2
            go_wp2
            go_roundw
            case rel => exact ⟨_, ln, co + j, acc, rfl, by omega, hn, by omega, by omega, by omega, by omega, hacc, ho2, hA2, ⟨a2, b2, hR2⟩, hsz2, hb2⟩
            case measure => simp [szOf]; omega
      have g35 : ((c.toNat : Int) == 35) = false := beq_eq_false_iff_ne.2 (by omega)
      have h23 := refFirst_any s' _ hTr (by omega) hz
      have hcs := runes_cons (l := c :: r) (by simp)
      have n10 : ¬ (nx (c :: r)).1 = 10 := fun e => c10 ((head_is c r (k := 10) (by omega)).1 e)
      have n32 : ¬ ((nx (c :: r)).1 = 32 ∨ (nx (c :: r)).1 = 9) := fun e => c32 (e.elim (fun e => .inl ((head_is c r (k := 32) (by omega)).1 e)) (fun e => .inr ((head_is c r (k := 9) (by omega)).1 e)))
      have n35 : ¬ (nx (c :: r)).1 = 35 := fun e => c35 ((head_is c r (k := 35) (by omega)).1 e)
      rw [hcs, wrds_cons, if_neg n10, if_neg n32, if_neg n35, ← hcs, ← hl] at hvv
      have hfl : (fst1 (runes (bl s'))).1 ≠ 0 → 1 ≤ (fst1 (runes (bl s'))).2 ∧ (fst1 (runes (bl s'))).2 ≤ (runes (bl s')).length := by rw [hl, hcs]; exact fst1_le _ _
      obtain ⟨K, hK⟩ : ∃ K, (fst1 (runes (bl s'))).1 = K := ⟨_, rfl⟩
      obtain ⟨m, hm⟩ : ∃ m, (fst1 (runes (bl s'))).2 = m := ⟨_, rfl⟩
      obtain ⟨n, hn⟩ : ∃ n, firstB (bl s') = n := ⟨_, rfl⟩
      have hn2 : (byt ((runes (bl s')).take m)).length = n := by rw [← hn, ← hm]; rfl
      rw [hK, hm] at hvv hfl h23
      rw [hn] at h23
      by_cases k0 : K = 0
      · rw [if_pos k0, comb_err _ _ _ (by decide)] at hvv
        simp only [Prod.mk.injEq] at hvv
        obtain ⟨rfl, ⟨rfl, rfl⟩, rfl⟩ := hvv
        subst k0
        clear hl hf1 hcs n10 n32 n35 hfl hK hm hn hn2 c10 c32 c35 hT hTr y0 y1 y2 y3 z0 z1 z2 z3
        go_wp2_with (first
          | (go_at_call 17; refine h23.mono ?_; rintro e w1 ⟨rfl, b1⟩; have hA3 := hA.keep b1; have hR3 := hR.keep b1; obtain ⟨y0, y1, y2, y3⟩ := id hA3; obtain ⟨z0, z1, z2, z3⟩ := id hR3; have bb := hb.trans (b1.mono hb.size); clear h23 hA hR hb ho))
        have hQ := (hR3.set0 (.int .i64 ln)).set1 (.int .i64 co)
        obtain ⟨q0, q1, q2, q3⟩ := id hQ
        have bq : Below w.heap.size w ((w1.setCell ⟨w.heap.size, 0, none⟩ (.int .i64 ln)).setCell ⟨w.heap.size, 1, none⟩ (.int .i64 co)).drew := ((bb.setCell (by simp) _).setCell (by simp) _).drew
        clear hQ hA3 hR3
        go_region
        all_goals go_wp2
        all_goals exact bodyPost_ret (v := .tuple #[.slice none 0 0, .agg #[.int .i64 ln, .int .i64 co], .int .i64 11]) (by simp [results, Tryd.results11, go_sem, q0, q1]) rfl ⟨_, rfl, ownW_nil _ _ _, bq⟩
      have hk0 : ((K : Int) == 0) = false := beq_eq_false_iff_ne.2 (by omega)
      obtain ⟨hm1, hm2⟩ := hfl k0
      rw [if_neg k0] at hvv
      by_cases a3 : acc.length = 3000
      · rw [if_pos a3, comb_err _ _ _ (by decide)] at hvv
        simp only [Prod.mk.injEq] at hvv
        obtain ⟨rfl, ⟨rfl, rfl⟩, rfl⟩ := hvv
        have hlen : ∃ ao ac, u5 = .slice ao acc.length ac := by
          rcases ho.2 with ⟨h, h2⟩ | ⟨g, cp, _, h, _⟩
          · exact ⟨none, 0, by rw [h, h2]⟩
          · exact ⟨_, _, h⟩
        obtain ⟨ao, ac, rfl⟩ := hlen
        have h3 : ((acc.length : Int) == 3000) = true := by simp; omega
        clear hl hf1 hcs n10 n32 n35 hfl hK hm hn hn2 c10 c32 c35 hT hTr y0 y1 y2 y3 z0 z1 z2 z3 k0 a3
        go_wp2_with (first
          | (go_at_call 17; refine h23.mono ?_; rintro e w1 ⟨rfl, b1⟩; have hA3 := hA.keep b1; have hR3 := hR.keep b1; obtain ⟨y0, y1, y2, y3⟩ := id hA3; obtain ⟨z0, z1, z2, z3⟩ := id hR3; have bb := hb.trans (b1.mono hb.size); clear h23 hA hR hb ho))
        have hQ := (hR3.set0 (.int .i64 ln)).set1 (.int .i64 co)
        obtain ⟨q0, q1, q2, q3⟩ := id hQ
        have bq : Below w.heap.size w ((w1.setCell ⟨w.heap.size, 0, none⟩ (.int .i64 ln)).setCell ⟨w.heap.size, 1, none⟩ (.int .i64 co)).drew := ((bb.setCell (by simp) _).setCell (by simp) _).drew
        clear hQ hA3 hR3
        go_region
        all_goals go_wp2
        all_goals exact bodyPost_ret (v := .tuple #[.slice none 0 0, .agg #[.int .i64 ln, .int .i64 co], .int .i64 4]) (by simp [results, Tryd.results11, go_sem, q0, q1]) rfl ⟨_, rfl, ownW_nil _ _ _, bq⟩
      rw [if_neg a3, comb_pre] at hvv
      have hge := byt_ge (l := bl s') ((runes (bl s')).take m) (fun v hv => List.mem_of_mem_take hv)
      rw [List.length_take, Nat.min_eq_left hm2, hn2] at hge
      have hspl := byt_split (runes (bl s')) m
      rw [byt_runes _ _ (Nat.le_refl _), hn2, bl_length] at hspl
      have hrd := runes_drop m (bl s') hm2
      rw [hn2, ← bl_from] at hrd
      have htx := txt_eq s' m
      rw [hn2] at htx
      obtain ⟨seg, hseg⟩ : ∃ seg, (runes (bl s')).take m = seg := ⟨_, rfl⟩
      rw [hseg] at hvv htx
      have hN : Hid (comb (acc ++ [(K, seg, ln, co)]) (wrds (runes (bl (s'.extract n s'.size))) ln (co + (m : Int)) (acc ++ [((K, seg, ln, co) : Wd)]).length) = (X, (pL, pC), er)) := by
        rw [hrd, List.length_append]; exact hvv
      have hq0 : (0 : Int) ≤ (n : Int) := by omega
      have hq1 : (n : Int) ≤ (s'.size : Int) := by omega
      have hsx : (s'.extract n s'.size).size = s'.size - n := by rw [ByteArray.size_extract]; omega
      have hw1 : IntKind.i64.wrap (co + (m : Int)) = co + m := by rw [IntKind.wrap_i64]; omega
      have hlen : ∃ ao ac, u5 = .slice ao acc.length ac := by
        rcases ho.2 with ⟨h, h2⟩ | ⟨g, cp, _, h, _⟩
        · exact ⟨none, 0, by rw [h, h2]⟩
        · exact ⟨_, _, h⟩
      obtain ⟨ao, ac, hu5⟩ := hlen
      have h3 : ((acc.length : Int) == 3000) = false := beq_eq_false_iff_ne.2 (by omega)
      have hac : acc.length < 3000 := by omega
      clear hl hf1 hcs n10 n32 n35 hfl hK hm hn hn2 c10 c32 c35 hT hTr y0 y1 y2 y3 z0 z1 z2 z3 k0 a3 hvv hrd hseg hspl
      subst hu5
      go_wp2_with (first
        | (go_at_call 17; refine h23.mono ?_; rintro e w1 ⟨rfl, b1⟩; have hA3 := hA.keep b1; have hR3 := hR.keep b1; have ho3 := ho.below b1 (Nat.le_refl _); obtain ⟨y0, y1, y2, y3⟩ := id hA3; have bb := hb.trans (b1.mono hb.size); have hsz3 : w.heap.size + 2 ≤ w1.heap.size := Nat.le_trans hsize b1.size; clear h23 hA hR hb ho))
      go_region_held_law (fun w' => w'.cell? ⟨w.heap.size + 1, 0, none⟩ = some (.int .i64 ln) ∧ w'.cell? ⟨w.heap.size + 1, 1, none⟩ = some (.int .i64 co))
        (first | exact ⟨y0, y1⟩ | exact ⟨p0, p1⟩ | go_keep)
        ((refine step_append_both _ (by rfl) (.tmp 74) (.tmp 81) 36 36 (by rfl) (w.heap.size + 2) 44 i0 (.agg #[.int .i64 0, .string ⟨#[]⟩, .int .i64 0, .int .i64 0]) 4 40 Tryd.underlying36 hi hz0 hz1 hz2 rfl _ acc.length _ (by rfl) ((World.ownsRow.alloc ho3 _).drew) _ 1 (celW (K, seg, ln, co)) (by rfl) (src_word_drew Tryd.underlying36 w1 (K, seg, ln, co)) 1 (.inr (by omega)) (Nat.le_refl _) (by unfold maxLen; omega) (by simp; omega) ?_; intro v4 w4 ho4 hg4 _; have bel4 : Below (w.heap.size + 2) w1 w4 := (((Below.refl _ _).alloc hsz3 _).drew).grown hg4 (by simp; omega) (fun k hk => (World.ownsRow.lt ho3 k hk).1); obtain ⟨p0, p1, p2, p3⟩ := hA3.keepB bel4 (by omega)))
      have hA4 : At w4 (w.heap.size + 1) (.int .i64 ln) (.int .i64 co) := ⟨p0, p1, p2, p3⟩
      have hR4 := hR3.keepB bel4 (by omega)
      have b4 := bb.trans (bel4.mono (by omega))
      have ho5 := ownW_snoc ho4
      have hsz4 : w.heap.size + 2 ≤ w4.heap.size := Nat.le_trans hsz3 bel4.size
      clear ho4 hg4 ho3 hA3 hR3 bel4 bb y0 y1 y2 y3 htx
      go_wp2
      go_roundw
      case rel =>
        exact ⟨_, ln, co + m, acc ++ [(K, seg, ln, co)], rfl, by omega, hN, by omega, by omega, by omega, by omega, by simp; omega, ho5.set (by simp) _, hA4.set1 _, ⟨a, b, hR4.far (by omega) _⟩, by simpa using hsz4, b4.setCell (by simp) _⟩
      case measure => simp [szOf]; omega
    · have e2 : ¬ (s'.size : Int) > 0 := by omega
      have hnil : bl s' = [] := List.eq_nil_of_length_eq_zero (by rw [bl_length]; omega)
      have hvv := hv.out
      rw [hnil, runes_nil, comb_end] at hvv
      simp only [Prod.mk.injEq] at hvv
      obtain ⟨rfl, ⟨rfl, rfl⟩, rfl⟩ := hvv
      have hA2 := (hR.set0 (.int .i64 0)).set1 (.int .i64 0)
      obtain ⟨q0, q1, q2, q3⟩ := id hA2
      have b2 : Below w.heap.size w ((wr.setCell ⟨w.heap.size, 0, none⟩ (.int .i64 0)).setCell ⟨w.heap.size, 1, none⟩ (.int .i64 0)) := (hb.setCell (by simp) _).setCell (by simp) _
      have o2 := (ho.set (a := ⟨w.heap.size, 0, none⟩) (by simp) (.int .i64 0)).set (a := ⟨w.heap.size, 1, none⟩) (by simp) (.int .i64 0)
      clear hnil hT hTr hA hR hA2 hv HE ho
      go_wp2
      exact bodyPost_ret (v := .tuple #[u5, .agg #[.int .i64 0, .int .i64 0], .int .i64 0]) (by simp [results, Tryd.results11, go_sem, q0, q1]) rfl ⟨_, rfl, o2.base (by omega), b2⟩
end Go.Proofs.YtiddccohldjjcaaDoor
