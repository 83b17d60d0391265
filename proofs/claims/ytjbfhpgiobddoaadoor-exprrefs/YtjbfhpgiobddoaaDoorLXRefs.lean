/- The walk of ExprRefs. -/
import Derived.Test.YtjbfhpgiobddoaaDoorPxR
import Derived.Test.YtjbfhpgiobddoaaDoorRfV
import Derived.Test.YtjbfhpgiobddoaaDoorExA
import Derived.Test.YtjbfhpgiobddoaaDoorExD
import Derived.Test.YtjbfhpgiobddoaaDoorExI
import Derived.Test.YtjbfhpgiobddoaaDoorFew
import Derived.Deep.RegionHeld
import Derived.Deep.DrawnRows
namespace Go.Proofs.YtjbfhpgiobddoaaDoor
open Go.RowKit Go.Lib
set_option linter.unusedSimpArgs false
set_option linter.unusedVariables false
attribute [local go_sem ↓] Go.wp_at_zero Go.wp_at_succ

theorem RdS.at {w : World} {v : Value} {ls : List ByteArray} (h : RdS w v ls) : ∃ a cap, v = .slice a ls.length cap ∧ ∀ (i : Nat) (hi : i < ls.length), ∃ g, a = some ⟨g, 0, none⟩ ∧ g < w.heap.size ∧ w.cell? ⟨g, i, none⟩ = some (.string ls[i]) := by
  rcases h.form with ⟨rfl, rfl⟩ | ⟨g, cap, rfl, h1, h2, hc⟩
  · exact ⟨_, _, rfl, fun i hi => by simp at hi⟩
  · exact ⟨_, _, rfl, fun i hi => ⟨g, rfl, World.block_lt_of_cell? w _ (hc i hi), hc i hi⟩⟩

theorem Tryd.infoV : (Tryd.prog.info? 46).map (fun i => (i.zero, i.size, i.bytes)) = some (some (.agg #[.string ⟨#[]⟩, .int .i64 0]), 2, 24) := by kernel_rfl
theorem src_var (w : World) (x : ByteArray) (y : Int) : Src Tryd.prog 2 35 (.slice (some ⟨w.heap.size, 0, none⟩) 1 1) 1 [.string x, .int .i64 y] (w.alloc (.cells #[.string x, .int .i64 y] 46)) := by
  refine Src.ofSlice _ Tryd.underlying35 _ 1 1 _ (by simp) (fun j u hu => ?_) (fun u hu => ?_)
  · match j, hu with
    | 0, hu => simp at hu; subst hu; simp [Addr.add]
    | 1, hu => simp at hu; subst hu; simp [Addr.add]
    | j + 2, hu => simp at hu
  · simp at hu
    rcases hu with rfl | rfl <;> rfl

set_option maxRecDepth 100000 in
set_option maxHeartbeats 8000000 in
theorem exprRefs_any {w : World} (hT : Tabs w) {d : Nat} {t : T d} {v vv : Value} {vs : List Vr} (h : RdT (fun _ => True) w d t v) (hv : RdV w vv vs) :
    Calls Tryd.prog 5 #[v, vv] w fun e w' => e = .returned (.bool true) ∧ Below w.heap.size w w' := by
  match d, t, h with
  | 0, t, _ => exact Empty.elim t
  | d + 1, t, h =>
  obtain ⟨k, n, s, ps, rfl⟩ := T.open t
  have h0 := h
  obtain ⟨sl, rfl, hp⟩ := rdT_mk.1 h
  clear hp h
  have hb0 := (Below.refl w.heap.size w).alloc (Nat.le_refl _) (.cells #[.int .i64 k, .int .i64 n, .string s, sl] 24)
  have hA := At4.new w (.int .i64 k) (.int .i64 n) (.string s) sl 24
  have h1 := awakeX evalP (w.alloc (.cells #[.int .i64 k, .int .i64 n, .string s, sl] 24))
  have h2 := fun w1 (b : Below w.heap.size w w1) => refSmallTop_any (RdT.below b (Nat.le_refl _) h0)
  have h3 := fun w1 (b : Below w.heap.size w w1) => few_any (hv.below b (Nat.le_refl _))
  have h4 := fun w1 => awakeX evalP w1
  by_cases hsm : 0 ≤ sml (d + 1) (mkT k n s ps) 0 200
  case neg =>
    simp only [decide_eq_false hsm] at h2
    clear h3 hsm
    go_enter Tryd.func5, Tryd.ntmps5
    go_wp2_with (first
      | (go_at_call 6; refine h1.mono ?_; rintro e w1 ⟨rfl, b1⟩; have bb1 := hb0.trans (b1.mono hb0.size); obtain ⟨y0, y1, y2, y3⟩ := hA.keepB b1 (by simp); have h2' := h2 w1 bb1; clear h1 h2)
      | (go_at_call 7; refine h2'.mono ?_; rintro e w2 ⟨rfl, b2⟩; have bb2 := bb1.trans (b2.mono bb1.size); have h4' := h4 w2; clear h2' h4 y0 y1 y2 y3)
      | (go_at_call 6; refine h4'.mono ?_; rintro e w3 ⟨rfl, b3⟩; have bb3 := bb2.trans (b3.mono bb2.size); clear h4'))
    go_ret
    exact ⟨rfl, bb3⟩
  simp only [decide_eq_true hsm] at h2
  cases hfw : fewS vs with
  | false =>
    simp only [hfw] at h3
    clear hsm
    go_enter Tryd.func5, Tryd.ntmps5
    go_wp2_with (first
      | (go_at_call 6; refine h1.mono ?_; rintro e w1 ⟨rfl, b1⟩; have bb1 := hb0.trans (b1.mono hb0.size); obtain ⟨y0, y1, y2, y3⟩ := hA.keepB b1 (by simp); have h2' := h2 w1 bb1; clear h1 h2)
      | (go_at_call 7; refine h2'.mono ?_; rintro e w2 ⟨rfl, b2⟩; have bb2 := bb1.trans (b2.mono bb1.size); have h3' := h3 w2 bb2; have h4' := h4 w2; clear h2' h3 h4 y0 y1 y2 y3)
      | (go_at_call 14; refine h3'.mono ?_; rintro e w' ⟨rfl, rfl⟩; clear h3')
      | (go_at_call 6; refine h4'.mono ?_; rintro e w3 ⟨rfl, b3⟩; have bb3 := bb2.trans (b3.mono bb2.size); clear h4'))
    go_ret
    exact ⟨rfl, bb3⟩
  | true =>
    simp only [hfw] at h3
    have hvl : vs.length ≤ 200 := by unfold fewS at hfw; simp only [Bool.and_eq_true, decide_eq_true_eq] at hfw; exact hfw.1
    obtain ⟨hc1, hc2⟩ := small_cln hsm
    have hcl := cl_cln (d + 1) (mkT k n s ps)
    have h5 := fun w1 (b : Below w.heap.size w w1) => theirs_any (d + 1) _ _ _ w1 (RdT.below b (Nat.le_refl _) h0)
    have h6 := fun w1 (us : List Vr) (uv : Value) (hu : RdV w1 uv us) (hl : us.length ≤ 10000) => evalP (d + 2) (cln (d + 1) (mkT k n s ps)) us uv w1 hcl (Nat.le_trans hc1 (by omega)) hc2 hu hl
    have h7 := fun w1 (b : Below w.heap.size w w1) => clean_any (d + 1) _ _ _ w1 (RdT.below b (Nat.le_refl _) h0)
    have h8 := fun w1 (b : Below w.heap.size w w1) (lo : Nat) (u : Value) (hu : RdT (fun b => lo ≤ b) w1 (d + 2) (cln (d + 1) (mkT k n s ps)) u) => refRefs_any (hT.below b (Nat.le_refl _)) hu hc1 hc2
    have h9 := fun w1 => refs_anyP (d := d + 2) (t := cln (d + 1) (mkT k n s ps)) w1 hcl hc1 hc2
    have hev := evX_own vs (d + 2) (cln (d + 1) (mkT k n s ps))
    have hrl := rfT_len (d + 2) (cln (d + 1) (mkT k n s ps))
    rw [exV_cln] at h6 h9
    obtain ⟨ex, hex⟩ : ∃ ex, exV (d + 1) (mkT k n s ps) = ex := ⟨_, rfl⟩
    simp only [hex] at h5 h6 h9
    obtain ⟨R, hRR⟩ : ∃ R, rfT (d + 2) (cln (d + 1) (mkT k n s ps)) = R := ⟨_, rfl⟩
    simp only [hRR] at h8 h9 hev hrl
    obtain ⟨c, hcc⟩ : ∃ c, cln (d + 1) (mkT k n s ps) = c := ⟨_, rfl⟩
    simp only [hcc] at h6 h7 h8 hev
    obtain ⟨i0, hi, hz0, hz1, hz2⟩ := info_parts Tryd.infoV
    obtain ⟨va, vcap, rfl, hvc, hvm, hvcell⟩ := hv.form
    have HV : Hid (∀ (i : Nat) (hi : i < vs.length), ∃ b off, va = some ⟨b, off, none⟩ ∧ b < w.heap.size ∧ w.cell? ⟨b, off + i * 2, none⟩ = some (.string (vs[i]).1) ∧ w.cell? ⟨b, off + i * 2 + 1, none⟩ = some (.int .i64 (vs[i]).2)) := hvcell
    clear hvcell
    have hev2 : Hid (evX (ownV R vs) (d + 2) c = evX vs (d + 2) c) := hev
    clear hsm hfw hex hRR hcc hcl hc1 hc2 h4 hT hev
    go_enter Tryd.func5, Tryd.ntmps5
    go_wp2_with (first
      | (go_at_call 6; refine h1.mono ?_; rintro e w1 ⟨rfl, b1⟩; have bb1 := hb0.trans (b1.mono hb0.size); have hA1 := hA.keepB b1 (by simp); obtain ⟨y0, y1, y2, y3⟩ := id hA1; have h2' := h2 w1 bb1; clear h1 h2)
      | (go_at_call 7; refine h2'.mono ?_; rintro e w2 ⟨rfl, b2⟩; have bb2 := bb1.trans (b2.mono bb1.size); have hA2 := hA1.keepB b2 (World.block_lt_of_cell? w1 _ y0); obtain ⟨z0, z1, z2, z3⟩ := id hA2; have h3' := h3 w2 bb2; clear h2' h3 y0 y1 y2 y3)
      | (go_at_call 14; refine h3'.mono ?_; rintro e w' ⟨rfl, rfl⟩; clear h3'))
    have bd : Below w2.heap.size w2 w2.drew := (Below.refl _ _).drew
    have bb := bthen bb2 bd
    have hA := hA2.on bd
    have s1 := h5 _ bb
    clear z0 z1 z2 z3 bd bb1 bb2 hA1 hA2 b1 b2
    go_region_held (fun w' => w'.cell? ⟨w.heap.size, 0, none⟩ = some (.int .i64 k) ∧ w'.cell? ⟨w.heap.size, 1, none⟩ = some (.int .i64 n) ∧ w'.cell? ⟨w.heap.size, 2, none⟩ = some (.string s) ∧ w'.cell? ⟨w.heap.size, 3, none⟩ = some sl)
      (first | exact ⟨hA.1, hA.2.1, hA.2.2.1, hA.2.2.2⟩ | go_keep)
      (first
        | (go_at_call 8; refine s1.mono ?_; rintro r wn ⟨rfl, bn⟩; have bb := bthen bb bn; have hA := hA.on bn; have s2 := h9 wn; clear s1)
        | (go_at_call 17; refine s2.mono ?_; rintro r wn ⟨lv, rfl, hlv, bn⟩; have bb := bthen bb bn; have hA := hA.on bn; have s3 := h7 wn bb; clear s2)
        | (go_at_call 11; refine s3.mono ?_; rintro r wn ⟨x1, rfl, hx1, bn⟩; have bb := bthen bb bn; have hA := hA.on bn; have hlv := hlv.below bn (Nat.le_refl _); have s4 := h8 wn bb _ x1 hx1; clear s3)
        | (go_at_call 18; refine s4.mono ?_; rintro r wn ⟨mv, rfl, hmv, bn⟩; have bb := bthen bb bn; have hA := hA.on bn; have hlv := hlv.below bn (Nat.le_refl _); clear s4))
    obtain ⟨la, lc, rfl, hlc⟩ := hlv.at
    obtain ⟨ma, mc, rfl, hmc⟩ := hmv.at
    have HL : Hid (∀ (i : Nat) (hi : i < R.length), ∃ g, la = some ⟨g, 0, none⟩ ∧ g < wn.heap.size ∧ wn.cell? ⟨g, i, none⟩ = some (.string R[i])) := hlc
    have HM : Hid (∀ (i : Nat) (hi : i < R.length), ∃ g, ma = some ⟨g, 0, none⟩ ∧ g < wn.heap.size ∧ wn.cell? ⟨g, i, none⟩ = some (.string R[i])) := hmc
    clear hlc hmc hlv hmv h7 h8 h9 hx1
    go_wp2
    go_loopw [41] (fun i wr => ∃ j : Nat, j ≤ R.length ∧ i = .int .i64 (j : Int) ∧ Below wn.heap.size wn wr) (fun i _ => R.length - (RowKit.intOf i).toNat)
    case atStart => exact ⟨0, Nat.zero_le _, rfl, Below.refl _ _⟩
    case round =>
      obtain ⟨j, hj, rfl, hbr⟩ := hrel
      have i2 : (0 : Int) ≤ (j : Int) := by omega
      by_cases hlt : j < R.length
      · have i3 : (j : Int) < (R.length : Int) := by omega
        obtain ⟨g1, rfl, q1, c1⟩ := HL.out j hlt
        obtain ⟨g2, rfl, q2, c2⟩ := HM.out j hlt
        have c1 := (hbr.cell (p := ⟨g1, j, none⟩) q1).trans c1
        have c2 := (hbr.cell (p := ⟨g2, j, none⟩) q2).trans c2
        obtain ⟨x, hx⟩ : ∃ x, R[j] = x := ⟨_, rfl⟩
        rw [hx] at c1 c2
        clear hx
        go_wp2
        go_region_held (fun w' => w'.cell? ⟨g1, j, none⟩ = some (.string x) ∧ w'.cell? ⟨g2, j, none⟩ = some (.string x)) (first | exact ⟨c1, c2⟩ | go_keep) (fail)
        go_wp2
        go_roundw
        case rel => exact ⟨j + 1, hlt, by go_num, hbr.drew⟩
        case measure => simp [RowKit.intOf]; omega
      · have i3 : ¬ (j : Int) < (R.length : Int) := by omega
        clear HM
        have hA' := hA.on hbr
        have bb' := bthen bb hbr
        go_wp2
        have hoo : wr.ownsRow wn.heap.size 46 2 (.slice none 0 0) ([] : List Vr).length (celV []) := World.ownsRow_nil wr _ _ 2
        have hbr0 := hbr
        obtain ⟨wq, hwq⟩ : ∃ wq, wr = wq := ⟨_, rfl⟩
        rw [hwq] at hoo hbr0 hA' bb' ⊢
        clear hwq hbr hlt i3 i2 hj
        go_loopw [7, 56] (fun p i wr => ∃ (j : Nat) (cur : List Vr), j ≤ vs.length ∧ i = .int .i64 (j : Int) ∧ wr.ownsRow wn.heap.size 46 2 p cur.length (celV cur) ∧ Hid (cur = ownV R (vs.take j)) ∧ Below wn.heap.size wn wr) (fun _ i _ => vs.length - (RowKit.intOf i).toNat)
        case atStart => exact ⟨0, [], Nat.zero_le _, rfl, hoo, rfl, hbr0⟩
        case round =>
          obtain ⟨j, cur, hj, rfl, ho, hcur, hbr⟩ := hrel
          have i2 : (0 : Int) ≤ (j : Int) := by omega
          by_cases hlt : j < vs.length
          · have i3 : (j : Int) < (vs.length : Int) := by omega
            obtain ⟨vb, voff, rfl, hvb, v0, v1⟩ := HV.out j hlt
            have hstep := ownV_step R vs j hlt
            have hbase0 : Hid (cur = ownV R (vs.take j) ++ own1 (R.take 0) vs[j]) := by show _ = _; rw [hcur.out]; simp [own1]
            have hlen0 : (ownV R (vs.take j)).length ≤ 8000 := by
              refine Nat.le_trans (ownV_len R _) ?_
              have : (vs.take j).length ≤ 200 := by rw [List.length_take]; omega
              exact Nat.mul_le_mul hrl this
            have hO1 := fun q => own1_len (R.take q) vs[j]
            have hS1 := fun q h => own1_step R vs[j] q h
            obtain ⟨⟨xs, xn⟩, hxx⟩ : ∃ x, vs[j] = x := ⟨_, rfl⟩
            rw [hxx] at v0 v1 hstep hbase0
            simp only [hxx] at hO1 hS1
            have hq : ∀ w3, Below wn.heap.size wn w3 → w3.cell? ⟨vb, voff + j * 2, none⟩ = some (.string xs) ∧ w3.cell? ⟨vb, voff + j * 2 + 1, none⟩ = some (.int .i64 xn) := fun w3 b3 => by
              have hbw : Below w.heap.size w w3 := bb.trans (b3.mono bb.size)
              exact ⟨(hbw.cell (p := ⟨vb, voff + j * 2, none⟩) hvb).trans v0, (hbw.cell (p := ⟨vb, voff + j * 2 + 1, none⟩) hvb).trans v1⟩
            obtain ⟨P, hP⟩ : ∃ P, ownV R (vs.take j) = P := ⟨_, rfl⟩
            rw [hP] at hbase0 hlen0 hstep
            have HS1 : Hid (∀ (q : Nat) (h : q < R.length), own1 (R.take (q + 1)) (xs, xn) = own1 (R.take q) (xs, xn) ++ (if R[q] = xs then [(xs, xn)] else [])) := hS1
            have HO1 : Hid (∀ q, (own1 (R.take q) (xs, xn)).length ≤ (R.take q).length) := hO1
            have HQ : Hid (∀ w3, Below wn.heap.size wn w3 → w3.cell? ⟨vb, voff + j * 2, none⟩ = some (.string xs) ∧ w3.cell? ⟨vb, voff + j * 2 + 1, none⟩ = some (.int .i64 xn)) := hq
            have HST : Hid (ownV R (vs.take (j + 1)) = P ++ own1 R (xs, xn)) := hstep
            obtain ⟨wo, hwo⟩ : ∃ wo, wr = wo := ⟨_, rfl⟩
            rw [hwo] at ho hbr ⊢
            clear hwo hxx hP hcur hstep hO1 hS1 hq v0 v1 hvb
            go_wp2
            go_loopw [7, 61] (fun p i wr => ∃ (q : Nat) (cur : List Vr), q ≤ R.length ∧ i = .int .i64 (q : Int) ∧ wr.ownsRow wn.heap.size 46 2 p cur.length (celV cur) ∧ Hid (cur = P ++ own1 (R.take q) (xs, xn)) ∧ Below wn.heap.size wn wr) (fun _ i _ => R.length - (RowKit.intOf i).toNat)
            case atStart => exact ⟨0, cur, Nat.zero_le _, rfl, ho, hbase0, hbr⟩
            case round =>
              obtain ⟨q, cur2, hq, rfl, ho2, hcur2, hb2⟩ := hrel
              have i4 : (0 : Int) ≤ (q : Int) := by omega
              by_cases hlq : q < R.length
              · have i5 : (q : Int) < (R.length : Int) := by omega
                obtain ⟨g1, rfl, q1, c1⟩ := HL.out q hlq
                have c1 := (hb2.cell (p := ⟨g1, q, none⟩) q1).trans c1
                obtain ⟨c2, c3⟩ := HQ.out wr hb2
                have hst := HS1.out q hlq
                have hcl2 : cur2.length ≤ 9000 := by
                  rw [hcur2.out, List.length_append]
                  have := HO1.out q
                  rw [List.length_take] at this
                  omega
                obtain ⟨x, hx⟩ : ∃ x, R[q] = x := ⟨_, rfl⟩
                rw [hx] at c1 hst
                clear hx
                by_cases hxe : x = xs
                · subst hxe
                  rw [if_pos rfl] at hst
                  have hcN : Hid (cur2 ++ [(x, xn)] = P ++ own1 (R.take (q + 1)) (x, xn)) := by show _ = _; rw [hst, hcur2.out, List.append_assoc]
                  have hb3 := hb2.drew
                  have ho3 : wr.drew.ownsRow wn.heap.size 46 2 u7 cur2.length (celV cur2) := ho2
                  have hsz := hb2.size
                  clear hst
                  go_wp2
                  go_region_held (fun w' => w'.cell? ⟨g1, q, none⟩ = some (.string x) ∧ w'.cell? ⟨vb, voff + j * 2, none⟩ = some (.string x)) (first | exact ⟨c1, c2⟩ | go_keep) (fail)
                  go_wp2_with (first
                    | (at_builtin; refine wpList_append_both _ rfl (.tmp 74) (.tmp 79) 35 35 rfl wn.heap.size 46 i0 (.agg #[.string ⟨#[]⟩, .int .i64 0]) 2 24 Tryd.underlying35 hi hz0 hz1 hz2 rfl u7 cur2.length _ rfl (World.ownsRow.alloc ho3 _) _ 1 [.string x, .int .i64 xn] rfl (src_var wr.drew x xn) 1 (.inr (by omega)) (Nat.le_refl _) (by unfold maxLen; omega) (by simp; omega) ?_; intro v5 w5 ho5 hg5 _; have bel5 := (hb3.alloc hb3.size (.cells #[.string x, .int .i64 xn] 46)).grown hg5 (by simp; omega) (fun k hk => (World.ownsRow.lt ho2 k hk).1)))
                  have ho6 : w5.ownsRow wn.heap.size 46 2 v5 (cur2.length + 1) (celV (cur2 ++ [(x, xn)])) := by rw [celV_snoc]; exact ho5
                  clear hg5 ho2 ho3 hb2 hb3
                  go_roundw
                  case rel => exact ⟨q + 1, cur2 ++ [(x, xn)], hlq, by go_num, by rw [List.length_append]; exact ho6, hcN, bel5⟩
                  case measure => simp [RowKit.intOf]; omega
                · rw [if_neg hxe, List.append_nil] at hst
                  have hcN : Hid (cur2 = P ++ own1 (R.take (q + 1)) (xs, xn)) := by show _ = _; rw [hst, hcur2.out]
                  have hne : (x.toList == xs.toList) = false := by
                    rw [ByteArray.toList_eq, ByteArray.toList_eq]
                    exact beq_eq_false_iff_ne.2 (fun e => hxe (ByteArray.ext (Array.toList_inj.1 e)))
                  have hb3 := hb2.drew
                  have ho3 : wr.drew.ownsRow wn.heap.size 46 2 u7 cur2.length (celV cur2) := ho2
                  clear hst hxe
                  go_wp2
                  go_region_held (fun w' => w'.cell? ⟨g1, q, none⟩ = some (.string x) ∧ w'.cell? ⟨vb, voff + j * 2, none⟩ = some (.string xs)) (first | exact ⟨c1, c2⟩ | go_keep) (fail)
                  go_wp2
                  go_roundw
                  case rel => exact ⟨q + 1, cur2, hlq, by go_num, ho3, hcN, hb3⟩
                  case measure => simp [RowKit.intOf]; omega
              · have i5 : ¬ (q : Int) < (R.length : Int) := by omega
                have hcE : Hid (cur2 = ownV R (vs.take (j + 1))) := by show _ = _; rw [hcur2.out, HST.out, List.take_of_length_le (by omega)]
                go_wp2
                go_roundw
                case rel => exact ⟨j + 1, cur2, hlt, by go_num, ho2, hcE, hb2⟩
                case measure => simp [RowKit.intOf]; omega
          · have i3 : ¬ (j : Int) < (vs.length : Int) := by omega
            have hcE : cur = ownV R vs := by rw [hcur.out, List.take_of_length_le (by omega)]
            have hcl3 : cur.length ≤ 10000 := by
              rw [hcE]
              refine Nat.le_trans (ownV_len R _) (Nat.le_trans (Nat.mul_le_mul hrl hvl) (by omega))
            have hRd := rdV_own ho
            have bbz := bb.trans (hbr.mono bb.size)
            have hAz := hA.on (w' := wr) (hbr.mono (Nat.le_refl _))
            have s1 := h5 wr bbz
            have hvz := fun w3 (b : Below w.heap.size w w3) => hv.below b (Nat.le_refl _)
            have hev3 := hev2.out
            rw [← hcE] at hev3
            have h10 := fun w3 (b : Below w.heap.size w w3) => h6 w3 vs _ (hvz w3 b) (by omega)
            have h11 := fun w3 (b : Below wr.heap.size wr w3) => h6 w3 cur u7 (hRd.below b (Nat.le_refl _)) hcl3
            simp only [hev3] at h11
            obtain ⟨⟨y, ye⟩, hy⟩ : ∃ y, evX vs (d + 2) c = y := ⟨_, rfl⟩
            simp only [hy] at h10 h11
            unfold pr2 at h10 h11
            simp only at h10 h11
            obtain ⟨y0, y1, y2, y3⟩ := id hAz
            have bz : Below wr.heap.size wr wr := Below.refl _ _
            clear hev3 hy hcE hev2 HL HV hoo hbr0 hcur hRd hA'
            go_wp2_with (first
              | (go_at_call 8; refine s1.mono ?_; rintro r w3 ⟨rfl, b3⟩; have bbz := bthen bbz b3; have bz := bthen bz b3; have hAz := hAz.on b3; obtain ⟨y0, y1, y2, y3⟩ := id hAz; have s2 := h10 w3 bbz; clear s1)
              | (go_at_call 15; refine s2.mono ?_; rintro r w3 ⟨rfl, b3⟩; have bbz := bthen bbz b3; have bz := bthen bz b3; have hAz := hAz.on b3; obtain ⟨y0, y1, y2, y3⟩ := id hAz; have s3 := h5 w3 bbz; clear s2)
              | (go_at_call 8; refine s3.mono ?_; rintro r w3 ⟨rfl, b3⟩; have bbz := bthen bbz b3; have bz := bthen bz b3; have hAz := hAz.on b3; obtain ⟨y0, y1, y2, y3⟩ := id hAz; have s4 := h11 w3 bz; clear s3)
              | (go_at_call 15; refine s4.mono ?_; rintro r w3 ⟨rfl, b3⟩; have bbz := bthen bbz b3; clear s4))
            go_ret
            exact ⟨ret_bool (by simp), bbz⟩
end Go.Proofs.YtjbfhpgiobddoaaDoor
