
/- TreeAsks: of any nodes, formed or not, each call answers what the document says. -/
import Derived.Test.YtdekboacjjpjeaaTrX
namespace Go.Proofs.Ytdekboacjjpjeaa
open Go.RowKit Go.Lib
set_option linter.unusedSimpArgs false
set_option linter.unusedVariables false
attribute [local go_sem ↓] Go.wp_at_zero Go.wp_at_succ

def FewOut (l : List Nd) (e : Ending) : Prop := ∃ b : Bool, e = .returned (.bool b) ∧ (b = true → l.length ≤ 60)
set_option maxRecDepth 100000 in
set_option maxHeartbeats 4000000 in
theorem fewN_any {ok : Nat → Prop} {w : World} {l : List Nd} {v : Value} (h : RdNd ok w l v) :
    Calls Try.prog 17 #[v] w fun e w' => FewOut l e ∧ w = w' := by
  obtain ⟨a, cap, rfl, hlc, hcm⟩ := h.form
  unfold maxLen at hcm
  have HC := hidOf h
  obtain ⟨n, hn⟩ : ∃ n, l.length = n := ⟨_, rfl⟩
  rw [hn] at hlc ⊢
  have HN := hidOf hn
  clear h hn
  go_enter Try.func17, Try.ntmps17
  go_wp2
  go_loop [6] (fun ix => ∃ (j : Nat), j ≤ n ∧ j ≤ 60 ∧ ix = .int .i64 (j : Int)) (fun ix => n - (RowKit.intOf ix).toNat)
  case atStart => exact ⟨0, Nat.zero_le _, by omega, rfl⟩
  case round =>
    obtain ⟨j, hj, hj6, rfl⟩ := hrel
    by_cases hlt : j < n
    · obtain ⟨b, off, rfl, hbl, c0, c1, c2, c3, c4, c5, c6⟩ := nd_at HC.out j (by rw [HN.out]; exact hlt)
      generalize (nAt l j).1 = x0 at *
      clear c1 c2 c3 c4 c5 c6
      have i1 : (j : Int) < (n : Int) := by omega
      have i2 : (0 : Int) ≤ (j : Int) := by omega
      by_cases h60 : j = 60
      · have i3 : (j : Int) ≥ 60 := by omega
        clear h60
        go_wp2
        go_ret
        exact ⟨⟨false, rfl, fun h => by simp at h⟩, rfl⟩
      have i3 : ¬ (j : Int) ≥ 60 := by omega
      by_cases hb : 1000 < x0.size
      · have i4 : (x0.size : Int) > 1000 := by omega
        clear hb
        go_wp2
        go_ret
        exact ⟨⟨false, rfl, fun h => by simp at h⟩, rfl⟩
      · have i4 : ¬ (x0.size : Int) > 1000 := by omega
        clear hb
        go_wp2
        go_round
        case rel => exact ⟨j + 1, hlt, by omega, by go_num⟩
        case measure => simp [RowKit.intOf]; omega
    · have i1 : ¬ (j : Int) < (n : Int) := by omega
      go_wp2
      go_ret
      exact ⟨⟨true, rfl, fun _ => by rw [HN.out]; omega⟩, rfl⟩
theorem ndV_one (n : Nd) : ∀ u ∈ ndV n, u.oneCell' = true := by
  intro u hu
  simp only [ndV, List.mem_cons, List.not_mem_nil, or_false] at hu
  rcases hu with rfl | rfl | rfl | rfl | rfl | rfl | rfl <;> rfl
set_option maxRecDepth 100000 in
set_option maxHeartbeats 4000000 in
theorem theirsN_any {ok : Nat → Prop} {w : World} {l : List Nd} {v : Value} (h : RdNd ok w l v) (h60 : l.length ≤ 60) :
    Calls Try.prog 14 #[v] w fun e w' => ∃ u, e = .returned u ∧ RdNd (fun b => w.heap.size ≤ b) w' l u ∧ Below w.heap.size w w' := by
  obtain ⟨a, cap, rfl, hlc, hcm⟩ := h.form
  unfold maxLen at hcm
  have HC := hidOf h
  obtain ⟨n, hn⟩ : ∃ n, l.length = n := ⟨_, rfl⟩
  rw [hn] at hlc h60 ⊢
  have HN := hidOf hn
  clear h hn
  obtain ⟨i0, hi, hz0, hz1, hz2⟩ := info_parts Try.infoNdP
  go_enter Try.func14, Try.ntmps14
  go_wp2
  go_loopw [3, 7] (fun t ix wr => ∃ (j : Nat), j ≤ n ∧ ix = .int .i64 (j : Int) ∧ OwnK wr w.heap.size 70 7 rNd t (l.take j) ∧ Below w.heap.size w wr) (fun _ ix _ => n - (RowKit.intOf ix).toNat)
  case atStart => exact ⟨0, Nat.zero_le _, rfl, ownK_nil _ _ _ _ _, Below.refl _ _⟩
  case round =>
    obtain ⟨j, hj, rfl, hO, hb⟩ := hrel
    have hlj : (l.take j).length = j := by rw [List.length_take, HN.out]; omega
    obtain ⟨va, vc, hv, hvl, hvm⟩ := hO.form
    rw [hlj] at hv hvl
    subst hv
    have HLJ := hidOf hlj
    clear hlj
    by_cases hlt : j < n
    · have hjl : j < l.length := by rw [HN.out]; exact hlt
      obtain ⟨b, off, rfl, hbl, c0, c1, c2, c3, c4, c5, c6⟩ := nd_at HC.out j hjl
      replace c0 := (hb.cell (p := ⟨b, off + j * 7, none⟩) hbl).trans c0
      replace c1 := (hb.cell (p := ⟨b, off + j * 7 + 1, none⟩) hbl).trans c1
      replace c2 := (hb.cell (p := ⟨b, off + j * 7 + 2, none⟩) hbl).trans c2
      replace c3 := (hb.cell (p := ⟨b, off + j * 7 + 3, none⟩) hbl).trans c3
      replace c4 := (hb.cell (p := ⟨b, off + j * 7 + 4, none⟩) hbl).trans c4
      replace c5 := (hb.cell (p := ⟨b, off + j * 7 + 5, none⟩) hbl).trans c5
      replace c6 := (hb.cell (p := ⟨b, off + j * 7 + 6, none⟩) hbl).trans c6
      have HS : Hid (l.take (j + 1) = l.take j ++ [nAt l j]) := by
        show _ = _
        rw [List.take_succ_eq_append_getElem hjl, nAt_get hjl]
      have hrn : rNd (fun b => wr.heap.size ≤ b) wr (nAt l j) [.string (nAt l j).1, .int .i64 (nP l j), .int .i64 (nD l j), .int .i64 (nB l j), .bool (nAt l j).2.2.1, .bool (nAt l j).2.2.2.1, .bool (nL l j)] := rfl
      have HRN := hidOf hrn
      obtain ⟨nd, hnd⟩ : ∃ x, nAt l j = x := ⟨_, rfl⟩
      generalize nP l j = x1 at *
      generalize nD l j = x2 at *
      generalize nB l j = x3 at *
      generalize nL l j = x6 at *
      rw [hnd] at c0 c4 c5 HS HRN
      generalize nd.1 = x0 at *
      generalize nd.2.2.1 = x4 at *
      generalize nd.2.2.2.1 = x5 at *
      clear hnd hrn
      have i1 : (j : Int) < (n : Int) := by omega
      have i2 : (0 : Int) ≤ (j : Int) := by omega
      go_wp2_with (first
        | (at_builtin; refine wpList_pushK wr rfl _ _ 32 rfl w.heap.size 70 i0 (.agg #[.string ⟨#[]⟩, .int .i64 0, .int .i64 0, .int .i64 0, .bool false, .bool false, .bool false]) 7 48 Try.underlying32 hi hz0 hz1 hz2 rfl kp_nd (.slice va j vc) (l.take j) nd [.string x0, .int .i64 x1, .int .i64 x2, .int .i64 x3, .bool x4, .bool x5, .bool x6] wr.heap.size rfl rfl rfl (by simp [Value.oneCell']) hO HRN.out hb.size (fun x hx => (hO.blk x hx).2) (by rw [HLJ.out]; omega) (by rw [HLJ.out]; unfold maxLen; omega) hb.size ?_; intro vb wb hOb hgb hbb)
        | fail)
      go_wp2
      go_roundw
      case rel => exact ⟨j + 1, hlt, by go_num, by rw [HS.out]; exact hOb, hb.trans hbb⟩
      case measure => simp [RowKit.intOf]; omega
    · have i1 : ¬ (j : Int) < (n : Int) := by omega
      have hjn : l.take j = l := List.take_of_length_le (by rw [HN.out]; omega)
      rw [hjn] at hO
      go_wp2
      go_ret
      exact ⟨_, rfl, hO.rd kp_nd, hb⟩
def ndA : Nd := (⟨#[97]⟩, (-1, 0, 1), (false, false, true))
theorem fdA0 : fdB [ndA] ⟨#[97]⟩ = 0 := by kernel_rfl
theorem wiA0 : wiB [] (-1) (-1) = true := by kernel_rfl
theorem rdA (w : World) : RdNd (fun _ => True) (w.alloc (.cells #[.string ⟨#[97]⟩, .int .i64 (-1), .int .i64 0, .int .i64 1, .bool false, .bool false, .bool true] 70)) [ndA] (.slice (some ⟨w.heap.size, 0, none⟩) 1 1) := by
  refine ⟨_, 1, rfl, Nat.le_refl _, by simp [maxLen], fun i hi => ?_⟩
  have : i = 0 := by simp at hi; omega
  subst this
  refine ⟨w.heap.size, 0, ndV ndA, rfl, trivial, by simp, rfl, rfl, fun j u hu => ?_⟩
  have := (Bn.new w (ndV ndA) 70 _ rfl j u hu).1
  rw [show 0 + 0 * 7 + j = j by omega]
  exact this
set_option maxRecDepth 100000 in
set_option maxHeartbeats 4000000 in
theorem awakeT_any (w : World) : Calls Try.prog 6 #[] w fun e w' => e = .returned (.bool true) ∧ Below w.heap.size w w' := by
  have hb0 := (Below.refl w.heap.size w).alloc (Nat.le_refl _) (.cells #[.string ⟨#[97]⟩, .int .i64 (-1), .int .i64 0, .int .i64 1, .bool false, .bool false, .bool true] 70)
  have hfd := find_any (rdA w) ⟨#[97]⟩
  rw [fdA0] at hfd
  have hwi := fun w1 => within_any (rdK_none (fun _ => True) w1 7 (rNd (fun _ => True) w1)) (-1) (-1)
  rw [wiA0] at hwi
  go_enter Try.func6, Try.ntmps6
  go_wp2_with (first | (go_at_call 19; refine hfd.mono ?_; rintro e w1 ⟨rfl, b1⟩) | (go_at_call 21; refine (hwi _).mono ?_; rintro e w2 ⟨rfl, b2⟩) | fail)
  go_ret
  exact ⟨rfl, (hb0.trans (b1.mono hb0.size)).trans (b2.mono (Nat.le_trans hb0.size b1.size))⟩
set_option maxRecDepth 100000 in
set_option maxHeartbeats 8000000 in
theorem treeAsks_walk {w : World} {l : List Nd} {v : Value} (h : RdNd (fun _ => True) w l v) (i : Int) (wfi : (Lit.int .i64 i).wf = true) (j : Int) (wfj : (Lit.int .i64 j).wf = true) (s : ByteArray) (hs : s.size ≤ 140737488351232) :
    Calls Try.prog 4 #[v, .int .i64 i, .int .i64 j, .string s] w fun e w' => e = .returned (.bool true) ∧ Below w.heap.size w w' := by
  clear wfi wfj
  have haw := fun w1 => awakeT_any w1
  have hst : ∀ w1, Below w.heap.size w w1 → RdNd (fun _ => True) w1 l v := fun w1 b1 => h.stay kp_nd (fun k hk hl => ⟨hk, b1.block k hl⟩)
  have HST := hidOf hst
  have hfw := fun w1 (b1 : Below w.heap.size w w1) => fewN_any (HST.out w1 b1)
  have hth := fun w1 (b1 : Below w.heap.size w w1) => theirsN_any (HST.out w1 b1)
  have hR1 := fun w1 (b1 : Below w.heap.size w w1) => formedR_any (HST.out w1 b1)
  have hR2 := fun w1 (b1 : Below w.heap.size w w1) => findR_any (HST.out w1 b1) s
  have hR3 := fun w1 (b1 : Below w.heap.size w w1) => withinR_any (HST.out w1 b1) i j
  have hR4 := fun w1 (b1 : Below w.heap.size w w1) => meetR_any (HST.out w1 b1) i j
  have hR5 := fun w1 (b1 : Below w.heap.size w w1) => innerR_any (HST.out w1 b1) i
  obtain ⟨a, cap, rfl, hlc, hcm⟩ := h.form
  unfold maxLen at hcm
  clear h hst
  go_enter Try.func4, Try.ntmps4
  go_upto_region 1 with fail
  go_cut [21] (fun u wc => ∃ q : Bool, u = .bool q ∧ (q = false → l.length ≤ 60) ∧ Below w.heap.size w wc)
  case first =>
    clear hth hR1 hR2 hR3 hR4 hR5
    by_cases hsz : 1000 < s.size
    · have i1 : (s.size : Int) > 1000 := by omega
      go_wp2_with (first | (go_at_call 6; refine (haw _).mono ?_; rintro e w1 ⟨rfl, b1⟩) | (go_at_call 17; refine (hfw _ b1).mono ?_; rintro e w2 ⟨⟨q, rfl, hq⟩, rfl⟩; cases q) | fail)
      all_goals (
        go_wp2
        go_meet
        case rel => exact ⟨true, rfl, fun h => by simp at h, b1⟩)
    · have i1 : ¬ (s.size : Int) > 1000 := by omega
      go_wp2_with (first | (go_at_call 6; refine (haw _).mono ?_; rintro e w1 ⟨rfl, b1⟩) | (go_at_call 17; refine (hfw _ b1).mono ?_; rintro e w2 ⟨⟨q, rfl, hq⟩, rfl⟩; cases q) | fail)
      all_goals (
        go_wp2
        go_meet
        case rel => first | exact ⟨true, rfl, fun h => by simp at h, b1⟩ | exact ⟨false, by rw [decide_eq_false (by omega)], fun _ => hq (by first | trivial | rfl), b1⟩)
  case rest =>
  obtain ⟨q, rfl, hq, hb⟩ := hcut
  clear hfw
  cases q with
  | true =>
    go_wp2_with (first | (go_at_call 6; refine (haw _).mono ?_; rintro e w1 ⟨rfl, b1⟩) | fail)
    go_ret
    exact ⟨rfl, hb.trans (b1.mono hb.size)⟩
  | false =>
  have h60 := hq rfl
  clear haw hq
  go_upto_region 4 with (first | (go_at_call 14; refine (hth _ hb h60).mono ?_; rintro e w1 ⟨u, rfl, hu, b1⟩) | fail)
  clear hth
  have hb1 := hb.trans (b1.mono hb.size)
  have HU : Hid (∀ w2, Below w1.heap.size w1 w2 → RdNd (fun _ => True) w2 l u) := fun w2 b2 => hu.stay kp_nd (fun k hk hl => ⟨trivial, b2.block k hl⟩)
  obtain ⟨ua, uc, rfl, hul, hum⟩ := hu.form
  unfold maxLen at hum
  have hP1 := fun w2 (b2 : Below w1.heap.size w1 w2) => formed_any (HU.out w2 b2)
  have hP2 := fun w2 (b2 : Below w1.heap.size w1 w2) => find_any (HU.out w2 b2) s
  have hP3 := fun w2 (b2 : Below w1.heap.size w1 w2) => within_any (HU.out w2 b2) i j
  have hP4 := fun w2 (b2 : Below w1.heap.size w1 w2) => meet_any (HU.out w2 b2) i j
  have hP5 := fun w2 (b2 : Below w1.heap.size w1 w2) => inner_any (HU.out w2 b2) i
  clear hu b1 hb
  have hB : Below w1.heap.size w1 w1 := Below.refl _ _
  have hW : Below w.heap.size w w1 := hb1
  have hx1 : (fmB l != fmB l) = false := by simp
  have hx2 : (fdB l s != fdB l s) = false := by simp
  have hx3 : (wiB l i j != wiB l i j) = false := by simp
  have hx4 : (mtB l i j != mtB l i j) = false := by simp
  generalize fmB l = X1 at *
  generalize fdB l s = X2 at *
  generalize wiB l i j = X3 at *
  generalize mtB l i j = X4 at *
  go_upto_region 6 with (first
    | (go_at_call 13; refine (hP1 _ hB).mono ?_; rintro e w2 ⟨rfl, b2⟩; have hB := hB.trans (b2.mono hB.size); have hW := hW.trans (b2.mono hW.size))
    | (go_at_call 18; refine (hR1 _ hW).mono ?_; rintro e w2 ⟨rfl, rfl⟩)
    | (go_at_call 19; refine (hP2 _ hB).mono ?_; rintro e w2 ⟨rfl, b2⟩; have hB := hB.trans (b2.mono hB.size); have hW := hW.trans (b2.mono hW.size))
    | (go_at_call 20; refine (hR2 _ hW).mono ?_; rintro e w2 ⟨rfl, rfl⟩)
    | (go_at_call 21; refine (hP3 _ hB).mono ?_; rintro e w2 ⟨rfl, b2⟩; have hB := hB.trans (b2.mono hB.size); have hW := hW.trans (b2.mono hW.size))
    | (go_at_call 22; refine (hR3 _ hW).mono ?_; rintro e w2 ⟨rfl, rfl⟩)
    | (go_at_call 23; refine (hP4 _ hB).mono ?_; rintro e w2 ⟨rfl, b2⟩; have hB := hB.trans (b2.mono hB.size); have hW := hW.trans (b2.mono hW.size))
    | (go_at_call 24; refine (hR4 _ hW).mono ?_; rintro e w2 ⟨rfl, rfl⟩)
    | fail)
  clear hP1 hP2 hP3 hP4 hR1 hR2 hR3 hR4 HST
  go_wp2_with (first
    | (go_at_call 26; refine (hP5 _ hB).mono ?_; rintro e wi ⟨ui, rfl, hui, bi⟩; have hB := hB.trans (bi.mono hB.size); have hW := hW.trans (bi.mono hW.size))
    | (go_at_call 27; refine (hR5 _ hW).mono ?_; rintro e wk ⟨uk, rfl, huk, bk⟩)
    | (go_at_call 25; refine (ints_any (hui.stay kp_int (ok' := fun _ => True) (fun k hk hl => ⟨trivial, bk.block k hl⟩)) huk).mono ?_; rintro e wl ⟨rfl, bl'⟩)
    | fail)
  go_ret
  exact ⟨rfl, (hW.trans (bk.mono hW.size)).trans (bl'.mono (Nat.le_trans hW.size bk.size))⟩
end Go.Proofs.Ytdekboacjjpjeaa
