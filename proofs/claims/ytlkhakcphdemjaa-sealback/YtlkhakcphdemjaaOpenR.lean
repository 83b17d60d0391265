/- What the document's Open does. -/
import Derived.Test.YtlkhakcphdemjaaOpenW
import Derived.Test.YtlkhakcphdemjaaCrcI
import Derived.Deep.RegionHeld
namespace Go.Proofs.Ytlkhakcphdemjaa
open Go.RowKit
set_option linter.unusedSimpArgs false
set_option linter.unusedVariables false
attribute [local go_sem ↓] Go.wp_at_zero Go.wp_at_succ

theorem or_i64 {x0 x1 : Int} (g0 : 0 ≤ x0 ∧ x0 ≤ 255) (g1 : 0 ≤ x1 ∧ x1 ≤ 255) : bits .or .i64 (x0 * 256) x1 = x0 * 256 + x1 := by
  obtain ⟨m, rfl⟩ : ∃ m : Nat, x0 = m := ⟨x0.toNat, by omega⟩
  obtain ⟨n, rfl⟩ : ∃ n : Nat, x1 = n := ⟨x1.toNat, by omega⟩
  show IntKind.i64.wrap ((BitVec.ofInt 64 ((m : Int) * 256) ||| BitVec.ofInt 64 (n : Int)).toNat : Nat) = _
  rw [BitVec.toNat_or, BitVec.toNat_ofInt, BitVec.toNat_ofInt]
  have e1 : (((m : Int) * 256) % ((2 ^ 64 : Nat) : Int)).toNat = m * 256 := by omega
  have e2 : ((n : Int) % ((2 ^ 64 : Nat) : Int)).toNat = n := by omega
  rw [e1, e2, or_two m n (by omega), IntKind.wrap_i64]
  omega

theorem byte_inj {a b : Int} (ha : 0 ≤ a ∧ a ≤ 255) (hb : 0 ≤ b ∧ b ≤ 255) (h : UInt8.ofNat a.toNat = UInt8.ofNat b.toNat) : a = b := by
  have := congrArg UInt8.toNat h
  simp at this
  omega

theorem str_inj : ∀ {xs ys : List Int}, (∀ x ∈ xs, 0 ≤ x ∧ x ≤ 255) → (∀ x ∈ ys, 0 ≤ x ∧ x ≤ 255) → xs.map (fun n => UInt8.ofNat n.toNat) = ys.map (fun n => UInt8.ofNat n.toNat) → xs = ys
  | [], [], _, _, _ => rfl
  | [], _ :: _, _, _, h => by simp at h
  | _ :: _, [], _, _, h => by simp at h
  | a :: r, b :: t, hx, hy, h => by
    simp only [List.map_cons, List.cons.injEq] at h
    rw [byte_inj (hx a (by simp)) (hy b (by simp)) h.1, str_inj (fun x h => hx x (by simp [h])) (fun x h => hy x (by simp [h])) h.2]

theorem str_beq {xs ys : List Int} (hx : ∀ x ∈ xs, 0 ≤ x ∧ x ≤ 255) (hy : ∀ x ∈ ys, 0 ≤ x ∧ x ≤ 255) : ((strOfNums xs).toList == (strOfNums ys).toList) = decide (xs = ys) := by
  by_cases h : xs = ys
  · subst h; simp
  · rw [decide_eq_false h, ByteArray.toList_eq, ByteArray.toList_eq]
    exact beq_eq_false_iff_ne.2 fun e => h (str_inj hx hy e)

theorem tw_bytes (n : Int) : ∀ x ∈ tw n, 0 ≤ x ∧ x ≤ 255 := by
  intro x hx
  simp only [tw, List.mem_cons, List.not_mem_nil, or_false] at hx
  rcases hx with rfl | rfl <;> rw [IntKind.wrap_u8] <;> omega

theorem tw_tv {m : Int} (hm : In16 m) {ys : List Int} (hy : ∀ x ∈ ys, 0 ≤ x ∧ x ≤ 255) (hl : 2 ≤ ys.length) : (tw m = ys.take 2) = (tv ys = m) := by
  match ys, hl with
  | a :: b :: r, _ =>
    have ha := hy a (by simp)
    have hb := hy b (by simp)
    obtain ⟨h0, h1⟩ := hm
    have e1 : IntKind.u8.wrap (m / 256) = m / 256 := by rw [IntKind.wrap_u8]; omega
    have e2 : IntKind.u8.wrap m = m % 256 := by rw [IntKind.wrap_u8]
    simp only [tw, tv, e1, e2, List.take, List.cons.injEq, and_true, List.getD_cons_zero, List.getD_cons_succ]
    apply propext
    constructor
    · rintro ⟨rfl, rfl⟩; omega
    · intro h; constructor <;> omega

theorem str_two {m : Int} (hm : In16 m) {ys : List Int} (hy : ∀ x ∈ ys, 0 ≤ x ∧ x ≤ 255) (hl : 2 ≤ ys.length) : ((strOfNums (tw m)).toList == (strOfNums (ys.take 2)).toList) = decide (tv ys = m) := by
  rw [str_beq (tw_bytes m) (fun x hx => hy x (List.mem_of_mem_take hx))]
  simp only [tw_tv hm hy hl]

theorem take_bytes {xs : List Int} (hy : ∀ x ∈ xs, 0 ≤ x ∧ x ≤ 255) (k : Nat) : ∀ x ∈ xs.take k, 0 ≤ x ∧ x ≤ 255 := fun x hx => hy x (List.mem_of_mem_take hx)

set_option maxHeartbeats 1000000 in
theorem refOpen_any (v : Value) (xs : List Int) (w : World) (hr : Rd w v xs) (hy : ∀ x ∈ xs, 0 ≤ x ∧ x ≤ 255) :
    Calls Try.prog 12 #[v] w fun e w' => ∃ u, e = .returned (.tuple #[u, .int .i64 (openS xs).2.1, .int .i64 (openS xs).2.2]) ∧ Own w' w.heap.size 5 u (openS xs).1 ∧ Below w.heap.size w w' := by
  by_cases h4 : xs.length < 4
  · rw [openS_short h4]
    obtain ⟨a, cap, rfl, hc, hm, hnone, hcell⟩ := id hr
    clear hcell hnone
    have h4' : (xs.length : Int) < 4 := by omega
    go_enter Try.func12, Try.ntmps12
    go_wp2
    go_ret3
    exact ⟨_, rfl, own_none _ _, Below.refl _ _⟩
  obtain ⟨b, off, cap, rfl, hc, hm, hcell⟩ := hr.lies (by omega)
  have h4' : ¬ (xs.length : Int) < 4 := by omega
  have c0 := hcell 0 (by omega)
  have c1 := hcell 1 (by omega)
  rw [Nat.add_zero] at c0
  have g0 := getD_bytes hy 0
  have g1 := getD_bytes hy 1
  have hv := or_i64 g0 g1
  have hn' : xs.getD 0 0 * 256 + xs.getD 1 0 = tv xs := rfl
  have htb := tv_bounds hy
  obtain ⟨n, hn⟩ : ∃ n : Nat, tv xs = n := ⟨(tv xs).toNat, by omega⟩
  rw [hn', hn] at hv
  obtain ⟨x0, hx0⟩ : ∃ x, x = xs.getD 0 0 := ⟨_, rfl⟩
  obtain ⟨x1, hx1⟩ : ∃ x, x = xs.getD 1 0 := ⟨_, rfl⟩
  rw [← hx0] at c0 g0 hv
  rw [← hx1] at c1 g1 hv
  rw [hn] at htb
  clear hcell hx0 hx1 hn'
  have hl' : (1 : Int) < (xs.length : Int) := by omega
  have hl'' : (0 : Int) < (xs.length : Int) := by omega
  by_cases hA : n < 1
  · rw [openS_bad h4 (.inl (by omega))]
    have hA' : (n : Int) < 1 := by omega
    go_enter Try.func12, Try.ntmps12
    go_wp2
    go_quiet (fail)
    have b1 := below_drewN (Below.refl w.heap.size w) nq
    generalize w.drewN nq = w1 at b1 ⊢
    go_wp2
    go_quiet (fail)
    go_wp2
    go_ret3
    exact ⟨_, rfl, own_none _ _, below_drewN b1 _⟩
  have hA' : decide ((n : Int) < 1) = false := decide_eq_false (by omega)
  by_cases hB : 14000 < n
  · rw [openS_bad h4 (.inr (.inl (by omega)))]
    have hB' : (n : Int) > 14000 := by omega
    go_enter Try.func12, Try.ntmps12
    go_wp2
    go_quiet (fail)
    have b1 := below_drewN (Below.refl w.heap.size w) nq
    generalize w.drewN nq = w1 at b1 ⊢
    go_wp2
    go_quiet (fail)
    go_wp2
    go_ret3
    exact ⟨_, rfl, own_none _ _, below_drewN b1 _⟩
  have hB' : decide (14000 < (n : Int)) = false := decide_eq_false (by omega)
  obtain ⟨s2, es2, rs2⟩ := cut_lh rfl hr (k := 2) (h := 4) (by omega) (by omega) (by omega) 2 4 rfl rfl
  obtain ⟨s3, es3, rs3⟩ := cut_to rfl hr (h := 2) (by omega) 2 rfl
  have hst := str_two (sm_in (take_bytes hy 2)) (drop_bytes hy 2) (by simp; omega)
  have cv2 := fun w1 r1 => rd_conv (rs2 w1 r1)
  have q3 := fun w1 r1 => refSum_any s3 _ w1 (rs3 w1 r1)
  obtain ⟨t3, ht3⟩ : ∃ t, t = sm (xs.take 2) := ⟨_, rfl⟩
  obtain ⟨B, hB2⟩ : ∃ B, B = strOfNums ((xs.drop 2).take 2) := ⟨_, rfl⟩
  obtain ⟨A, hA2⟩ : ∃ A, A = strOfNums (tw t3) := ⟨_, rfl⟩
  rw [← ht3] at q3 hst
  rw [← hA2, ← hB2] at hst
  rw [show 4 - 2 = 2 by omega, ← hB2] at cv2
  clear rs2 rs3
  have HT3 : Hid (t3 = sm (xs.take 2)) := ht3
  have HA2 : Hid (A = strOfNums (tw t3)) := hA2
  clear ht3 hA2 hB2
  by_cases hC : tv (xs.drop 2) = t3
  case neg =>
    rw [openS_bad h4 (.inr (.inr (by rw [← HT3.out]; exact hC)))]
    rw [decide_eq_false hC] at hst
    go_enter Try.func12, Try.ntmps12
    go_wp2
    go_quiet (fail)
    have b1 := below_drewN (Below.refl w.heap.size w) nq
    have r1 := hr.drewN nq
    generalize w.drewN nq = w1 at b1 r1 ⊢
    go_wp2
    have d1 := r1.below (Below.drew (Below.refl w1.heap.size w1)) (Nat.le_refl _)
    have e1 := b1.trans (Below.drew (Below.refl w.heap.size w1))
    go_region_held (fun w' => Rd w' (.slice (some ⟨b, off, none⟩) xs.length cap) xs ∧ Below w.heap.size w w' ∧ (convert 22 9 s2).run Try.prog w' = .ok (.string B) w')
      (first
        | exact ⟨d1, e1, cv2 _ d1⟩
        | exact ⟨r2, b2, cv2 _ r2⟩)
      (first
        | (go_at_call 8; refine (q3 _ d1).mono ?_; rintro e w' ⟨rfl, rfl⟩)
        | (go_at_call 15; refine (refTwo_any t3 w1.drew).mono ?_; rintro e w2 ⟨v2, rfl, o2, hb2⟩; have b2 := e1.trans (hb2.mono e1.size); have r2 := d1.below hb2 (Nat.le_refl _); have k2 := rd_conv o2.rd; rw [← HA2.out] at k2))
    all_goals go_wp2
    all_goals go_ret3
    all_goals exact ⟨_, rfl, own_none _ _, b2⟩
  rw [decide_eq_true hC] at hst
  rw [HT3.out] at hC
  obtain ⟨i0, hi, hz0, hz1, hz2⟩ := info_parts Try.info5
  have hw4 : IntKind.i64.wrap (4 + (n : Int)) = 4 + n := by rw [IntKind.wrap_i64]; omega
  have hw6 : IntKind.i64.wrap (6 + (n : Int)) = 6 + n := by rw [IntKind.wrap_i64]; omega
  by_cases hD : xs.length < 6 + n
  · rw [openS_ends h4 (by omega) (by omega) hC (by omega)]
    have hD' : (xs.length : Int) < 6 + n := by omega
    clear hC
    go_enter Try.func12, Try.ntmps12
    go_wp2
    go_quiet (fail)
    have b1 := below_drewN (Below.refl w.heap.size w) nq
    have r1 := hr.drewN nq
    generalize w.drewN nq = w1 at b1 r1 ⊢
    go_wp2
    have d1 := r1.below (Below.drew (Below.refl w1.heap.size w1)) (Nat.le_refl _)
    have e1 := b1.trans (Below.drew (Below.refl w.heap.size w1))
    go_region_held (fun w' => Rd w' (.slice (some ⟨b, off, none⟩) xs.length cap) xs ∧ Below w.heap.size w w' ∧ (convert 22 9 s2).run Try.prog w' = .ok (.string B) w')
      (first
        | exact ⟨d1, e1, cv2 _ d1⟩
        | exact ⟨r2, b2, cv2 _ r2⟩)
      (first
        | (go_at_call 8; refine (q3 _ d1).mono ?_; rintro e w' ⟨rfl, rfl⟩)
        | (go_at_call 15; refine (refTwo_any t3 w1.drew).mono ?_; rintro e w2 ⟨v2, rfl, o2, hb2⟩; have b2 := e1.trans (hb2.mono e1.size); have r2 := d1.below hb2 (Nat.le_refl _); have k2 := rd_conv o2.rd; rw [← HA2.out] at k2))
    all_goals go_wp2
    all_goals go_ret3
    all_goals exact ⟨_, rfl, own_none _ _, b2⟩
  have hD' : ¬ (xs.length : Int) < 6 + n := by omega
  obtain ⟨s5, es5, rs5⟩ := cut_to rfl hr (h := 4 + n) (by omega) (4 + (n : Int)) (by omega)
  obtain ⟨s4, es4, rs4⟩ := cut_lh rfl hr (k := 4 + n) (h := 6 + n) (by omega) (by omega) (by omega) (4 + (n : Int)) (6 + (n : Int)) (by omega) (by omega)
  obtain ⟨s6, es6, rs6⟩ := cut_lh rfl hr (k := 4) (h := 4 + n) (by omega) (by omega) (by omega) 4 (4 + (n : Int)) rfl (by omega)
  have hst5 := str_two (sm_in (take_bytes hy (4 + n))) (drop_bytes hy (4 + n)) (by simp; omega)
  have cv4 := fun w1 r1 => rd_conv (rs4 w1 r1)
  have q5 := fun w1 r1 => refSum_any s5 _ w1 (rs5 w1 r1)
  rw [show 4 + n - 4 = n by omega] at rs6
  have hl6 : ((xs.drop 4).take n).length = n := by simp; omega
  obtain ⟨t5, ht5⟩ : ∃ t, t = sm (xs.take (4 + n)) := ⟨_, rfl⟩
  obtain ⟨D, hD2⟩ : ∃ D, D = strOfNums ((xs.drop (4 + n)).take 2) := ⟨_, rfl⟩
  obtain ⟨C, hC2⟩ : ∃ C, C = strOfNums (tw t5) := ⟨_, rfl⟩
  rw [← ht5] at q5 hst5
  rw [← hC2, ← hD2] at hst5
  rw [show 6 + n - (4 + n) = 2 by omega, ← hD2] at cv4
  have HT5 : Hid (t5 = sm (xs.take (4 + n))) := ht5
  have HC2 : Hid (C = strOfNums (tw t5)) := hC2
  have HL6 : Hid (((xs.drop 4).take n).length = n) := hl6
  clear ht5 hC2 hD2 rs4 rs5 hl6
  by_cases hE : tv (xs.drop (4 + n)) = t5
  case neg =>
    rw [openS_sum h4 hn (by omega) (by omega) hC (by omega) (by rw [← HT5.out]; exact hE)]
    rw [decide_eq_false hE] at hst5
    clear hC rs6
    go_enter Try.func12, Try.ntmps12
    go_wp2
    go_quiet (fail)
    have b1 := below_drewN (Below.refl w.heap.size w) nq
    have r1 := hr.drewN nq
    generalize w.drewN nq = w1 at b1 r1 ⊢
    go_wp2
    have d1 := r1.below (Below.drew (Below.refl w1.heap.size w1)) (Nat.le_refl _)
    have e1 := b1.trans (Below.drew (Below.refl w.heap.size w1))
    go_region_held (fun w' => Rd w' (.slice (some ⟨b, off, none⟩) xs.length cap) xs ∧ Below w.heap.size w w' ∧ (convert 22 9 s2).run Try.prog w' = .ok (.string B) w')
      (first
        | exact ⟨d1, e1, cv2 _ d1⟩
        | exact ⟨r2, b2, cv2 _ r2⟩)
      (first
        | (go_at_call 8; refine (q3 _ d1).mono ?_; rintro e w' ⟨rfl, rfl⟩)
        | (go_at_call 15; refine (refTwo_any t3 w1.drew).mono ?_; rintro e w2 ⟨v2, rfl, o2, hb2⟩; have b2 := e1.trans (hb2.mono e1.size); have r2 := d1.below hb2 (Nat.le_refl _); have k2 := rd_conv o2.rd; rw [← HA2.out] at k2))
    clear k2
    go_wp2
    have d2 := r2.below (Below.drew (Below.refl w2.heap.size w2)) (Nat.le_refl _)
    have e2 := b2.trans (Below.drew (Below.refl w.heap.size w2))
    go_region_held (fun w' => Rd w' (.slice (some ⟨b, off, none⟩) xs.length cap) xs ∧ Below w.heap.size w w' ∧ (convert 22 9 s4).run Try.prog w' = .ok (.string D) w')
      (first
        | exact ⟨d2, e2, cv4 _ d2⟩
        | exact ⟨r3, b3, cv4 _ r3⟩)
      (first
        | (go_at_call 8; refine (q5 _ d2).mono ?_; rintro e w' ⟨rfl, rfl⟩)
        | (go_at_call 15; refine (refTwo_any t5 w2.drew).mono ?_; rintro e w3 ⟨v3, rfl, o3, hb3⟩; have b3 := e2.trans (hb3.mono e2.size); have r3 := d2.below hb3 (Nat.le_refl _); have k3 := rd_conv o3.rd; rw [← HC2.out] at k3))
    all_goals go_wp2
    all_goals go_ret3
    all_goals exact ⟨_, rfl, own_none _ _, b3⟩
  rw [decide_eq_true hE] at hst5
  rw [HT5.out] at hE
  rw [openS_ok h4 hn (by omega) (by omega) hC (by omega) hE]
  clear hC hE
  go_enter Try.func12, Try.ntmps12
  go_wp2
  go_quiet (fail)
  have b1 := below_drewN (Below.refl w.heap.size w) nq
  have r1 := hr.drewN nq
  generalize w.drewN nq = w1 at b1 r1 ⊢
  go_wp2
  have d1 := r1.below (Below.drew (Below.refl w1.heap.size w1)) (Nat.le_refl _)
  have e1 := b1.trans (Below.drew (Below.refl w.heap.size w1))
  go_region_held (fun w' => Rd w' (.slice (some ⟨b, off, none⟩) xs.length cap) xs ∧ Below w.heap.size w w' ∧ (convert 22 9 s2).run Try.prog w' = .ok (.string B) w')
    (first
      | exact ⟨d1, e1, cv2 _ d1⟩
      | exact ⟨r2, b2, cv2 _ r2⟩)
    (first
      | (go_at_call 8; refine (q3 _ d1).mono ?_; rintro e w' ⟨rfl, rfl⟩)
      | (go_at_call 15; refine (refTwo_any t3 w1.drew).mono ?_; rintro e w2 ⟨v2, rfl, o2, hb2⟩; have b2 := e1.trans (hb2.mono e1.size); have r2 := d1.below hb2 (Nat.le_refl _); have k2 := rd_conv o2.rd; rw [← HA2.out] at k2))
  clear k2
  go_wp2
  have d2 := r2.below (Below.drew (Below.refl w2.heap.size w2)) (Nat.le_refl _)
  have e2 := b2.trans (Below.drew (Below.refl w.heap.size w2))
  go_region_held (fun w' => Rd w' (.slice (some ⟨b, off, none⟩) xs.length cap) xs ∧ Below w.heap.size w w' ∧ (convert 22 9 s4).run Try.prog w' = .ok (.string D) w')
    (first
      | exact ⟨d2, e2, cv4 _ d2⟩
      | exact ⟨r3, b3, cv4 _ r3⟩)
    (first
      | (go_at_call 8; refine (q5 _ d2).mono ?_; rintro e w' ⟨rfl, rfl⟩)
      | (go_at_call 15; refine (refTwo_any t5 w2.drew).mono ?_; rintro e w3 ⟨v3, rfl, o3, hb3⟩; have b3 := e2.trans (hb3.mono e2.size); have r3 := d2.below hb3 (Nat.le_refl _); have k3 := rd_conv o3.rd; rw [← HC2.out] at k3))
  clear k3
  go_wp2_with (first
    | (at_builtin; refine wpList_append_both _ rfl (.tmp 56) (.tmp 60) 22 22 rfl w3.heap.size 5 i0 (.int .u8 0) 1 1 Try.underlying22 hi hz0 hz1 hz2 rfl _ 0 [] rfl (own_nil w3) _ n _ rfl (rd_src (rs6 w3 r3) HL6.out _) n (.inr (by omega)) (Nat.le_refl _) (by unfold maxLen; omega) (by simp) ?_))
  intro v4 w4 ho4 hg4 _
  have o4 : Own w4 w3.heap.size 5 v4 ((xs.drop 4).take n) := by unfold Own; rw [HL6.out, List.map_take, List.map_drop]; exact ho4
  have b4 := bel_first hg4
  clear ho4 hg4
  go_wp2
  go_ret3
  refine ⟨v4, ?_, o4.base b3.size, b3.trans (b4.mono b3.size)⟩
  show Ending.returned (.tuple #[v4, .int .i64 (6 + (n : Int)), .int .i64 0]) = _
  rw [show (6 : Int) + n = n + 6 by omega]
end Go.Proofs.Ytlkhakcphdemjaa
