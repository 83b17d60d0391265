/- That the calls that take undo those that write, in plain lists and integers; and what is cut off lacks something. -/
import Derived.Test.YtdbfblkdjijmmaaE
namespace Go.Proofs.Ytdbfblkdjijmmaa
open Go.RowKit

theorem emod_step (n P : Int) (hP : 0 < P) : n % (P * 256) = n / P % 256 * P + n % P := by
  have h1 : n = n % P + P * (n / P) := (Int.emod_add_mul_ediv n P).symm
  have h2 : n / P = n / P % 256 + 256 * (n / P / 256) := (Int.emod_add_mul_ediv (n / P) 256).symm
  have h3 : n = (n / P % 256 * P + n % P) + (P * 256) * (n / P / 256) := by
    generalize n / P / 256 = q at *
    generalize n / P % 256 = c at *
    rw [h2] at h1
    rw [Int.mul_add, ← Int.mul_assoc] at h1
    rw [Int.mul_comm c P]
    omega
  have h4 : (n / P % 256 * P + n % P) % (P * 256) = n / P % 256 * P + n % P := by
    have a := Int.emod_nonneg n (show P ≠ 0 by omega)
    have b := Int.emod_lt_of_pos n hP
    have c : 0 ≤ n / P % 256 := by omega
    have d : n / P % 256 ≤ 255 := by omega
    have e : 0 ≤ n / P % 256 * P := Int.mul_nonneg c (by omega)
    have f : n / P % 256 * P ≤ 255 * P := Int.mul_le_mul_of_nonneg_right d (by omega)
    exact Int.emod_eq_of_lt (by omega) (by omega)
  rw [← h4]
  conv => lhs; rw [h3]
  rw [Int.add_mul_emod_self_left]

theorem pow8_succ (k : Nat) : (2 : Int) ^ (8 * (k + 1)) = 2 ^ (8 * k) * 256 := by rw [show 8 * (k + 1) = 8 * k + 8 by omega, Int.pow_add]; rfl
theorem pow8_pos (k : Nat) : (0 : Int) < 2 ^ (8 * k) := Int.pow_pos (by omega)
theorem pow8_half (k : Nat) : (2 : Int) ^ (8 * (k + 1)) = 2 ^ (8 * (k + 1) - 1) * 2 := by rw [show 8 * (k + 1) = (8 * (k + 1) - 1) + 1 by omega, Int.pow_succ]; rfl

theorem sgnF_bts (n : Int) : ∀ (k : Nat) (s : Int), sgnF s (bts n k) = s * 2 ^ (8 * k) + n % 2 ^ (8 * k)
  | 0, s => by simp [bts, sgnF, Int.emod_one]
  | k + 1, s => by
    have ih := sgnF_bts n k (s * 256 + byt n k)
    have e : sgnF s (bts n (k + 1)) = sgnF (s * 256 + byt n k) (bts n k) := rfl
    rw [e, ih, pow8_succ, emod_step n _ (pow8_pos k)]
    unfold byt
    rw [Int.add_mul, Int.mul_assoc, Int.mul_comm 256]
    omega

/-- k bytes tell n just if it fits. -/
theorem tells_fits {n : Int} {k : Nat} (h : tells n k = true) : -(2 ^ (8 * k - 1)) ≤ n ∧ n < 2 ^ (8 * k - 1) := by
  have hp : (0 : Int) < 2 ^ (8 * k - 1) := Int.pow_pos (by omega)
  have h1 := Int.emod_add_mul_ediv n (2 ^ (8 * k - 1))
  have h2 := Int.emod_nonneg n (show (2 : Int) ^ (8 * k - 1) ≠ 0 by omega)
  have h3 := Int.emod_lt_of_pos n hp
  simp only [tells, Bool.or_eq_true, beq_iff_eq] at h
  rcases h with h | h <;> rw [h] at h1 <;> omega

theorem wdFrom_fits {n : Int} (h64 : -9223372036854775808 ≤ n ∧ n ≤ 9223372036854775807) : ∀ f k, k + f = 8 → -(2 ^ (8 * wdFrom n f k - 1)) ≤ n ∧ n < 2 ^ (8 * wdFrom n f k - 1)
  | 0, k, h => by
    have : k = 8 := by omega
    subst this
    simp only [wdFrom]
    omega
  | f + 1, k, h => by
    unfold wdFrom
    split
    · exact tells_fits ‹_›
    · exact wdFrom_fits h64 f (k + 1) (by omega)

theorem sgn_nb {n : Int} (h64 : -9223372036854775808 ≤ n ∧ n ≤ 9223372036854775807) : sgn (bts n (wd n)) = n := by
  by_cases h0 : n = 0
  · subst h0; rfl
  · have hf := wdFrom_fits h64 7 1 (by omega)
    have hw : wdFrom n 7 1 = wd n := by simp [wd, h0]
    rw [hw] at hf
    have hp := wd_pos h0
    obtain ⟨k, hk⟩ : ∃ k, wd n = k + 1 := ⟨wd n - 1, by omega⟩
    rw [hk] at hf ⊢
    have hhalf := pow8_half k
    have hs0 : sgn0 (bts n (k + 1)) = if n < 0 then -1 else 0 := by
      have e : sgn0 (bts n (k + 1)) = if 128 ≤ byt n k then -1 else 0 := rfl
      rw [e]
      have hb : (128 ≤ byt n k) ↔ n < 0 := by
        have h256 := pow8_succ k
        have hpos := pow8_pos k
        have h1 := Int.emod_add_mul_ediv n (2 ^ (8 * k))
        have h2 := Int.emod_nonneg n (show (2 : Int) ^ (8 * k) ≠ 0 by omega)
        have h3 := Int.emod_lt_of_pos n hpos
        unfold byt
        generalize (2 : Int) ^ (8 * k) = P at *
        generalize (2 : Int) ^ (8 * (k + 1) - 1) = Q at *
        generalize n / P = q at *
        generalize n % P = r at *
        have hQ : Q = P * 128 := by omega
        subst hQ
        have hq1 : -128 ≤ q := by
          rcases Int.lt_or_le q (-128) with h | h
          · have : P * q ≤ P * (-129) := Int.mul_le_mul_of_nonneg_left (by omega) (by omega)
            omega
          · exact h
        have hq2 : q ≤ 127 := by
          rcases Int.lt_or_le 127 q with h | h
          · have : P * 128 ≤ P * q := Int.mul_le_mul_of_nonneg_left (by omega) (by omega)
            omega
          · exact h
        have hneg : n < 0 ↔ q < 0 := by
          constructor
          · intro hn
            rcases Int.lt_or_le q 0 with h | h
            · exact h
            · have : 0 ≤ P * q := Int.mul_nonneg (by omega) h
              omega
          · intro hq
            have : P * q ≤ P * (-1) := Int.mul_le_mul_of_nonneg_left (by omega) (by omega)
            omega
        rw [hneg]
        omega
      by_cases hn : n < 0
      · rw [if_pos hn, if_pos (hb.2 hn)]
      · rw [if_neg hn, if_neg (fun h => hn (hb.1 h))]
    unfold sgn
    rw [sgnF_bts, hs0]
    by_cases hn : n < 0
    · rw [if_pos hn]
      have hm : n % 2 ^ (8 * (k + 1)) = n + 2 ^ (8 * (k + 1)) := by
        rw [← Int.add_emod_right]
        exact Int.emod_eq_of_lt (by omega) (by omega)
      rw [hm]
      omega
    · rw [if_neg hn]
      have hm : n % 2 ^ (8 * (k + 1)) = n := Int.emod_eq_of_lt (by omega) (by omega)
      rw [hm]
      omega

theorem takeN_nb {n : Int} (h64 : -9223372036854775808 ≤ n ∧ n ≤ 9223372036854775807) (z : List Int) : takeN (nb n ++ z) = (n, ((nb n).length : Int), 0) := by
  have hl := bts_length n (wd n)
  have ht : (bts n (wd n) ++ z).take (wd n) = bts n (wd n) := by
    conv => lhs; arg 1; rw [← hl]
    exact List.take_left
  have e : nb n ++ z = (wd n : Int) :: (bts n (wd n) ++ z) := rfl
  rw [e, takeN_ok (wd_le n) (by rw [List.length_append]; omega) (by rw [ht, sgn_nb h64]), ht, sgn_nb h64, nb_length]
  simp; omega

theorem takeN_cut {n : Int} {j : Nat} (hj : j < (nb n).length) (z : List Int) : takeN ((nb n ++ z).take j) = (0, 0, 5) := by
  rw [nb_length] at hj
  cases j with
  | zero => rfl
  | succ j =>
    have e : (nb n ++ z).take (j + 1) = (wd n : Int) :: (bts n (wd n) ++ z).take j := rfl
    have hw := wd_le n
    rw [e]
    exact takeN_short (by omega) (by rw [List.length_take]; omega)

theorem str_sb (s : ByteArray) : strOfNums (sb s) = s := by
  apply ByteArray.ext
  apply Array.ext'
  simp [strOfNums, sb, Function.comp_def]

theorem takeT_tb {s : ByteArray} (hs : s.size ≤ 9223372036854775807) (z : List Int) : takeT (tb s ++ z) = (sb s, ((tb s).length : Int), 0) := by
  have h := takeN_nb (n := s.size) (by omega) (sb s ++ z)
  have hl := sb_length s
  have e : tb s ++ z = nb s.size ++ (sb s ++ z) := by simp [tb]
  rw [e, takeT_ok h.symm (by simp; omega)]
  have e2 : (nb s.size ++ (sb s ++ z)).drop (nb s.size).length = sb s ++ z := List.drop_left
  have e3 : (sb s ++ z).take s.size = sb s := by rw [← hl]; exact List.take_left
  rw [e2, e3]
  simp [tb, hl]

theorem takeT_cut {s : ByteArray} (hs : s.size ≤ 9223372036854775807) {j : Nat} (hj : j < (tb s).length) : takeT ((tb s).take j) = ([], 0, 5) := by
  have hl := sb_length s
  have htl : (tb s).length = (nb s.size).length + s.size := by simp [tb, hl]
  by_cases h : j < (nb s.size).length
  · exact takeT_err (n := 0) (k := 0) (takeN_cut (n := s.size) h (sb s)).symm (by omega)
  · have e : (tb s).take j = nb s.size ++ (sb s).take (j - (nb s.size).length) := by
      unfold tb
      rw [List.take_append, List.take_of_length_le (by omega)]
    have h2 := takeN_nb (n := s.size) (by omega) ((sb s).take (j - (nb s.size).length))
    rw [e]
    exact takeT_short h2.symm (by omega) (by simp; omega)


theorem rd_nil (w : World) : Rd w (.slice none 0 0) [] := ⟨none, 0, rfl, by simp, by simp [maxLen], by simp, fun x hx => by cases hx⟩
theorem byt_all {l : List Int} {n : Int} {k : Nat} (h : l = bts n k) : ∀ x ∈ l, 0 ≤ x ∧ x ≤ 255 := by
  subst h
  induction k with
  | zero => simp [bts]
  | succ k ih =>
    intro x hx
    rcases List.mem_cons.1 hx with rfl | hx
    · exact byt_bd n k
    · exact ih x hx
theorem nb_bytes (n : Int) : ∀ x ∈ nb n, 0 ≤ x ∧ x ≤ 255 := by
  intro x hx
  rcases List.mem_cons.1 hx with rfl | hx
  · have := wd_le n; omega
  · exact byt_all rfl x hx
theorem sb_bytes (s : ByteArray) : ∀ x ∈ sb s, 0 ≤ x ∧ x ≤ 255 := by
  intro x hx
  obtain ⟨b, _, rfl⟩ := List.mem_map.1 hx
  have := b.toNat_lt
  omega
theorem tb_bytes (s : ByteArray) : ∀ x ∈ tb s, 0 ≤ x ∧ x ≤ 255 := by
  intro x hx
  rcases List.mem_append.1 hx with h | h
  · exact nb_bytes _ x h
  · exact sb_bytes s x h

/-- The first j bytes of a slice. -/
theorem Rd.first {w : World} {b off len cap j : Nat} {xs : List Int} (hl : xs.length = len) (h : Rd w (.slice (some ⟨b, off, none⟩) len cap) xs) (hj : j < len) : Rd w (.slice (some ⟨b, off, none⟩) j cap) (xs.take j) := by
  subst hl
  obtain ⟨b', off', cap', e, hc, hm, hcell⟩ := h.lies (by omega)
  simp only [Value.slice.injEq, Option.some.injEq, Addr.mk.injEq, and_true, true_and] at e
  obtain ⟨⟨rfl, rfl⟩, rfl⟩ := e
  have hlj : (xs.take j).length = j := by rw [List.length_take]; omega
  refine Rd.of_lies hlj (by omega) hm (fun i hi => ?_)
  rw [hcell i (by omega)]
  simp [List.getD, hi]

theorem slice_to_u (b off len cap h : Nat) (hh : h ≤ cap) (w : World) :
    (Instr.slice 22 (.slice (some ⟨b, off, none⟩) len cap) none (some (.int .u64 (h : Int))) none).run Try.prog w = .ok (.slice (some ⟨b, off, none⟩) h cap) w := by
  have h1 : (0 : Int) ≤ (h : Int) := by omega
  have h2 : (h : Int) ≤ (cap : Int) := by omega
  go_simp

theorem own_nil (w : World) : (w.alloc (.cells #[] 5)).ownsRow w.heap.size 5 1 (.slice (some ⟨w.heap.size, 0, none⟩) 0 0) 0 [] := World.ownsRow_lit w #[] 0 (Nat.le_refl _) (by simp [maxLen]) (by simp)

theorem rd_src {w : World} {v : Value} {xs : List Int} {m : Nat} (h : Rd w v xs) (hm : xs.length = m) (o : Obj) : Src Try.prog 1 22 v m (xs.map (Value.int .u8)) (w.alloc o) := by
  subst hm
  exact (h.below ((Below.refl _ _).alloc (Nat.le_refl _) o) (Nat.le_refl _)).src Try.underlying22
theorem bel_first {w w' : World} (hg : (w.alloc (.cells #[] 5)).grownBy w' (Value.ownBlock (.slice (some ⟨w.heap.size, 0, none⟩) 0 0))) : Below w.heap.size w w' :=
  ((Below.refl _ _).alloc (Nat.le_refl _) _).grown hg (by simp) (fun k hk => by simp [Value.ownBlock] at hk; omega)
theorem own_both {w : World} {base m : Nat} {v : Value} {xs ys : List Int} (hm : xs.length = m) (h : w.ownsRow base 5 1 v (m + ys.length) (xs.map (Value.int .u8) ++ ys.map (Value.int .u8))) : Own w base 5 v (xs ++ ys) := by
  subst hm
  unfold Own
  rw [List.length_append, List.map_append]
  exact h

set_option maxHeartbeats 2000000 in
theorem packBack_walk {w : World} (n : Int) (hn : (Lit.int .i64 n).wf = true) (s : ByteArray) (hs : s.size ≤ 1048576) (bv : Value) (bs : List Int) (hb : Rd w bv bs) (hy : ∀ x ∈ bs, 0 ≤ x ∧ x ≤ 255) (hl : bs.length ≤ 1048576) (c : Int) (hc : (Lit.int .u64 c).wf = true) :
    Calls Try.prog 7 #[.int .i64 n, .string s, bv, .int .u64 c] w fun e w' => e = .returned (.bool true) ∧ Below w.heap.size w w' := by
  obtain ⟨i0, hi, hz0, hz1, hz2⟩ := info_parts Try.info5
  have hn' : -9223372036854775808 ≤ n ∧ n ≤ 9223372036854775807 := by simpa [Lit.wf, IntKind.min, IntKind.max, IntKind.signed, IntKind.bits] using hn
  have hc' : 0 ≤ c ∧ c ≤ 18446744073709551615 := by simpa [Lit.wf, IntKind.min, IntKind.max, IntKind.signed, IntKind.bits] using hc
  obtain ⟨xl, hxl⟩ : ∃ xl, (nb n).length = xl := ⟨_, rfl⟩
  obtain ⟨yl, hyl⟩ : ∃ yl, (tb s).length = yl := ⟨_, rfl⟩
  have hx1 : 1 ≤ xl := by rw [← hxl, nb_length]; omega
  have hx9 : xl ≤ 9 := by rw [← hxl]; exact nb_le n
  have hy1 : 1 ≤ yl := by rw [← hyl, tb, List.length_append, nb_length]; omega
  have hy9 : yl ≤ 1048600 := by have := nb_le s.size; have := sb_length s; rw [← hyl, tb, List.length_append]; omega
  have hx0 : ((xl : Int) == 0) = false := by simp; omega
  have hy0 : ((yl : Int) == 0) = false := by simp; omega
  have HT1 : Hid (takeN (nb n ++ bs) = (n, (xl : Int), 0)) := by rw [← hxl]; exact takeN_nb hn' bs
  have HT2 : Hid (takeT (tb s ++ bs) = (sb s, (yl : Int), 0)) := by rw [← hyl]; exact takeT_tb (by omega) bs
  have HB1 : Hid (∀ x ∈ nb n ++ bs, 0 ≤ x ∧ x ≤ 255) := fun x hx => (List.mem_append.1 hx).elim (nb_bytes n x) (hy x)
  have HB2 : Hid (∀ x ∈ tb s ++ bs, 0 ≤ x ∧ x ≤ 255) := fun x hx => (List.mem_append.1 hx).elim (tb_bytes s x) (hy x)
  obtain ⟨j1, ej1⟩ : ∃ j1 : Nat, c % (xl : Int) = (j1 : Int) := ⟨(c % (xl : Int)).toNat, by rw [Int.toNat_of_nonneg (Int.emod_nonneg _ (by omega))]⟩
  obtain ⟨j2, ej2⟩ : ∃ j2 : Nat, c % (yl : Int) = (j2 : Int) := ⟨(c % (yl : Int)).toNat, by rw [Int.toNat_of_nonneg (Int.emod_nonneg _ (by omega))]⟩
  have hj1 : j1 < xl := by have := Int.emod_lt_of_pos c (show (0 : Int) < xl by omega); omega
  have hj2 : j2 < yl := by have := Int.emod_lt_of_pos c (show (0 : Int) < yl by omega); omega
  have HT3 : Hid (takeN ((nb n).take j1) = (0, 0, 5)) := by have := takeN_cut (n := n) (j := j1) (by omega) []; rw [List.append_nil] at this; exact this
  have HT4 : Hid (takeT ((tb s).take j2) = ([], 0, 5)) := takeT_cut (by omega) (by omega)
  have HB3 : Hid (∀ x ∈ (nb n).take j1, 0 ≤ x ∧ x ≤ 255) := fun x hx => nb_bytes n x (List.mem_of_mem_take hx)
  have HB4 : Hid (∀ x ∈ (tb s).take j2, 0 ≤ x ∧ x ≤ 255) := fun x hx => tb_bytes s x (List.mem_of_mem_take hx)
  have HX : Hid ((nb n).length = xl) := hxl
  have HY : Hid ((tb s).length = yl) := hyl
  have hS : strOfNums (sb s) = s := str_sb s
  clear hn hc hy hxl hyl
  go_enter Try.func7, Try.ntmps7
  go_wp2_with (first
    | (go_at_call 9; refine (number_any _ [] n _ (rd_nil _) (by simp)).mono ?_; rintro e w1 ⟨v1, rfl, ho1, hb1⟩; rw [List.nil_append] at ho1; have rx1 := ho1.rd; clear ho1; obtain ⟨x, xo, xc, hv1, hxc, hxm, _⟩ := rx1.lies (by rw [HX.out]; omega); rw [HX.out] at hv1 hxc; subst hv1)
    | (go_at_call 11; refine (text_any _ [] s _ (rd_nil _) (by simp; omega)).mono ?_; rintro e w2 ⟨v2, rfl, ho2, hb2⟩; rw [List.nil_append] at ho2; have ry2 := ho2.rd; clear ho2; obtain ⟨y, yo, yc, hv2, hyc, hym, _⟩ := ry2.lies (by rw [HY.out]; omega); rw [HY.out] at hv2 hyc; subst hv2; have rx2 := rx1.below hb2 (Nat.le_refl _); have rb2 := (hb.below hb1 (Nat.le_refl _)).below hb2 (Nat.le_refl _); clear rx1; have bx2 := hb1.trans (hb2.mono hb1.size); clear hb1 hb2)
    | (at_builtin; refine wpList_append_both _ rfl (.tmp 36) (.tmp 37) 22 22 rfl w2.heap.size 5 i0 (.int .u8 0) 1 1 Try.underlying22 hi hz0 hz1 hz2 rfl _ 0 [] rfl (own_nil w2) _ xl _ rfl (rd_src rx2 HX.out _) xl (.inr (by omega)) (Nat.le_refl _) (by unfold maxLen; omega) (by simp) ?_; intro v3 w3 ho3 hg3 _; simp only [Nat.zero_add, List.nil_append] at ho3; have bel3 := bel_first hg3; have rb3 := rb2.below bel3 (Nat.le_refl _); clear hg3)
    | (at_builtin; refine wpList_append_both _ rfl (.tmp 38) (.tmp 39) 22 22 rfl w2.heap.size 5 i0 (.int .u8 0) 1 1 Try.underlying22 hi hz0 hz1 hz2 rfl v3 xl _ rfl ho3 _ bs.length _ rfl (rb3.src Try.underlying22) bs.length (.inr (by omega)) (Nat.le_refl _) (by unfold maxLen; omega) bel3.size ?_; intro v4 w4 ho4 hg4 _; have bel4 := bel3.grown hg4 bel3.size (fun k hk => (ho3.lt k hk).1); have h13 := takeNumber_any v4 _ w4 (own_both HX.out ho4).rd HB1.out; rw [HT1.out] at h13; have rb4 := rb2.below bel4 (Nat.le_refl _); have rx4 := rx2.below bel4 (Nat.le_refl _); have ry4 := ry2.below bel4 (Nat.le_refl _); have bx4 := bx2.trans (bel4.mono bx2.size); clear ho3 ho4 hg4 bel3 bel4 rb3 rx2 ry2 rb2 bx2)
    | (go_at_call 13; refine h13b.mono ?_; rintro e w' ⟨rfl, rfl⟩; clear h13b)
    | (go_at_call 13; refine h13.mono ?_; rintro e w' ⟨rfl, rfl⟩; clear h13)
    | (at_builtin; refine wpList_append_both _ rfl (.tmp 46) (.tmp 47) 22 22 rfl w4.heap.size 5 i0 (.int .u8 0) 1 1 Try.underlying22 hi hz0 hz1 hz2 rfl _ 0 [] rfl (own_nil w4) _ yl _ rfl (rd_src ry4 HY.out _) yl (.inr (by omega)) (Nat.le_refl _) (by unfold maxLen; omega) (by simp) ?_; intro v5 w5 ho5 hg5 _; simp only [Nat.zero_add, List.nil_append] at ho5; have bel5 := bel_first hg5; have rb5 := rb4.below bel5 (Nat.le_refl _); clear hg5)
    | (at_builtin; refine wpList_append_both _ rfl (.tmp 48) (.tmp 49) 22 22 rfl w4.heap.size 5 i0 (.int .u8 0) 1 1 Try.underlying22 hi hz0 hz1 hz2 rfl v5 yl _ rfl ho5 _ bs.length _ rfl (rb5.src Try.underlying22) bs.length (.inr (by omega)) (Nat.le_refl _) (by unfold maxLen; omega) bel5.size ?_; intro v6 w6 ho6 hg6 _; have bel6 := bel5.grown hg6 bel5.size (fun k hk => (ho5.lt k hk).1); have h15 := takeText_any v6 _ w6 (own_both HY.out ho6).rd HB2.out; rw [HT2.out] at h15; have rx6 := rx4.below bel6 (Nat.le_refl _); have ry6 := ry4.below bel6 (Nat.le_refl _); have bx6 := bx4.trans (bel6.mono bx4.size); have h13b := takeNumber_any _ _ w6 (rx6.first HX.out hj1) HB3.out; rw [HT3.out] at h13b; have h15b := takeText_any _ _ w6 (ry6.first HY.out hj2) HB4.out; rw [HT4.out] at h15b; clear rx6 ry6 ho5 ho6 hg6 bel5 bel6 rb5 rx4 ry4 rb4 bx4)
    | (go_at_call 15; refine h15.mono ?_; rintro e w' ⟨rfl, rfl⟩; clear h15)
    | (go_at_call 15; refine h15b.mono ?_; rintro e w' ⟨rfl, rfl⟩; clear h15b))
  go_ret
  exact ⟨rfl, bx6⟩
end Go.Proofs.Ytdbfblkdjijmmaa
