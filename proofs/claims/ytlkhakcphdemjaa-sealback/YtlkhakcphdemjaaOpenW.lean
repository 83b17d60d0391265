/- What seal.two, bytes.Clone and seal.Open do. -/
import Derived.Test.YtlkhakcphdemjaaSealW
import Derived.BigQuiet
import Derived.Deep.QuietTactic
namespace Go.Proofs.Ytlkhakcphdemjaa
open Go.RowKit
set_option linter.unusedSimpArgs false
set_option linter.unusedVariables false

/-- The number that the first two bytes tell. -/
def tv (xs : List Int) : Int := xs.getD 0 0 * 256 + xs.getD 1 0

/-- What opening answers: the payload, how many bytes the record has, the error. -/
def openS (xs : List Int) : List Int × Int × Int :=
  if xs.length < 4 then ([], 0, 5)
  else if tv xs < 1 ∨ 14000 < tv xs ∨ tv (xs.drop 2) ≠ sm (xs.take 2) then ([], 0, 9)
  else if (xs.length : Int) < tv xs + 6 then ([], 0, 5)
  else if tv (xs.drop (4 + (tv xs).toNat)) ≠ sm (xs.take (4 + (tv xs).toNat)) then ([], 0, 9)
  else ((xs.drop 4).take (tv xs).toNat, tv xs + 6, 0)

theorem openS_short {xs : List Int} (h : xs.length < 4) : openS xs = ([], 0, 5) := by unfold openS; rw [if_pos h]
theorem openS_bad {xs : List Int} (h : ¬ xs.length < 4) (h2 : tv xs < 1 ∨ 14000 < tv xs ∨ tv (xs.drop 2) ≠ sm (xs.take 2)) : openS xs = ([], 0, 9) := by unfold openS; rw [if_neg h, if_pos h2]
theorem openS_ends {xs : List Int} (h : ¬ xs.length < 4) (h1 : ¬ tv xs < 1) (h2 : ¬ 14000 < tv xs) (h3 : tv (xs.drop 2) = sm (xs.take 2)) (h4 : (xs.length : Int) < tv xs + 6) : openS xs = ([], 0, 5) := by
  unfold openS; rw [if_neg h, if_neg (by rintro (h | h | h) <;> contradiction), if_pos h4]
theorem openS_sum {xs : List Int} {n : Nat} (h : ¬ xs.length < 4) (hn : tv xs = n) (h1 : ¬ tv xs < 1) (h2 : ¬ 14000 < tv xs) (h3 : tv (xs.drop 2) = sm (xs.take 2)) (h4 : ¬ (xs.length : Int) < tv xs + 6) (h5 : tv (xs.drop (4 + n)) ≠ sm (xs.take (4 + n))) : openS xs = ([], 0, 9) := by
  have e : (tv xs).toNat = n := by omega
  unfold openS; rw [if_neg h, if_neg (by rintro (h | h | h) <;> contradiction), if_neg h4, e, if_pos h5]
theorem openS_ok {xs : List Int} {n : Nat} (h : ¬ xs.length < 4) (hn : tv xs = n) (h1 : ¬ tv xs < 1) (h2 : ¬ 14000 < tv xs) (h3 : tv (xs.drop 2) = sm (xs.take 2)) (h4 : ¬ (xs.length : Int) < tv xs + 6) (h5 : tv (xs.drop (4 + n)) = sm (xs.take (4 + n))) : openS xs = ((xs.drop 4).take n, (n : Int) + 6, 0) := by
  have e : (tv xs).toNat = n := by omega
  unfold openS; rw [if_neg h, if_neg (by rintro (h | h | h) <;> contradiction), if_neg h4, e, if_neg (by simp [h5]), hn]

theorem or_two (m n : Nat) (hn : n < 256) : m * 256 ||| n = m * 256 + n := by
  have := Nat.two_pow_add_eq_or_of_lt (i := 8) (b := n) (by omega) m
  rw [Nat.mul_comm] at this
  exact this.symm

theorem two_bits {a b : Int} (ha : 0 ≤ a ∧ a ≤ 255) (hb : 0 ≤ b ∧ b ≤ 255) : bits .or .u16 (IntKind.u16.wrap (IntKind.u16.wrap a * 256)) (IntKind.u16.wrap b) = a * 256 + b := by
  obtain ⟨m, rfl⟩ : ∃ m : Nat, a = m := ⟨a.toNat, by omega⟩
  obtain ⟨n, rfl⟩ : ∃ n : Nat, b = n := ⟨b.toNat, by omega⟩
  have h1 : IntKind.u16.wrap (IntKind.u16.wrap (m : Int) * 256) = ((m * 256 : Nat) : Int) := by rw [IntKind.wrap_u16, IntKind.wrap_u16]; omega
  have h2 : IntKind.u16.wrap (n : Int) = (n : Int) := by rw [IntKind.wrap_u16]; omega
  rw [h1, h2, u16_or_nat _ _ (by omega) (by omega), or_two m n (by omega)]
  omega

theorem getD_bytes {xs : List Int} (hy : ∀ x ∈ xs, 0 ≤ x ∧ x ≤ 255) (i : Nat) : 0 ≤ xs.getD i 0 ∧ xs.getD i 0 ≤ 255 := by
  rcases Nat.lt_or_ge i xs.length with h | h
  · exact hy _ (by simp [List.getD, h])
  · simp [List.getD, List.getElem?_eq_none h]

theorem tv_bounds {xs : List Int} (hy : ∀ x ∈ xs, 0 ≤ x ∧ x ≤ 255) : 0 ≤ tv xs ∧ tv xs ≤ 65535 := by
  have h0 := getD_bytes hy 0
  have h1 := getD_bytes hy 1
  unfold tv; omega

theorem Rd.drewN {w : World} {v : Value} {xs : List Int} (h : Rd w v xs) (n : Nat) : Rd (w.drewN n) v xs := h.below (below_drewN (Below.refl w.heap.size w) n) (Nat.le_refl _)

theorem two_any (v : Value) (xs : List Int) (w : World) (hr : Rd w v xs) (hy : ∀ x ∈ xs, 0 ≤ x ∧ x ≤ 255) (hl : 2 ≤ xs.length) :
    Calls Try.prog 16 #[v] w fun e w' => e = .returned (.int .u16 (tv xs)) ∧ ∃ m, w' = w.drewN m := by
  obtain ⟨b, off, cap, rfl, hc, hm, hcell⟩ := hr.lies (by omega)
  have c0 := hcell 0 (by omega)
  have c1 := hcell 1 (by omega)
  have hv := two_bits (getD_bytes hy 0) (getD_bytes hy 1)
  have HV : Hid (xs.getD 0 0 * 256 + xs.getD 1 0 = tv xs) := rfl
  obtain ⟨x0, hx0⟩ : ∃ x, x = xs.getD 0 0 := ⟨_, rfl⟩
  obtain ⟨x1, hx1⟩ : ∃ x, x = xs.getD 1 0 := ⟨_, rfl⟩
  rw [← hx0] at c0 hv HV
  rw [← hx1] at c1 hv HV
  have hl' : (1 : Int) < (xs.length : Int) := by omega
  have hl'' : (0 : Int) < (xs.length : Int) := by omega
  rw [Nat.add_zero] at c0
  clear hcell hx0 hx1 hr hy
  go_enter Try.func16, Try.ntmps16
  go_wp2
  go_quiet (fail)
  go_wp2
  go_ret
  rw [← HV.out]
  exact ⟨rfl, nq, rfl⟩

set_option maxHeartbeats 400000 in
theorem clone_any (v : Value) (xs : List Int) (w : World) (hr : Rd w v xs) (hl : 1 ≤ xs.length) (hl2 : xs.length ≤ 1000000) :
    Calls Try.prog 17 #[v] w fun e w' => ∃ u, e = .returned u ∧ Own w' w.heap.size 5 u xs ∧ Below w.heap.size w w' := by
  obtain ⟨i0, hi, hz0, hz1, hz2⟩ := info_parts Try.info5
  obtain ⟨b, off, cap, rfl, hc, hm, hcell⟩ := hr.lies (by omega)
  clear hcell
  have hq := Lib.run_eql_slice_nil (P := Try.prog) w 22 5 (some ⟨b, off, none⟩) xs.length cap 0 0 Try.underlying22
  go_enter Try.func17, Try.ntmps17
  go_wp2_with (first
    | (at_builtin; refine wpList_append_both _ rfl (.tmp 5) (.tmp 6) 22 22 rfl w.heap.size 5 i0 (.int .u8 0) 1 1 Try.underlying22 hi hz0 hz1 hz2 rfl _ 0 [] rfl (own_nil w) _ xs.length _ rfl (rd_src hr rfl _) xs.length (.inr (by omega)) (Nat.le_refl _) (by unfold maxLen; omega) (by simp) ?_))
  intro v3 w3 ho3 hg3 _
  have b3 := bel_first hg3
  go_wp2
  go_ret
  exact ⟨_, rfl, ho3, b3⟩

/-- A part of a slice, by the numbers it is cut at. -/
theorem cut_to {w : World} {b off len cap h : Nat} {xs : List Int} (hl : xs.length = len) (hr : Rd w (.slice (some ⟨b, off, none⟩) len cap) xs) (hh : h ≤ len) (hi : Int) (hhi : hi = (h : Int)) :
    ∃ s, (∀ w' : World, (Instr.slice 22 (.slice (some ⟨b, off, none⟩) len cap) none (some (.int .i64 hi)) none).run Try.prog w' = .ok s w') ∧ ∀ w', Rd w' (.slice (some ⟨b, off, none⟩) len cap) xs → Rd w' s (xs.take h) := by
  subst hl
  subst hhi
  have hc : xs.length ≤ cap := by obtain ⟨a', cap', e, hc, _⟩ := hr; simp only [Value.slice.injEq] at e; omega
  refine ⟨_, fun w' => slice_to b off xs.length cap h (by omega) w', fun w' hr' => ?_⟩
  rcases Nat.lt_or_ge h xs.length with h1 | h1
  · exact hr'.first rfl h1
  · have e : h = xs.length := by omega
    subst e
    rw [List.take_length]
    exact hr'

theorem slice_lo (b off len cap lo : Nat) (hlo : lo ≤ len) (hc : len ≤ cap) (w : World) :
    (Instr.slice 22 (.slice (some ⟨b, off, none⟩) len cap) (some (.int .i64 (lo : Int))) none none).run Try.prog w = .ok (.slice (if cap = lo then some ⟨b, off, none⟩ else some ⟨b, off + lo, none⟩) (len - lo) (cap - lo)) w := by
  have h1 : (0 : Int) ≤ (lo : Int) := by omega
  have h2 : (lo : Int) ≤ (len : Int) := by omega
  have h3 : (len : Int) ≤ (cap : Int) := by omega
  go_simp
theorem slice_lh (b off len cap lo hi : Nat) (hlo : lo ≤ hi) (hc : hi ≤ cap) (w : World) :
    (Instr.slice 22 (.slice (some ⟨b, off, none⟩) len cap) (some (.int .i64 (lo : Int))) (some (.int .i64 (hi : Int))) none).run Try.prog w = .ok (.slice (if cap = lo then some ⟨b, off, none⟩ else some ⟨b, off + lo, none⟩) (hi - lo) (cap - lo)) w := by
  have h1 : (0 : Int) ≤ (lo : Int) := by omega
  have h2 : (lo : Int) ≤ (hi : Int) := by omega
  have h3 : (hi : Int) ≤ (cap : Int) := by omega
  go_simp

theorem cut_lo {w : World} {b off len cap k : Nat} {xs : List Int} (hl : xs.length = len) (hr : Rd w (.slice (some ⟨b, off, none⟩) len cap) xs) (hk : k ≤ len) (lo : Int) (hlo : lo = (k : Int)) :
    ∃ s, (∀ w' : World, (Instr.slice 22 (.slice (some ⟨b, off, none⟩) len cap) (some (.int .i64 lo)) none none).run Try.prog w' = .ok s w') ∧ ∀ w', Rd w' (.slice (some ⟨b, off, none⟩) len cap) xs → Rd w' s (xs.drop k) := by
  subst hl
  subst hlo
  have hc : xs.length ≤ cap ∧ cap ≤ maxLen := by obtain ⟨a', cap', e, hc, hm, _⟩ := hr; simp only [Value.slice.injEq] at e; exact ⟨by omega, by omega⟩
  refine ⟨_, fun w' => slice_lo b off xs.length cap k hk hc.1 w', fun w' hr' => ?_⟩
  have h0 : Rd w' (.slice (if cap = k then some ⟨b, off, none⟩ else some ⟨b, off + k, none⟩) (xs.length - k) (cap - k)) ((xs.drop k).take (xs.length - k)) := by
    rcases Nat.eq_zero_or_pos xs.length with h0 | h0
    · have hk0 : k = 0 := by omega
      subst hk0
      have hx : xs = [] := List.eq_nil_of_length_eq_zero h0
      subst hx
      obtain ⟨a', cap', e, hc', hm', _⟩ := hr'
      simp only [Value.slice.injEq] at e
      split
      · exact Rd.of_lies (by simp) (by simp) (by omega) (fun i hi => by simp at hi)
      · exact Rd.of_lies (by simp) (by simp) (by omega) (fun i hi => by simp at hi)
    · obtain ⟨b', off', cap', e, hc', hm', hcell⟩ := hr'.lies h0
      simp only [Value.slice.injEq, Option.some.injEq, Addr.mk.injEq, and_true, true_and] at e
      obtain ⟨⟨rfl, rfl⟩, rfl⟩ := e
      exact Rd.part rfl hcell hc' hm' (by omega)
  rwa [List.take_of_length_le (by simp)] at h0

theorem cut_lh {w : World} {b off len cap k h : Nat} {xs : List Int} (hl : xs.length = len) (hr : Rd w (.slice (some ⟨b, off, none⟩) len cap) xs) (h0 : 0 < len) (hk : k ≤ h) (hh : h ≤ len) (lo hi : Int) (hlo : lo = (k : Int)) (hhi : hi = (h : Int)) :
    ∃ s, (∀ w' : World, (Instr.slice 22 (.slice (some ⟨b, off, none⟩) len cap) (some (.int .i64 lo)) (some (.int .i64 hi)) none).run Try.prog w' = .ok s w') ∧ ∀ w', Rd w' (.slice (some ⟨b, off, none⟩) len cap) xs → Rd w' s ((xs.drop k).take (h - k)) := by
  subst hl
  subst hlo
  subst hhi
  have hc : xs.length ≤ cap := by obtain ⟨a', cap', e, hc, hm, _⟩ := hr; simp only [Value.slice.injEq] at e; omega
  refine ⟨_, fun w' => slice_lh b off xs.length cap k h hk (by omega) w', fun w' hr' => ?_⟩
  obtain ⟨b', off', cap', e, hc', hm', hcell⟩ := hr'.lies h0
  simp only [Value.slice.injEq, Option.some.injEq, Addr.mk.injEq, and_true, true_and] at e
  obtain ⟨⟨rfl, rfl⟩, rfl⟩ := e
  exact Rd.part rfl hcell hc' hm' (by omega)

theorem sum_quiet (v : Value) (xs : List Int) (w : World) (n : Nat) (hr : Rd w v xs) : Calls Try.prog 7 #[v] (w.drewN n) fun e w' => e = .returned (.int .u16 (sm xs)) ∧ ∃ m, w' = w.drewN m :=
  (sum_any v xs _ (hr.drewN n)).mono fun _ _ ⟨h1, h2⟩ => ⟨h1, n, h2.symm⟩
theorem two_quiet (v : Value) (xs : List Int) (w : World) (n : Nat) (hr : Rd w v xs) (hy : ∀ x ∈ xs, 0 ≤ x ∧ x ≤ 255) (hl : 2 ≤ xs.length) : Calls Try.prog 16 #[v] (w.drewN n) fun e w' => e = .returned (.int .u16 (tv xs)) ∧ ∃ m, w' = w.drewN m :=
  Calls.quiet_of (two_any v xs _ (hr.drewN n) hy hl)

theorem drop_bytes {xs : List Int} (hy : ∀ x ∈ xs, 0 ≤ x ∧ x ≤ 255) (k : Nat) : ∀ x ∈ xs.drop k, 0 ≤ x ∧ x ≤ 255 := fun x hx => hy x (List.mem_of_mem_drop hx)

theorem Own.base {w : World} {base base' e : Nat} {v : Value} {xs : List Int} (h : Own w base e v xs) (hb : base' ≤ base) : Own w base' e v xs :=
  ⟨h.1, h.2.elim Or.inl (fun ⟨g, cap, cur, hv, hg, r⟩ => Or.inr ⟨g, cap, cur, hv, Nat.le_trans hb hg, r⟩)⟩

set_option maxHeartbeats 1000000 in
theorem open_any (v : Value) (xs : List Int) (w : World) (hr : Rd w v xs) (hy : ∀ x ∈ xs, 0 ≤ x ∧ x ≤ 255) :
    Calls Try.prog 11 #[v] w fun e w' => ∃ u, e = .returned (.tuple #[u, .int .i64 (openS xs).2.1, .int .i64 (openS xs).2.2]) ∧ Own w' w.heap.size 5 u (openS xs).1 ∧ Below w.heap.size w w' := by
  by_cases h4 : xs.length < 4
  · rw [openS_short h4]
    obtain ⟨a, cap, rfl, hc, hm, hnone, hcell⟩ := id hr
    clear hcell hnone
    have h4' : (xs.length : Int) < 4 := by omega
    go_enter Try.func11, Try.ntmps11
    go_wp2
    go_ret3
    exact ⟨_, rfl, own_none _ _, Below.refl _ _⟩
  obtain ⟨b, off, cap, rfl, hc, hm, _⟩ := hr.lies (by omega)
  have h4' : ¬ (xs.length : Int) < 4 := by omega
  have htb := tv_bounds hy
  obtain ⟨n, hn⟩ : ∃ n : Nat, tv xs = n := ⟨(tv xs).toNat, by omega⟩
  have h16 := two_any _ xs w hr hy (by omega)
  rw [hn] at h16 htb
  have hwn : IntKind.i64.wrap (n : Int) = n := by rw [IntKind.wrap_i64]; omega
  by_cases hA : n < 1
  · rw [openS_bad h4 (.inl (by omega))]
    have hA' : (n : Int) < 1 := by omega
    go_enter Try.func11, Try.ntmps11
    go_wp2_with (first
      | (go_at_call 16; refine h16.mono ?_; rintro e w1 ⟨rfl, m, hw1⟩; have r1 := hr.drewN m; have b1 := below_drewN (Below.refl w.heap.size w) m; rw [← hw1] at r1 b1; clear hw1))
    go_quiet (fail)
    go_wp2
    go_ret3
    exact ⟨_, rfl, own_none _ _, below_drewN b1 _⟩
  have hA' : decide ((n : Int) < 1) = false := decide_eq_false (by omega)
  by_cases hB : 14000 < n
  · rw [openS_bad h4 (.inr (.inl (by omega)))]
    have hB' : (n : Int) > 14000 := by omega
    go_enter Try.func11, Try.ntmps11
    go_wp2_with (first
      | (go_at_call 16; refine h16.mono ?_; rintro e w1 ⟨rfl, m, hw1⟩; have r1 := hr.drewN m; have b1 := below_drewN (Below.refl w.heap.size w) m; rw [← hw1] at r1 b1; clear hw1))
    go_quiet (fail)
    go_wp2
    go_ret3
    exact ⟨_, rfl, own_none _ _, below_drewN b1 _⟩
  have hB' : decide (14000 < (n : Int)) = false := decide_eq_false (by omega)
  obtain ⟨s2, es2, rs2⟩ := cut_lo rfl hr (k := 2) (by omega) 2 rfl
  obtain ⟨s3, es3, rs3⟩ := cut_to rfl hr (h := 2) (by omega) 2 rfl
  have q2 := fun w1 (r1 : Rd w1 (.slice (some ⟨b, off, none⟩) xs.length cap) xs) k => two_quiet s2 (xs.drop 2) w1 k (rs2 _ r1) (drop_bytes hy 2) (by simp; omega)
  have q3 := fun w1 (r1 : Rd w1 (.slice (some ⟨b, off, none⟩) xs.length cap) xs) k => sum_quiet s3 (xs.take 2) w1 k (rs3 _ r1)
  obtain ⟨t2, ht2⟩ : ∃ t, t = tv (xs.drop 2) := ⟨_, rfl⟩
  obtain ⟨t3, ht3⟩ : ∃ t, t = sm (xs.take 2) := ⟨_, rfl⟩
  rw [← ht2] at q2
  rw [← ht3] at q3
  by_cases hC : t2 = t3
  case neg =>
    rw [openS_bad h4 (.inr (.inr (by rw [← ht2, ← ht3]; exact hC)))]
    have hC' : (t2 != t3) = true := by simpa using hC
    clear rs2 rs3
    go_enter Try.func11, Try.ntmps11
    go_wp2_with (first
      | (go_at_call 16; refine h16.mono ?_; rintro e w1 ⟨rfl, m, hw1⟩; have r1 := hr.drewN m; have b1 := below_drewN (Below.refl w.heap.size w) m; rw [← hw1] at r1 b1; clear hw1))
    go_quiet (first
      | (exact q2 w1 r1 _)
      | (exact q3 w1 r1 _))
    go_wp2
    go_ret3
    exact ⟨_, rfl, own_none _ _, below_drewN b1 _⟩
  have hC' : (t2 != t3) = false := by simpa using hC
  rw [ht2, ht3] at hC
  have hw4 : IntKind.i64.wrap (4 + (n : Int)) = 4 + n := by rw [IntKind.wrap_i64]; omega
  have hw6 : IntKind.i64.wrap (4 + (n : Int) + 2) = 4 + n + 2 := by rw [IntKind.wrap_i64]; omega
  by_cases hD : xs.length < 4 + n + 2
  · rw [openS_ends h4 (by omega) (by omega) hC (by omega)]
    have hD' : (xs.length : Int) < 4 + n + 2 := by omega
    clear rs2 rs3
    go_enter Try.func11, Try.ntmps11
    go_wp2_with (first
      | (go_at_call 16; refine h16.mono ?_; rintro e w1 ⟨rfl, m, hw1⟩; have r1 := hr.drewN m; have b1 := below_drewN (Below.refl w.heap.size w) m; rw [← hw1] at r1 b1; clear hw1))
    go_quiet (first
      | (exact q2 w1 r1 _)
      | (exact q3 w1 r1 _))
    go_wp2
    go_ret3
    exact ⟨_, rfl, own_none _ _, below_drewN b1 _⟩
  have hD' : ¬ (xs.length : Int) < 4 + n + 2 := by omega
  obtain ⟨s4, es4, rs4⟩ := cut_lo rfl hr (k := 4 + n) (by omega) (4 + (n : Int)) (by omega)
  obtain ⟨s5, es5, rs5⟩ := cut_to rfl hr (h := 4 + n) (by omega) (4 + (n : Int)) (by omega)
  obtain ⟨s6, es6, rs6⟩ := cut_lh rfl hr (k := 4) (h := 4 + n) (by omega) (by omega) (by omega) 4 (4 + (n : Int)) rfl (by omega)
  have q4 := fun w1 (r1 : Rd w1 (.slice (some ⟨b, off, none⟩) xs.length cap) xs) k => two_quiet s4 (xs.drop (4 + n)) w1 k (rs4 _ r1) (drop_bytes hy _) (by simp; omega)
  have q5 := fun w1 (r1 : Rd w1 (.slice (some ⟨b, off, none⟩) xs.length cap) xs) k => sum_quiet s5 (xs.take (4 + n)) w1 k (rs5 _ r1)
  have q6 := fun w1 (r1 : Rd w1 (.slice (some ⟨b, off, none⟩) xs.length cap) xs) => clone_any s6 _ w1 (rs6 _ r1) (by simp; omega) (by simp; omega)
  rw [show 4 + n - 4 = n by omega] at q6
  obtain ⟨t4, ht4⟩ : ∃ t, t = tv (xs.drop (4 + n)) := ⟨_, rfl⟩
  obtain ⟨t5, ht5⟩ : ∃ t, t = sm (xs.take (4 + n)) := ⟨_, rfl⟩
  rw [← ht4] at q4
  rw [← ht5] at q5
  clear rs2 rs3 rs4 rs5 rs6
  by_cases hE : t4 = t5
  case neg =>
    rw [openS_sum h4 hn (by omega) (by omega) hC (by omega) (by rw [← ht4, ← ht5]; exact hE)]
    have hE' : (t4 != t5) = true := by simpa using hE
    go_enter Try.func11, Try.ntmps11
    go_wp2_with (first
      | (go_at_call 16; refine h16.mono ?_; rintro e w1 ⟨rfl, m, hw1⟩; have r1 := hr.drewN m; have b1 := below_drewN (Below.refl w.heap.size w) m; rw [← hw1] at r1 b1; clear hw1))
    go_quiet (first
      | (exact q2 w1 r1 _)
      | (exact q3 w1 r1 _))
    have r2 := r1.drewN nq
    have b2 := below_drewN b1 nq
    generalize w1.drewN nq = w2 at r2 b2 ⊢
    go_wp2
    go_quiet (first
      | (exact q4 w2 r2 _)
      | (exact q5 w2 r2 _))
    go_wp2
    go_ret3
    exact ⟨_, rfl, own_none _ _, below_drewN b2 _⟩
  have hE' : (t4 != t5) = false := by simpa using hE
  rw [ht4, ht5] at hE
  rw [openS_ok h4 hn (by omega) (by omega) hC (by omega) hE]
  go_enter Try.func11, Try.ntmps11
  go_wp2_with (first
    | (go_at_call 16; refine h16.mono ?_; rintro e w1 ⟨rfl, m, hw1⟩; have r1 := hr.drewN m; have b1 := below_drewN (Below.refl w.heap.size w) m; rw [← hw1] at r1 b1; clear hw1))
  go_quiet (first
    | (exact q2 w1 r1 _)
    | (exact q3 w1 r1 _))
  have r2 := r1.drewN nq
  have b2 := below_drewN b1 nq
  generalize w1.drewN nq = w2 at r2 b2 ⊢
  go_wp2
  go_quiet (first
    | (exact q4 w2 r2 _)
    | (exact q5 w2 r2 _))
  have r3 := r2.drewN nq
  have b3 := below_drewN b2 nq
  generalize w2.drewN nq = w3 at r3 b3 ⊢
  go_wp2_with (first
    | (go_at_call 17; refine (q6 w3 r3).mono ?_; rintro e w4 ⟨u4, rfl, o4, b4⟩))
  go_ret3
  refine ⟨u4, ?_, o4.base b3.size, b3.trans (b4.mono b3.size)⟩
  show Ending.returned (.tuple #[u4, .int .i64 (4 + (n : Int) + 2), .int .i64 0]) = _
  rw [show (4 : Int) + n + 2 = n + 6 by omega]
end Go.Proofs.Ytlkhakcphdemjaa
