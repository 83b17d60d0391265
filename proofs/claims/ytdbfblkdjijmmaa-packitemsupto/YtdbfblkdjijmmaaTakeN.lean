/- What signed and pack.TakeNumber do. -/
import Derived.Test.YtdbfblkdjijmmaaLies
namespace Go.Proofs.Ytdbfblkdjijmmaa
open Go.RowKit
set_option linter.unusedSimpArgs false
set_option linter.unusedVariables false

set_option maxHeartbeats 400000 in
theorem signed_any (v : Value) (ds : List Int) (w : World) (h : Rd w v ds) (hb : ∀ x ∈ ds, 0 ≤ x ∧ x ≤ 255) (hl : ds.length ≤ 8) :
    Calls Try.prog 27 #[v] w fun e w' => e = .returned (.int .i64 (sgn ds)) ∧ w = w' := by
  by_cases hn : ds.length = 0
  · obtain rfl : ds = [] := List.length_eq_zero_iff.1 hn
    obtain ⟨a, cap, rfl, hc, hm, hnone, hcell⟩ := h
    simp only [List.length_nil]
    go_enter Try.func27, Try.ntmps27
    go_wp2
    refine wp_loop_rounds 1 ?_
    rw [rounds_succ]
    go_wp2
    go_ret
    exact ⟨rfl, rfl⟩
  · obtain ⟨b, off, cap, rfl, hc, hm, hcell⟩ := h.lies (by omega)
    obtain ⟨c, hcd⟩ : ∃ c, c = ds.getD 0 0 := ⟨_, rfl⟩
    have hc0 : w.cell? ⟨b, off, none⟩ = some (.int .u8 c) := by rw [hcd]; simpa using hcell 0 (by omega)
    have hs0 : sgn0 ds = if 128 ≤ c then -1 else 0 := by
      cases ds with
      | nil => simp at hn
      | cons d r => rw [hcd]; rfl
    have hcb : 0 ≤ c ∧ c ≤ 255 := by rw [hcd, getD_get _ _ (by omega)]; exact hb _ (List.getElem_mem _)
    have HC : Hid (∀ i, i < ds.length → w.cell? ⟨b, off + i, none⟩ = some (.int .u8 (ds.getD i 0))) := hcell
    have HB : Hid (∀ x ∈ ds, 0 ≤ x ∧ x ≤ 255) := hb
    have hp : (0 : Int) < (ds.length : Int) := by omega
    unfold maxLen at hm
    clear hn hcell hb hcd h
    have HS : ∃ n0 : Int, n0 = sgn0 ds ∧ (128 ≤ c → n0 = -1) ∧ (¬ 128 ≤ c → n0 = 0) := ⟨_, rfl, fun h => by rw [hs0, if_pos h], fun h => by rw [hs0, if_neg h]⟩
    obtain ⟨n0, e0, e1, e2⟩ := HS
    have H0 : Hid (n0 = sgn0 ds) := e0
    clear e0 hs0
    by_cases h128 : 128 ≤ c
    all_goals
      first | (have e := e1 h128; subst e) | (have e := e2 h128; subst e)
      clear e1 e2
      go_enter Try.func27, Try.ntmps27
      go_wp2
      go_loop [3, 17] (fun n i => ∃ k : Nat, k ≤ ds.length ∧ i = .int .i64 k ∧ n = .int .i64 (sgnF (sgn0 ds) (ds.take k))) (fun _ i => ds.length - (intOf i).toNat)
      case atStart => exact ⟨0, Nat.zero_le _, rfl, by rw [← H0.out]; rfl⟩
      case round =>
        obtain ⟨k, hk, rfl, rfl⟩ := hrel
        by_cases hlt : k < ds.length
        · obtain ⟨x, hx⟩ : ∃ x, x = ds.getD k 0 := ⟨_, rfl⟩
          have hx' : x = ds[k] := by rw [hx, getD_get _ _ hlt]
          have hck : w.cell? ⟨b, off + k, none⟩ = some (.int .u8 x) := by rw [hx]; exact HC.out k hlt
          have hxb : 0 ≤ x ∧ x ≤ 255 := by rw [hx']; exact HB.out _ (List.getElem_mem _)
          obtain ⟨N, hN⟩ : ∃ N, N = sgnF (sgn0 ds) (ds.take k) := ⟨_, rfl⟩
          have hnext : sgnF (sgn0 ds) (ds.take (k + 1)) = N * 256 + x := by rw [take_snoc ds k hlt, sgnF_snoc, hN, hx']
          have hbd := sgn_small ds HB.out k hlt hl
          rw [hnext] at hbd
          have hb1 : -9223372036854775808 ≤ N * 256 + x := by omega
          have hb2 : N * 256 + x ≤ 9223372036854775807 := by omega
          have hb3 : -36028797018963968 ≤ N := by omega
          have hb4 : N ≤ 36028797018963967 := by omega
          have hor : bits .or .i64 (N * 256) x = N * 256 + x := by rw [or_low N x hxb.1 (by omega), IntKind.wrap_i64]; omega
          have HN : Hid (sgnF (sgn0 ds) (ds.take (k + 1)) = N * 256 + x) := hnext
          rw [← hN]
          clear hbd hnext hx hx' hN
          go_wp2
          go_round
          case rel => exact ⟨k + 1, hlt, by go_num, by rw [HN.out]⟩
          case measure => simp [intOf]; omega
        · go_wp2
          go_ret
          refine ⟨?_, rfl⟩
          rw [List.take_of_length_le (by omega)]
          rfl

theorem takeN_nil : takeN [] = (0, 0, 5) := rfl

theorem takeN_big {c : Int} {r : List Int} (h : 8 < c) : takeN (c :: r) = (0, 0, 2) := by simp [takeN, h]

theorem takeN_short {c : Int} {r : List Int} (h : ¬ 8 < c) (h1 : (r.length : Int) < c) : takeN (c :: r) = (0, 0, 5) := by simp [takeN, h, h1]

theorem takeN_ok {r : List Int} {m : Nat} (h : m ≤ 8) (h1 : m ≤ r.length) (h2 : wd (sgn (r.take m)) = m) : takeN ((m : Int) :: r) = (sgn (r.take m), 1 + (m : Int), 0) := by
  have a : ¬ (8 : Int) < m := by omega
  have b : ¬ (r.length : Int) < m := by omega
  simp [takeN, a, b, h2]

theorem takeN_not {r : List Int} {m : Nat} (h : m ≤ 8) (h1 : m ≤ r.length) (h2 : ¬ wd (sgn (r.take m)) = m) : takeN ((m : Int) :: r) = (0, 0, 2) := by
  have a : ¬ (8 : Int) < m := by omega
  have b : ¬ (r.length : Int) < m := by omega
  have d : ¬ ((wd (sgn (r.take m)) : Nat) : Int) = m := by omega
  simp [takeN, a, b, d]

abbrev tup (x : Int × Int × Int) : Value := .tuple #[.int .i64 x.1, .int .i64 x.2.1, .int .i64 x.2.2]

set_option maxHeartbeats 400000 in
theorem takeNumber_any (v : Value) (bs : List Int) (w : World) (h : Rd w v bs) (hb : ∀ x ∈ bs, 0 ≤ x ∧ x ≤ 255) :
    Calls Try.prog 13 #[v] w fun e w' => e = .returned (tup (takeN bs)) ∧ w = w' := by
  cases bs with
  | nil =>
    obtain ⟨a, cap, rfl, hc, hm, hnone, hcell⟩ := h
    simp only [List.length_nil, takeN_nil]
    go_enter Try.func13, Try.ntmps13
    go_wp2
    go_ret3
    exact ⟨rfl, rfl⟩
  | cons c r =>
    obtain ⟨b, off, cap, rfl, hc, hm, hcell⟩ := h.lies (by simp)
    have hc0 : w.cell? ⟨b, off, none⟩ = some (.int .u8 c) := by simpa using hcell 0 (by simp)
    have hcb := hb c (by simp)
    have HB : Hid (∀ m, ∀ x ∈ r.take m, 0 ≤ x ∧ x ≤ 255) := fun m x hx => hb x (List.mem_cons_of_mem _ (List.mem_of_mem_take hx))
    have HC : Hid (∀ m, m ≤ r.length → Rd w (.slice (if cap = 1 then some ⟨b, off, none⟩ else some ⟨b, off + 1, none⟩) m (cap - 1)) (r.take m)) := fun m hmr => Rd.behind hcell hc hm hmr
    have hz : ((r.length : Int) + 1 == 0) = false := by simp; omega
    simp only [List.length_cons] at hc ⊢
    unfold maxLen at hm
    clear hcell hb h
    by_cases h8 : 8 < c
    · rw [takeN_big h8]
      go_enter Try.func13, Try.ntmps13
      go_wp2
      go_ret3
      exact ⟨rfl, rfl⟩
    · by_cases hs : (r.length : Int) < c
      · rw [takeN_short h8 hs]
        have hs' : (r.length : Int) + 1 < 1 + c := by omega
        go_enter Try.func13, Try.ntmps13
        go_wp2
        go_ret3
        exact ⟨rfl, rfl⟩
      · obtain ⟨m, rfl⟩ : ∃ m : Nat, c = (m : Int) := ⟨c.toNat, by omega⟩
        have hm8 : m ≤ 8 := by omega
        have hmr : m ≤ r.length := by omega
        have hs' : ¬ (r.length : Int) + 1 < 1 + (m : Int) := by omega
        have hs2 : 1 + (m : Int) ≤ (cap : Int) := by omega
        have hrd := HC.out m hmr
        have hby := HB.out m
        have hlen : (r.take m).length ≤ 8 := by rw [List.length_take]; omega
        obtain ⟨n, hn⟩ : ∃ n, n = sgn (r.take m) := ⟨_, rfl⟩
        have hcall := signed_any _ _ w hrd hby hlen
        rw [← hn] at hcall
        clear hrd hby hlen HC HB
        have hwl := wd_le n
        by_cases hw : wd n = m
        · rw [takeN_ok hm8 hmr (by rw [← hn]; exact hw), ← hn]
          clear hn
          go_enter Try.func13, Try.ntmps13
          go_wp2_with (first
            | (go_at_call 27; refine hcall.mono ?_; rintro e w' ⟨rfl, rfl⟩)
            | (go_at_call 28; refine (width_any _ _).mono ?_; rintro e w' ⟨rfl, rfl⟩))
          all_goals
            go_ret3
            exact ⟨rfl, rfl⟩
        · rw [takeN_not hm8 hmr (by rw [← hn]; exact hw)]
          clear hn
          have hne : ¬ (1 + (wd n : Int) = 1 + (m : Int)) := by omega
          go_enter Try.func13, Try.ntmps13
          go_wp2_with (first
            | (go_at_call 27; refine hcall.mono ?_; rintro e w' ⟨rfl, rfl⟩)
            | (go_at_call 28; refine (width_any _ _).mono ?_; rintro e w' ⟨rfl, rfl⟩))
          all_goals
            go_ret3
            exact ⟨rfl, rfl⟩

end Go.Proofs.Ytdbfblkdjijmmaa
