/- What the functions that take numbers do: signed, TakeNumber, and the document's TakeNumber. -/
import Derived.Test.YtdbfblkdjijmmaaB
import Derived.Deep.RegionHeld
import Derived.Deep.DrawnRows
namespace Go.Proofs.Ytdbfblkdjijmmaa
open Go.RowKit
attribute [local go_sem ↓] Go.wp_at_zero Go.wp_at_succ

/-- A slice of bytes that isn't empty: where it lies. -/
theorem Rd.lies {w : World} {v : Value} {bs : List Int} (h : Rd w v bs) (hn : 0 < bs.length) :
    ∃ b off cap, v = .slice (some ⟨b, off, none⟩) bs.length cap ∧ bs.length ≤ cap ∧ cap ≤ maxLen ∧ ∀ i, i < bs.length → w.cell? ⟨b, off + i, none⟩ = some (.int .u8 (bs.getD i 0)) := by
  obtain ⟨a, cap, rfl, hc, hm, hnone, hcell⟩ := h
  cases a with
  | none => have := (hnone rfl).1; subst this; simp at hn
  | some x =>
    obtain ⟨b, off, spot⟩ := x
    have h0 := hcell _ rfl 0 hn
    have hspot : spot = none := by simpa [Addr.add] using World.cell?_spot h0
    subst hspot
    refine ⟨b, off, cap, rfl, hc, hm, fun i hi => ?_⟩
    have := hcell _ rfl i hi
    have hp : (⟨b, off, none⟩ : Addr).add i = ⟨b, off + i, none⟩ := by unfold Addr.add; split <;> simp_all
    rw [hp] at this
    exact this

theorem Rd.of_lies {w : World} {b off len cap : Nat} {bs : List Int} (hl : bs.length = len) (hc : len ≤ cap) (hm : cap ≤ maxLen) (h : ∀ i, i < len → w.cell? ⟨b, off + i, none⟩ = some (.int .u8 (bs.getD i 0))) :
    Rd w (.slice (some ⟨b, off, none⟩) len cap) bs := by
  subst hl
  refine ⟨_, cap, rfl, hc, hm, by simp, fun x hx i hi => ?_⟩
  obtain rfl := Option.some.inj hx
  have hp : (⟨b, off, none⟩ : Addr).add i = ⟨b, off + i, none⟩ := by unfold Addr.add; split <;> simp_all
  rw [hp]
  exact h i hi

set_option maxHeartbeats 400000 in
theorem signed_any (v : Value) (ds : List Int) (w : World) (h : Rd w v ds) (hb : ∀ x ∈ ds, 0 ≤ x ∧ x ≤ 255) (hl : ds.length ≤ 8) :
    Calls Try.prog 27 #[v] w fun e w' => e = .returned (.int .i64 (sgn ds)) ∧ w = w' := by
  by_cases hn : ds.length = 0
  · obtain rfl : ds = [] := List.length_eq_zero_iff.1 hn
    obtain ⟨a, cap, rfl, hc, hm, hnone, hcell⟩ := h
    simp only [List.length_nil]
    go_enter Try.func27, Try.ntmps27
    go_wp2
    refine wp_loop_rounds 1 ?_
    rw [rounds_succ]
    go_wp2
    go_ret
    exact ⟨rfl, rfl⟩
  · obtain ⟨b, off, cap, rfl, hc, hm, hcell⟩ := h.lies (by omega)
    obtain ⟨c, hcd⟩ : ∃ c, c = ds.getD 0 0 := ⟨_, rfl⟩
    have hc0 : w.cell? ⟨b, off, none⟩ = some (.int .u8 c) := by rw [hcd]; simpa using hcell 0 (by omega)
    have hs0 : sgn0 ds = if 128 ≤ c then -1 else 0 := by
      cases ds with
      | nil => simp at hn
      | cons d r => rw [hcd]; rfl
    have hcb : 0 ≤ c ∧ c ≤ 255 := by rw [hcd, getD_get _ _ (by omega)]; exact hb _ (List.getElem_mem _)
    have HC : Hid (∀ i, i < ds.length → w.cell? ⟨b, off + i, none⟩ = some (.int .u8 (ds.getD i 0))) := hcell
    have HB : Hid (∀ x ∈ ds, 0 ≤ x ∧ x ≤ 255) := hb
    have hp : (0 : Int) < (ds.length : Int) := by omega
    unfold maxLen at hm
    clear hn hcell hb hcd h
    have HS : ∃ n0 : Int, n0 = sgn0 ds ∧ (128 ≤ c → n0 = -1) ∧ (¬ 128 ≤ c → n0 = 0) := ⟨_, rfl, fun h => by rw [hs0, if_pos h], fun h => by rw [hs0, if_neg h]⟩
    obtain ⟨n0, e0, e1, e2⟩ := HS
    have H0 : Hid (n0 = sgn0 ds) := e0
    clear e0 hs0
    by_cases h128 : 128 ≤ c
    all_goals
      first | (have e := e1 h128; subst e) | (have e := e2 h128; subst e)
      clear e1 e2
      go_enter Try.func27, Try.ntmps27
      go_wp2
      go_loop [3, 17] (fun n i => ∃ k : Nat, k ≤ ds.length ∧ i = .int .i64 k ∧ n = .int .i64 (sgnF (sgn0 ds) (ds.take k))) (fun _ i => ds.length - (intOf i).toNat)
      case atStart => exact ⟨0, Nat.zero_le _, rfl, by rw [← H0.out]; rfl⟩
      case round =>
        obtain ⟨k, hk, rfl, rfl⟩ := hrel
        by_cases hlt : k < ds.length
        · obtain ⟨x, hx⟩ : ∃ x, x = ds.getD k 0 := ⟨_, rfl⟩
          have hx' : x = ds[k] := by rw [hx, getD_get _ _ hlt]
          have hck : w.cell? ⟨b, off + k, none⟩ = some (.int .u8 x) := by rw [hx]; exact HC.out k hlt
          have hxb : 0 ≤ x ∧ x ≤ 255 := by rw [hx']; exact HB.out _ (List.getElem_mem _)
          obtain ⟨N, hN⟩ : ∃ N, N = sgnF (sgn0 ds) (ds.take k) := ⟨_, rfl⟩
          have hnext : sgnF (sgn0 ds) (ds.take (k + 1)) = N * 256 + x := by rw [take_snoc ds k hlt, sgnF_snoc, hN, hx']
          have hbd := sgn_small ds HB.out k hlt hl
          rw [hnext] at hbd
          have hb1 : -9223372036854775808 ≤ N * 256 + x := by omega
          have hb2 : N * 256 + x ≤ 9223372036854775807 := by omega
          have hb3 : -36028797018963968 ≤ N := by omega
          have hb4 : N ≤ 36028797018963967 := by omega
          have hor : bits .or .i64 (N * 256) x = N * 256 + x := by rw [or_low N x hxb.1 (by omega), IntKind.wrap_i64]; omega
          have HN : Hid (sgnF (sgn0 ds) (ds.take (k + 1)) = N * 256 + x) := hnext
          rw [← hN]
          clear hbd hnext hx hx' hN
          go_wp2
          go_round
          case rel => exact ⟨k + 1, hlt, by go_num, by rw [HN.out]⟩
          case measure => simp [intOf]; omega
        · go_wp2
          go_ret
          refine ⟨?_, rfl⟩
          rw [List.take_of_length_le (by omega)]
          rfl

/-- A round of the loop that takes a number's bytes: what comes of the number, and that it fits. -/
theorem sgn_round (ds : List Int) (hb : ∀ x ∈ ds, 0 ≤ x ∧ x ≤ 255) (k : Nat) (h : k < ds.length) (h8 : ds.length ≤ 8) (x : Int) (hx : x = ds.getD k 0) (N : Int) (hN : N = sgnF (sgn0 ds) (ds.take k)) :
    Hid (sgnF (sgn0 ds) (ds.take (k + 1)) = N * 256 + x) ∧ bits .or .i64 (N * 256) x = N * 256 + x ∧ -9223372036854775808 ≤ N * 256 + x ∧ N * 256 + x ≤ 9223372036854775807 ∧ -36028797018963968 ≤ N ∧ N ≤ 36028797018963967 := by
  have hx' : x = ds[k] := by rw [hx, getD_get _ _ h]
  have hxb : 0 ≤ x ∧ x ≤ 255 := by rw [hx']; exact hb _ (List.getElem_mem _)
  have hnext : sgnF (sgn0 ds) (ds.take (k + 1)) = N * 256 + x := by rw [take_snoc ds k h, sgnF_snoc, hN, hx']
  have hbd := sgn_small ds hb k h h8
  rw [hnext] at hbd
  refine ⟨hnext, ?_, by omega, by omega, by omega, by omega⟩
  rw [or_low N x hxb.1 (by omega), IntKind.wrap_i64]
  omega

/-- The bytes behind the first one, m of them. -/
theorem Rd.behind {w : World} {b off cap : Nat} {c : Int} {r : List Int} {m : Nat} (h : ∀ i, i < (c :: r).length → w.cell? ⟨b, off + i, none⟩ = some (.int .u8 ((c :: r).getD i 0))) (hc : (c :: r).length ≤ cap) (hm : cap ≤ maxLen) (hmr : m ≤ r.length) :
    Rd w (.slice (if cap = 1 then some ⟨b, off, none⟩ else some ⟨b, off + 1, none⟩) m (cap - 1)) (r.take m) := by
  have hl : (r.take m).length = m := by rw [List.length_take]; omega
  by_cases h1 : cap = 1
  · rw [if_pos h1]
    have : m = 0 := by simp at hc; omega
    subst this
    exact Rd.of_lies (by simp) (by omega) (by omega) (fun i hi => by omega)
  · rw [if_neg h1]
    refine Rd.of_lies hl (by simp at hc; omega) (by omega) (fun i hi => ?_)
    have := h (i + 1) (by simp; omega)
    rw [show off + 1 + i = off + (i + 1) by omega, this]
    simp [List.getD, hi]

theorem takeN_nil : takeN [] = (0, 0, 5) := rfl
theorem takeN_big {c : Int} {r : List Int} (h : 8 < c) : takeN (c :: r) = (0, 0, 2) := by simp [takeN, h]
theorem takeN_short {c : Int} {r : List Int} (h : ¬ 8 < c) (h1 : (r.length : Int) < c) : takeN (c :: r) = (0, 0, 5) := by simp [takeN, h, h1]
theorem takeN_ok {r : List Int} {m : Nat} (h : m ≤ 8) (h1 : m ≤ r.length) (h2 : wd (sgn (r.take m)) = m) : takeN ((m : Int) :: r) = (sgn (r.take m), 1 + (m : Int), 0) := by
  have a : ¬ (8 : Int) < m := by omega
  have b : ¬ (r.length : Int) < m := by omega
  simp [takeN, a, b, h2]
theorem takeN_not {r : List Int} {m : Nat} (h : m ≤ 8) (h1 : m ≤ r.length) (h2 : ¬ wd (sgn (r.take m)) = m) : takeN ((m : Int) :: r) = (0, 0, 2) := by
  have a : ¬ (8 : Int) < m := by omega
  have b : ¬ (r.length : Int) < m := by omega
  have d : ¬ ((wd (sgn (r.take m)) : Nat) : Int) = m := by omega
  simp [takeN, a, b, d]

abbrev tup (x : Int × Int × Int) : Value := .tuple #[.int .i64 x.1, .int .i64 x.2.1, .int .i64 x.2.2]

set_option maxHeartbeats 400000 in
theorem takeNumber_any (v : Value) (bs : List Int) (w : World) (h : Rd w v bs) (hb : ∀ x ∈ bs, 0 ≤ x ∧ x ≤ 255) :
    Calls Try.prog 13 #[v] w fun e w' => e = .returned (tup (takeN bs)) ∧ w = w' := by
  cases bs with
  | nil =>
    obtain ⟨a, cap, rfl, hc, hm, hnone, hcell⟩ := h
    simp only [List.length_nil, takeN_nil]
    go_enter Try.func13, Try.ntmps13
    go_wp2
    go_ret3
    exact ⟨rfl, rfl⟩
  | cons c r =>
    obtain ⟨b, off, cap, rfl, hc, hm, hcell⟩ := h.lies (by simp)
    have hc0 : w.cell? ⟨b, off, none⟩ = some (.int .u8 c) := by simpa using hcell 0 (by simp)
    have hcb := hb c (by simp)
    have HB : Hid (∀ m, ∀ x ∈ r.take m, 0 ≤ x ∧ x ≤ 255) := fun m x hx => hb x (List.mem_cons_of_mem _ (List.mem_of_mem_take hx))
    have HC : Hid (∀ m, m ≤ r.length → Rd w (.slice (if cap = 1 then some ⟨b, off, none⟩ else some ⟨b, off + 1, none⟩) m (cap - 1)) (r.take m)) := fun m hmr => Rd.behind hcell hc hm hmr
    have hz : ((r.length : Int) + 1 == 0) = false := by simp; omega
    simp only [List.length_cons] at hc ⊢
    unfold maxLen at hm
    clear hcell hb h
    by_cases h8 : 8 < c
    · rw [takeN_big h8]
      go_enter Try.func13, Try.ntmps13
      go_wp2
      go_ret3
      exact ⟨rfl, rfl⟩
    · by_cases hs : (r.length : Int) < c
      · rw [takeN_short h8 hs]
        have hs' : (r.length : Int) + 1 < 1 + c := by omega
        go_enter Try.func13, Try.ntmps13
        go_wp2
        go_ret3
        exact ⟨rfl, rfl⟩
      · obtain ⟨m, rfl⟩ : ∃ m : Nat, c = (m : Int) := ⟨c.toNat, by omega⟩
        have hm8 : m ≤ 8 := by omega
        have hmr : m ≤ r.length := by omega
        have hs' : ¬ (r.length : Int) + 1 < 1 + (m : Int) := by omega
        have hs2 : 1 + (m : Int) ≤ (cap : Int) := by omega
        have hrd := HC.out m hmr
        have hby := HB.out m
        have hlen : (r.take m).length ≤ 8 := by rw [List.length_take]; omega
        obtain ⟨n, hn⟩ : ∃ n, n = sgn (r.take m) := ⟨_, rfl⟩
        have hcall := signed_any _ _ w hrd hby hlen
        rw [← hn] at hcall
        clear hrd hby hlen HC HB
        have hwl := wd_le n
        by_cases hw : wd n = m
        · rw [takeN_ok hm8 hmr (by rw [← hn]; exact hw), ← hn]
          clear hn
          go_enter Try.func13, Try.ntmps13
          go_wp2_with (first
            | (go_at_call 27; refine hcall.mono ?_; rintro e w' ⟨rfl, rfl⟩)
            | (go_at_call 28; refine (width_any _ _).mono ?_; rintro e w' ⟨rfl, rfl⟩))
          all_goals
            go_ret3
            exact ⟨rfl, rfl⟩
        · rw [takeN_not hm8 hmr (by rw [← hn]; exact hw)]
          clear hn
          have hne : ¬ (1 + (wd n : Int) = 1 + (m : Int)) := by omega
          go_enter Try.func13, Try.ntmps13
          go_wp2_with (first
            | (go_at_call 27; refine hcall.mono ?_; rintro e w' ⟨rfl, rfl⟩)
            | (go_at_call 28; refine (width_any _ _).mono ?_; rintro e w' ⟨rfl, rfl⟩))
          all_goals
            go_ret3
            exact ⟨rfl, rfl⟩

theorem rd_conv {w : World} {v : Value} {xs : List Int} (h : Rd w v xs) : (convert 22 9 v).run Try.prog w = .ok (.string (strOfNums xs)) w :=
  h.convert Try.underlying22 Try.underlying5 Try.underlying9

theorem toList_ne {a b : ByteArray} (h : a.size ≠ b.size) : (a.toList == b.toList) = false := by
  rw [ByteArray.toList_eq, ByteArray.toList_eq]
  refine beq_eq_false_iff_ne.2 fun e => h ?_
  exact (congrArg List.length e : a.data.toList.length = b.data.toList.length)

theorem slice_to (b off len cap h : Nat) (hh : h ≤ cap) (w : World) :
    (Instr.slice 22 (.slice (some ⟨b, off, none⟩) len cap) none (some (.int .i64 (h : Int))) none).run Try.prog w = .ok (.slice (some ⟨b, off, none⟩) h cap) w := by
  have h1 : (0 : Int) ≤ (h : Int) := by omega
  have h2 : (h : Int) ≤ (cap : Int) := by omega
  go_simp

set_option maxHeartbeats 1000000 in
theorem refTakeNumber_any (v : Value) (bs : List Int) (w : World) (h : Rd w v bs) (hb : ∀ x ∈ bs, 0 ≤ x ∧ x ≤ 255) :
    Calls Try.prog 14 #[v] w fun e w' => e = .returned (tup (takeN bs)) ∧ Below w.heap.size w w' := by
  cases bs with
  | nil =>
    obtain ⟨a, cap, rfl, hc, hm, hnone, hcell⟩ := h
    simp only [List.length_nil, takeN_nil]
    go_enter Try.func14, Try.ntmps14
    go_wp2
    go_ret3
    exact ⟨rfl, Below.refl _ _⟩
  | cons c r =>
    obtain ⟨b, off, cap, rfl, hc, hm, hcell⟩ := h.lies (by simp)
    have hc0 : w.cell? ⟨b, off, none⟩ = some (.int .u8 c) := by simpa using hcell 0 (by simp)
    have hcb := hb c (by simp)
    have hz : ((r.length : Int) + 1 == 0) = false := by simp; omega
    have hcap := hc
    simp only [List.length_cons] at hc ⊢
    have hm' := hm
    unfold maxLen at hm
    by_cases h8 : 8 < c
    · rw [takeN_big h8]
      clear hcell hb h hm' hcap
      go_enter Try.func14, Try.ntmps14
      go_wp2
      go_ret3
      exact ⟨rfl, Below.refl _ _⟩
    · by_cases hs : (r.length : Int) < c
      · rw [takeN_short h8 hs]
        clear hcell hb h hm' hcap
        have hs' : (r.length : Int) + 1 < 1 + c := by omega
        go_enter Try.func14, Try.ntmps14
        go_wp2
        go_ret3
        exact ⟨rfl, Below.refl _ _⟩
      · obtain ⟨m, rfl⟩ : ∃ m : Nat, c = (m : Int) := ⟨c.toNat, by omega⟩
        have hm8 : m ≤ 8 := by omega
        have hmr : m ≤ r.length := by omega
        have hs' : ¬ (r.length : Int) + 1 < 1 + (m : Int) := by omega
        have hs2 : 1 + (m : Int) ≤ (cap : Int) := by omega
        have HR : Hid (Rd w (.slice (some ⟨b, off, none⟩) (1 + m) cap) ((m : Int) :: r.take m)) := by
          refine Rd.of_lies (by simp; omega) (by omega) hm' (fun i hi => ?_)
          rw [hcell i (by simp; omega)]
          cases i with
          | zero => simp
          | succ j => simp [List.getD, show j < m by omega]
        have HX : Hid (∀ k, k < m → ∃ x, w.cell? ⟨b, off + (1 + k), none⟩ = some (.int .u8 x) ∧ 0 ≤ x ∧ x ≤ 255 ∧ x = (r.take m).getD k 0) := by
          intro k hk
          have h1 := hcell (1 + k) (by simp; omega)
          have e : ((m : Int) :: r).getD (1 + k) 0 = (r.take m).getD k 0 := by rw [Nat.add_comm]; simp [List.getD, hk]
          rw [e] at h1
          refine ⟨_, h1, ?_, ?_, rfl⟩
          all_goals
            rw [getD_get _ _ (by rw [List.length_take]; omega)]
            have := hb _ (List.mem_cons_of_mem _ (List.mem_of_mem_take (List.getElem_mem (l := r.take m) (n := k) (by rw [List.length_take]; omega))))
            omega
        have HB : Hid (∀ x ∈ r.take m, 0 ≤ x ∧ x ≤ 255) := fun x hx => hb x (List.mem_cons_of_mem _ (List.mem_of_mem_take hx))
        have hlen : (r.take m).length = m := by rw [List.length_take]; omega
        obtain ⟨ds, hds⟩ : ∃ ds, ds = r.take m := ⟨_, rfl⟩
        have HT : Hid (takeN ((m : Int) :: r) = if wd (sgn ds) = m then (sgn ds, 1 + (m : Int), 0) else (0, 0, 2)) := by
          show takeN ((m : Int) :: r) = _
          rw [hds]
          split
          · exact takeN_ok hm8 hmr ‹_›
          · exact takeN_not hm8 hmr ‹_›
        rw [← hds] at HR HX HB hlen
        clear hcell hb h hm' hcap hds
        obtain ⟨n1, hn1, hn1a, hn1b, hn1c⟩ : ∃ n1, n1 = sgnF (sgn0 ds) (ds.take 1) ∧ -128 ≤ n1 ∧ n1 ≤ 127 ∧ ∀ x, 0 < m → x = ds.getD 0 0 → IntKind.i8.wrap x = n1 := by
          refine ⟨_, rfl, ?_⟩
          cases ds with
          | nil => simp [sgnF, sgn0]; intro; simp at hlen; omega
          | cons d t =>
            have := HB.out d (by simp)
            simp only [sgnF, sgn0, List.take_succ_cons, List.take_zero, List.foldl_cons, List.foldl_nil]
            by_cases h128 : 128 ≤ d
            · rw [if_pos h128]
              refine ⟨by omega, by omega, fun x _ hx => ?_⟩
              rw [hx]
              simp [IntKind.wrap, IntKind.bits, IntKind.signed, List.getD]
              omega
            · rw [if_neg h128]
              refine ⟨by omega, by omega, fun x _ hx => ?_⟩
              rw [hx]
              simp [IntKind.wrap, IntKind.bits, IntKind.signed, List.getD]
              omega
        have H1 : Hid (n1 = sgnF (sgn0 ds) (ds.take 1)) := hn1
        clear hn1
        by_cases hm0 : m = 0
        · subst hm0
          obtain rfl : ds = [] := List.length_eq_zero_iff.1 hlen
          have hrd := HR.out
          rw [HT.out]
          simp only [sgn, sgnF, sgn0, List.foldl_nil, wd_zero, if_true]
          clear HX H1 hn1a hn1b hn1c HB HT HR n1
          go_enter Try.func14, Try.ntmps14
          go_wp2
          refine wp_loop_rounds 1 ?_
          rw [rounds_succ]
          go_wp2
          have hnb : nb 0 = [0] := rfl
          have hrdd : Rd w.drew (.slice (some ⟨b, off, none⟩) 1 cap) [0] := hrd
          have hsl : (1 : Int) ≤ (cap : Int) := by omega
          have hwr : IntKind.i64.wrap (1 + 0) = 1 := rfl
          have hwr' : IntKind.i64.wrap 1 = 1 := rfl
          have hsr : ∀ w', (Instr.slice 22 (.slice (some ⟨b, off, none⟩) (r.length + 1) cap) none (some (.int .i64 1)) none).run Try.prog w' = .ok (.slice (some ⟨b, off, none⟩) 1 cap) w' := fun w' => slice_to b off (r.length + 1) cap 1 (by omega) w'
          go_region_held (fun w' => Rd w' (.slice (some ⟨b, off, none⟩) 1 cap) [0] ∧ (convert 22 9 (.slice (some ⟨b, off, none⟩) 1 cap)).run Try.prog w' = .ok (.string (strOfNums [0])) w')
            (first
              | exact ⟨hrd, rd_conv hrd⟩
              | exact ⟨hrdd, rd_conv hrdd⟩
              | exact ⟨hr1, rd_conv hr1⟩)
            (first
              | (go_at_call 10; refine (refNumber_any 0 _).mono ?_; rintro e w1 ⟨v1, rfl, ho1, hb1⟩; rw [hnb] at ho1; have hr1 := hrdd.below hb1 (Nat.le_refl _); have c1 := rd_conv ho1.rd))
          all_goals go_wp2
          all_goals
            go_ret3
            exact ⟨rfl, (Below.refl _ _).drew.trans hb1⟩
        · obtain ⟨x0, hx0, x0a, x0b, x0e⟩ := HX.out 0 (by omega)
          have hp : (0 : Int) < (m : Int) := by omega
          have hix : (1 : Int) < (r.length : Int) + 1 := by omega
          have hi8 := hn1c x0 (by omega) x0e
          clear x0e hn1c
          obtain ⟨n, hn⟩ : ∃ n, n = sgn ds := ⟨_, rfl⟩
          rw [HT.out, ← hn]
          have HD : Hid (n = sgn ds) := hn
          clear hn HT
          by_cases hw : wd n = m
          · have hnb : nb n = (m : Int) :: ds := by
              have hbt := bts_sgn (sgn0 ds) ds HB.out ds.length (Nat.le_refl _)
              rw [List.take_of_length_le (Nat.le_refl _), hlen] at hbt
              rw [nb, hw, HD.out]
              exact congrArg _ hbt
            rw [if_pos hw]
            clear hw
            go_enter Try.func14, Try.ntmps14
            go_wp2
            go_loop [6, 7] (fun n i => ∃ k : Nat, 1 ≤ k ∧ k ≤ m ∧ i = .int .i64 k ∧ n = .int .i64 (sgnF (sgn0 ds) (ds.take k))) (fun _ i => m - (intOf i).toNat)
            case atStart => exact ⟨1, by omega, by omega, rfl, by rw [← H1.out]⟩
            case round =>
              obtain ⟨k, hk1, hkm, rfl, rfl⟩ := hrel
              by_cases hlt : k < m
              · obtain ⟨x, hck, hxa, hxb, hx⟩ := HX.out k hlt
                obtain ⟨N, hN⟩ : ∃ N, N = sgnF (sgn0 ds) (ds.take k) := ⟨_, rfl⟩
                obtain ⟨HN, hor, hb1, hb2, hb3, hb4⟩ := sgn_round ds HB.out k (by omega) (by omega) x hx N hN
                have hix2 : 1 + (k : Int) < (r.length : Int) + 1 := by omega
                rw [← hN]
                clear hx hN
                go_wp2
                go_round
                case rel => exact ⟨k + 1, by omega, hlt, by go_num, by rw [HN.out]⟩
                case measure => simp [intOf]; omega
              · have he : sgnF (sgn0 ds) (ds.take k) = n := by rw [HD.out, List.take_of_length_le (by omega)]; rfl
                rw [he]
                clear he
                have hwr : IntKind.i64.wrap (1 + (m : Int)) = 1 + (m : Int) := by rw [IntKind.wrap_i64]; omega
                have hsr : ∀ w', (Instr.slice 22 (.slice (some ⟨b, off, none⟩) (r.length + 1) cap) none (some (.int .i64 (1 + (m : Int)))) none).run Try.prog w' = .ok (.slice (some ⟨b, off, none⟩) (1 + m) cap) w' := fun w' => slice_to b off (r.length + 1) cap (1 + m) (by omega) w'
                have hrd := HR.out
                have hlb : ¬ (k : Int) < (m : Int) := by omega
                have hrdd : Rd w.drew (.slice (some ⟨b, off, none⟩) (1 + m) cap) ((m : Int) :: ds) := hrd
                go_wp2
                go_region_held (fun w' => Rd w' (.slice (some ⟨b, off, none⟩) (1 + m) cap) ((m : Int) :: ds) ∧ (convert 22 9 (.slice (some ⟨b, off, none⟩) (1 + m) cap)).run Try.prog w' = .ok (.string (strOfNums ((m : Int) :: ds))) w')
                  (first
                    | exact ⟨hrd, rd_conv hrd⟩
                    | exact ⟨hrdd, rd_conv hrdd⟩
                    | exact ⟨hr1, rd_conv hr1⟩)
                  (first
                    | (go_at_call 10; refine (refNumber_any n _).mono ?_; rintro e w1 ⟨v1, rfl, ho1, hb1⟩; rw [hnb] at ho1; have hr1 := hrdd.below hb1 (Nat.le_refl _); have c1 := rd_conv ho1.rd))
                all_goals go_wp2
                all_goals
                  go_ret3
                  exact ⟨rfl, (Below.refl _ _).drew.trans hb1⟩
          · have hsz : (strOfNums (nb n)).size ≠ (strOfNums ((m : Int) :: ds)).size := by rw [strOfNums_size, strOfNums_size, nb_length, List.length_cons, hlen]; omega
            have hneq : ((strOfNums (nb n)).toList == (strOfNums ((m : Int) :: ds)).toList) = false := toList_ne hsz
            clear hsz
            rw [if_neg hw]
            clear hw
            go_enter Try.func14, Try.ntmps14
            go_wp2
            go_loop [6, 7] (fun n i => ∃ k : Nat, 1 ≤ k ∧ k ≤ m ∧ i = .int .i64 k ∧ n = .int .i64 (sgnF (sgn0 ds) (ds.take k))) (fun _ i => m - (intOf i).toNat)
            case atStart => exact ⟨1, by omega, by omega, rfl, by rw [← H1.out]⟩
            case round =>
              obtain ⟨k, hk1, hkm, rfl, rfl⟩ := hrel
              by_cases hlt : k < m
              · obtain ⟨x, hck, hxa, hxb, hx⟩ := HX.out k hlt
                obtain ⟨N, hN⟩ : ∃ N, N = sgnF (sgn0 ds) (ds.take k) := ⟨_, rfl⟩
                obtain ⟨HN, hor, hb1, hb2, hb3, hb4⟩ := sgn_round ds HB.out k (by omega) (by omega) x hx N hN
                have hix2 : 1 + (k : Int) < (r.length : Int) + 1 := by omega
                rw [← hN]
                clear hx hN
                go_wp2
                go_round
                case rel => exact ⟨k + 1, by omega, hlt, by go_num, by rw [HN.out]⟩
                case measure => simp [intOf]; omega
              · have he : sgnF (sgn0 ds) (ds.take k) = n := by rw [HD.out, List.take_of_length_le (by omega)]; rfl
                rw [he]
                clear he
                have hwr : IntKind.i64.wrap (1 + (m : Int)) = 1 + (m : Int) := by rw [IntKind.wrap_i64]; omega
                have hsr : ∀ w', (Instr.slice 22 (.slice (some ⟨b, off, none⟩) (r.length + 1) cap) none (some (.int .i64 (1 + (m : Int)))) none).run Try.prog w' = .ok (.slice (some ⟨b, off, none⟩) (1 + m) cap) w' := fun w' => slice_to b off (r.length + 1) cap (1 + m) (by omega) w'
                have hrd := HR.out
                have hlb : ¬ (k : Int) < (m : Int) := by omega
                have hrdd : Rd w.drew (.slice (some ⟨b, off, none⟩) (1 + m) cap) ((m : Int) :: ds) := hrd
                go_wp2
                go_region_held (fun w' => Rd w' (.slice (some ⟨b, off, none⟩) (1 + m) cap) ((m : Int) :: ds) ∧ (convert 22 9 (.slice (some ⟨b, off, none⟩) (1 + m) cap)).run Try.prog w' = .ok (.string (strOfNums ((m : Int) :: ds))) w')
                  (first
                    | exact ⟨hrd, rd_conv hrd⟩
                    | exact ⟨hrdd, rd_conv hrdd⟩
                    | exact ⟨hr1, rd_conv hr1⟩)
                  (first
                    | (go_at_call 10; refine (refNumber_any n _).mono ?_; rintro e w1 ⟨v1, rfl, ho1, hb1⟩; have hr1 := hrdd.below hb1 (Nat.le_refl _); have c1 := rd_conv ho1.rd))
                all_goals go_wp2
                all_goals
                  go_ret3
                  exact ⟨rfl, (Below.refl _ _).drew.trans hb1⟩
end Go.Proofs.Ytdbfblkdjijmmaa
