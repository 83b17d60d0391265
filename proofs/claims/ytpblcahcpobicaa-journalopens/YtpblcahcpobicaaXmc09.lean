import Derived.Test.YtpblcahcpobicaaXmc08
import Derived.Test.YtpblcahcpobicaaXmc06
import Derived.Test.YtpblcahcpobicaaXmc01
import Derived.Deep.RegionLaw
import Derived.Deep.Cut
import Derived.Test.YtpblcahcpobicaaXmc04
import Derived.WalkSmall

/- The journal: ready, next, place, sealed, put. -/
namespace Go.Proofs.Ytpblcahcpobicaa
open Go.RowKit Go.Lib Go.Maps
set_option linter.unusedSimpArgs false
set_option linter.unusedVariables false
set_option maxRecDepth 100000
attribute [local go_sem ↓] Go.wp_at_zero Go.wp_at_succ

/-- A journal: as the program has it. -/
structure Jm where
  first : Int
  segs : Int
  size : Int
  torn : Bool
  recs : Int
  over : Bool
def jC (X : Nat) (j : Jm) : List Value := [.pointer (some ⟨X, 0, none⟩), .int .i64 j.first, .int .i64 j.segs, .int .i64 j.size, .bool j.torn, .int .i64 j.recs, .bool j.over]
def nxJ (j : Jm) : Int := IntKind.i64.wrap (j.first + j.segs)
def plJ (j : Jm) : Int := if j.segs = 0 ∨ 2000 ≤ j.size ∨ j.torn = true then nxJ j else IntKind.i64.wrap (nxJ j - 1)
theorem jnext_any {w : World} {J X : Nat} {j : Jm} (h : Bn w J (jC X j)) : Calls Try.prog 42 #[.pointer (some ⟨J, 0, none⟩)] w fun e w' => e = .returned (.int .i64 (nxJ j)) ∧ Below w.heap.size w w' := by
  obtain ⟨c1, _⟩ := h 1 _ rfl
  obtain ⟨c2, _⟩ := h 2 _ rfl
  unfold nxJ
  obtain ⟨k, hk⟩ : ∃ k, IntKind.i64.wrap (j.first + j.segs) = k := ⟨_, rfl⟩
  have hk2 : wrap64 (j.first + j.segs) = k := by rw [wrap64_iJ]; exact hk
  rw [hk]
  go_enter Try.func42, Try.ntmps42
  go_wp2
  go_quiet (fail)
  go_wp2
  go_ret
  exact ⟨rfl, ⟨rfl, rfl, rfl, Nat.le_refl _, fun _ _ => rfl⟩⟩
theorem jready_any {w : World} {J X : Nat} {j : Jm} (h : Bn w J (jC X j)) : Calls Try.prog 38 #[.pointer (some ⟨J, 0, none⟩)] w fun e w' => e = .returned (.int .i64 (if j.over = true then 8 else 0)) ∧ w = w' := by
  obtain ⟨c0, _⟩ := h 0 _ rfl
  obtain ⟨c6, _⟩ := h 6 _ rfl
  cases ho : j.over with
  | true =>
    rw [ho] at c6
    go_enter Try.func38, Try.ntmps38
    go_wp2
    go_ret
    exact ⟨rfl, rfl⟩
  | false =>
    rw [ho] at c6
    go_enter Try.func38, Try.ntmps38
    go_wp2
    go_ret
    exact ⟨rfl, rfl⟩
theorem jrecs_any {w : World} {J X : Nat} {j : Jm} (h : Bn w J (jC X j)) : Calls Try.prog 24 #[.pointer (some ⟨J, 0, none⟩)] w fun e w' => e = .returned (.int .i64 j.recs) ∧ w = w' := by
  obtain ⟨c5, _⟩ := h 5 _ rfl
  go_enter Try.func24, Try.ntmps24
  go_wp2
  go_ret
  exact ⟨rfl, rfl⟩
set_option maxHeartbeats 1000000 in
theorem jplace_any {w : World} {J X : Nat} {j : Jm} (h : Bn w J (jC X j)) : Calls Try.prog 40 #[.pointer (some ⟨J, 0, none⟩)] w fun e w' => e = .returned (.int .i64 (plJ j)) ∧ Below w.heap.size w w' := by
  have hn := jnext_any h
  obtain ⟨c2, _⟩ := h 2 _ rfl
  obtain ⟨c3, _⟩ := h 3 _ rfl
  obtain ⟨c4, _⟩ := h 4 _ rfl
  unfold plJ
  obtain ⟨k, hk⟩ : ∃ k, nxJ j = k := ⟨_, rfl⟩
  rw [hk] at hn ⊢
  obtain ⟨k2, hk2⟩ : ∃ q, IntKind.i64.wrap (k - 1) = q := ⟨_, rfl⟩
  have hk3 : wrap64 (k - 1) = k2 := by rw [wrap64_iJ]; exact hk2
  rw [hk2]
  obtain ⟨J0, hj0⟩ : ∃ q, j = q := ⟨_, rfl⟩
  obtain ⟨f0, sg, sz, tn, rc, ov⟩ := j
  simp only at c2 c3 c4 ⊢
  clear hk hk2 hj0 h
  by_cases h1 : sg = 0
  · subst h1
    rw [if_pos (.inl rfl)]
    go_enter Try.func40, Try.ntmps40
    go_wp2_with (first
      | (go_at_call 42; refine hn.mono ?_; rintro e w2 ⟨rfl, b2⟩)
      | fail)
    go_ret
    exact ⟨rfl, b2⟩
  by_cases h2 : 2000 ≤ sz
  · rw [if_pos (.inr (.inl h2))]
    have h2' : sz ≥ 2000 := h2
    go_enter Try.func40, Try.ntmps40
    go_wp2_with (first
      | (go_at_call 42; refine hn.mono ?_; rintro e w2 ⟨rfl, b2⟩)
      | fail)
    go_ret
    exact ⟨rfl, b2⟩
  have h2' : ¬ sz ≥ 2000 := h2
  cases tn with
  | true =>
    rw [if_pos (.inr (.inr rfl))]
    go_enter Try.func40, Try.ntmps40
    go_wp2_with (first
      | (go_at_call 42; refine hn.mono ?_; rintro e w2 ⟨rfl, b2⟩)
      | fail)
    go_ret
    exact ⟨rfl, b2⟩
  | false =>
    rw [if_neg (by simp; omega)]
    go_enter Try.func40, Try.ntmps40
    go_wp2_with (first
      | (go_at_call 42; refine hn.mono ?_; rintro e w2 ⟨rfl, b2⟩)
      | fail)
    go_ret
    exact ⟨congrArg (fun q => Ending.returned (Value.int .i64 q)) hk3, b2⟩
theorem jown_rd {w : World} {B m : Nat} {v : Value} {b : List Int} (hm : b.length = m) (h : w.ownsRow B 5 1 v (1 + m) ([.int .u8 0] ++ b.map (Value.int .u8))) : Own w B 5 v (0 :: b) := by
  unfold Own
  rw [List.length_cons, hm, Nat.add_comm m 1]
  exact h
theorem jown_low {w : World} {b b' e : Nat} {v : Value} {xs : List Int} (h : Own w b e v xs) (hb : b' ≤ b) : Own w b' e v xs := by
  refine ⟨h.1, ?_⟩
  rcases h.2 with hn | ⟨g, cap, cur, e1, e2, e3⟩
  · exact .inl hn
  · exact .inr ⟨g, cap, cur, e1, Nat.le_trans hb e2, e3⟩
/-- The sealed record of a record, or its error. -/
def sealJ (b : List Int) : List Int × Int := if b.length = 0 then ([], 1) else if 14000 ≤ b.length then ([], 4) else (rcd (0 :: b), 0)
theorem Try.infoJ5 : (Try.prog.info? 5).map (fun i => (i.zero, i.size, i.bytes)) = some (some (.int .u8 0), 1, 1) := by kernel_rfl
set_option maxHeartbeats 2000000 in
theorem jsealed_any {w : World} {v : Value} {b : List Int} (h : Rd w v b) : Calls Try.prog 39 #[v] w fun e w' => ∃ u, e = .returned (.tuple #[u, .int .i64 (sealJ b).2]) ∧ Own w' w.heap.size 5 u (sealJ b).1 ∧ Below w.heap.size w w' := by
  obtain ⟨ba, bc, rfl, hbc, hbm, _⟩ := id h
  unfold maxLen at hbm
  unfold sealJ
  by_cases h0 : b.length = 0
  · rw [if_pos h0]
    have h0' : (b.length : Int) = 0 := by omega
    go_enter Try.func39, Try.ntmps39
    go_wp2
    go_ret2
    exact ⟨_, rfl, World.ownsRow_nil _ _ _ _, Below.refl _ _⟩
  rw [if_neg h0]
  by_cases h1 : 14000 ≤ b.length
  · rw [if_pos h1]
    have h0' : ¬ (b.length : Int) = 0 := by omega
    have h1' : (b.length : Int) ≥ 14000 := by omega
    go_enter Try.func39, Try.ntmps39
    go_wp2
    go_ret2
    exact ⟨_, rfl, World.ownsRow_nil _ _ _ _, Below.refl _ _⟩
  rw [if_neg h1]
  have h0' : ¬ (b.length : Int) = 0 := by omega
  have h1' : ¬ (b.length : Int) ≥ 14000 := by omega
  have HR := hideD h
  obtain ⟨m, hm⟩ : ∃ k, b.length = k := ⟨_, rfl⟩
  rw [hm] at h0' h1' hbc ⊢
  have HM := hideD hm
  clear h hm h0 h1
  go_enter Try.func39, Try.ntmps39
  have hm14 : m < 14000 := by omega
  obtain ⟨i0, hi, hz0, hz1, hz2⟩ := inf_getJ Try.infoJ5
  have hal : Below w.heap.size w (w.alloc (.cells #[.int .u8 0] 5)) := (Below.refl _ _).alloc (Nat.le_refl _) _
  have hown : (w.alloc (.cells #[.int .u8 0] 5)).ownsRow w.heap.size 5 1 (.slice (some ⟨w.heap.size, 0, none⟩) 1 1) 1 [.int .u8 0] := World.ownsRow_lit w #[.int .u8 0] 1 (Nat.le_refl _) (by simp [maxLen]) rfl
  have hsrc := (rd_on HR.out hal).src (t := 41) (e := 5) Try.underlying41
  rw [HM.out] at hsrc
  have hss : sealS (0 :: b) = (rcd (0 :: b), 0) := by
    unfold sealS
    rw [if_neg (by simp), if_neg (by simp only [List.length_cons]; have := HM.out; omega)]
  have HSRC := hideD hsrc
  have HOWN := hideD hown
  have HAL := hideD hal
  clear hsrc hown hal
  go_wp2_with (first
    | (at_builtin; refine wpList_append_at _ rfl (.tmp 10) (.tmp 11) 41 41 rfl w.heap.size 5 i0 (.int .u8 0) 1 1 Try.underlying41 hi hz0 hz1 hz2 rfl (.slice (some ⟨w.heap.size, 0, none⟩) 1 1) 1 [.int .u8 0] rfl HOWN.out _ m (b.map (Value.int .u8)) rfl HSRC.out m (.inr (by omega)) (Nat.le_refl _) (by unfold maxLen; omega) HAL.out.size ?_; intro v1 wa hO hg hat; obtain ⟨a1, c1, rfl, _, _⟩ := dorow_form hO; have hseal := seal_any _ (0 :: b) wa (jown_rd HM.out hO).rd; rw [hss] at hseal; simp only at hseal; have HBA := hideD (HAL.out.grown hg HAL.out.size (fun k hk => by have : w.heap.size = k := Option.some.inj hk; omega)); clear hO hg hat)
    | (go_at_call 64; refine hseal.mono ?_; rintro e w3 ⟨u, rfl, ho3, hb3⟩; clear hseal; have HO3 := hideD ho3; have HB3 := hideD hb3; clear ho3 hb3)
    | fail)
  go_ret2
  exact ⟨_, rfl, jown_low HO3.out HBA.out.size, HBA.out.trans (HB3.out.mono HBA.out.size)⟩

abbrev RdBs (w : World) (L : List (List Int)) (v : Value) : Prop := RdK (fun _ => True) w 1 (rBy (fun _ => True) w) L v
theorem RdBs.on {w w' : World} {L : List (List Int)} {v : Value} (h : RdBs w L v) (hb : Below w.heap.size w w') : RdBs w' L v := RdK.stay kp_By h (fun b _ hlt => ⟨trivial, hb.block b hlt⟩)
theorem RdBs.at {w : World} {L : List (List Int)} {a : Option Addr} {k c : Nat} (h : RdBs w L (.slice a k c)) {i : Nat} (hi : i < L.length) : ∃ b off ra rc, a = some ⟨b, off, none⟩ ∧ b < w.heap.size ∧ w.cell? ⟨b, off + i, none⟩ = some (.slice ra (L[i]).length rc) ∧ Rd w (.slice ra (L[i]).length rc) L[i] := by
  obtain ⟨a', cap, e, _, _, hcell⟩ := h
  simp only [Value.slice.injEq] at e
  obtain ⟨rfl, _, rfl⟩ := e
  obtain ⟨b, off, cs, h1, _, h2, _, ⟨ra, rc, rfl, _, h4⟩, h5⟩ := hcell i hi
  have := h5 0 _ rfl
  rw [Nat.mul_one, Nat.add_zero] at this
  exact ⟨b, off, ra, rc, h1, h2, this, h4⟩

end Go.Proofs.Ytpblcahcpobicaa

/- The laws of journals: same. -/
namespace Go.Proofs.Ytpblcahcpobicaa
open Go.RowKit Go.Lib Go.Maps
set_option linter.unusedSimpArgs false
set_option linter.unusedVariables false
attribute [local go_sem ↓] Go.wp_at_zero Go.wp_at_succ

set_option maxRecDepth 100000 in
set_option maxHeartbeats 4000000 in
theorem jsame_any {w : World} {K : List (List Int)} {v1 v2 : Value} (h1 : RdBs w K v1) (h2 : RdBs w K v2) :
    Calls Try.prog 22 #[v1, v2] w fun e w' => e = .returned (.bool true) ∧ ∃ k, w' = w.drewN k := by
  obtain ⟨a1, c1, rfl, hl1, hm1⟩ := id h1.form
  obtain ⟨a2, c2, rfl, hl2, hm2⟩ := id h2.form
  have H1 := hideD h1
  have H2 := hideD h2
  clear h1 h2
  unfold maxLen at hm1 hm2
  obtain ⟨n, hn⟩ : ∃ n, K.length = n := ⟨_, rfl⟩
  rw [hn] at hl1 hl2 H1 H2 ⊢
  have HN := hideD hn
  clear hn
  go_enter Try.func22, Try.ntmps22
  go_wp2
  go_loopw [13] (fun ix wr => ∃ (j : Nat) (m : Nat), j ≤ n ∧ ix = .int .i64 (j : Int) ∧ wr = w.drewN m) (fun ix _ => n - (RowKit.intOf ix).toNat)
  case atStart => exact ⟨0, 0, Nat.zero_le _, rfl, rfl⟩
  case round =>
    obtain ⟨j, m, hj, rfl, rfl⟩ := hrel
    by_cases hlt : j < n
    · have hjl : j < K.length := by rw [HN.out]; exact hlt
      obtain ⟨g1, p1, ra1, rc1, e1, hg1, d1, r1⟩ := RdBs.at H1.out hjl
      obtain ⟨g2, p2, ra2, rc2, e2, hg2, d2, r2⟩ := RdBs.at H2.out hjl
      subst e1
      subst e2
      obtain ⟨sb, hsb⟩ : ∃ s, K[j] = s := ⟨_, rfl⟩
      rw [hsb] at d1 d2 r1 r2
      clear hsb
      have d1' : ∀ m, (w.drewN m).cell? ⟨g1, p1 + j, none⟩ = some (.slice ra1 sb.length rc1) := fun _ => d1
      have d2' : ∀ m, (w.drewN m).cell? ⟨g2, p2 + j, none⟩ = some (.slice ra2 sb.length rc2) := fun _ => d2
      have hc1 : ∀ m, (convert 41 9 (.slice ra1 sb.length rc1)).run Try.prog (w.drewN m) = .ok (.string (strOfNums sb)) (w.drewN m) := fun m => (show Rd (w.drewN m) _ _ from rd_on r1 ⟨rfl, rfl, rfl, Nat.le_refl _, fun _ _ => rfl⟩).convert Try.underlying41 Try.underlying5 Try.underlying9
      have hc2 : ∀ m, (convert 41 9 (.slice ra2 sb.length rc2)).run Try.prog (w.drewN m) = .ok (.string (strOfNums sb)) (w.drewN m) := fun m => (show Rd (w.drewN m) _ _ from rd_on r2 ⟨rfl, rfl, rfl, Nat.le_refl _, fun _ _ => rfl⟩).convert Try.underlying41 Try.underlying5 Try.underlying9
      generalize hsg : strOfNums sb = st at *
      generalize sb.length = bl at *
      clear r1 r2 hg1 hg2
      have k1 : (j : Int) < (n : Int) := by omega
      have k2 : (0 : Int) ≤ (j : Int) := by omega
      go_wp2
      go_quiet (fail)
      go_wp2
      go_roundw
      case rel => exact ⟨j + 1, _, hlt, by go_num, by rfl⟩
      case measure => simp [RowKit.intOf]; omega
    · have k1 : ¬ (j : Int) < (n : Int) := by omega
      go_wp2
      go_ret
      exact ⟨rfl, _, rfl⟩
end Go.Proofs.Ytpblcahcpobicaa

/- The document's journal: read. -/
namespace Go.Proofs.Ytpblcahcpobicaa
open Go.RowKit Go.Lib Go.Maps
set_option linter.unusedSimpArgs false
set_option linter.unusedVariables false
set_option maxRecDepth 100000
attribute [local go_sem ↓] Go.wp_at_zero Go.wp_at_succ

/-- A segment's payloads, and how it ends: 0 well, 1 torn, 2 wrong. -/
def rdQ : Nat → List Int → List (List Int) × Nat
  | 0, _ => ([], 0)
  | f + 1, r => if r.length = 0 then ([], 0) else if (openS r).2.2 = 5 then ([], 1) else if (openS r).2.2 ≠ 0 then ([], 2)
    else ((openS r).1 :: (rdQ f (r.drop (openS r).2.1.toNat)).1, (rdQ f (r.drop (openS r).2.1.toNat)).2)
def rdB (b : List Int) : List (List Int) × Nat := rdQ (b.length + 1) b
theorem rdQ_end {f : Nat} {r : List Int} (h : r.length = 0) : rdQ f r = ([], 0) := by
  cases f with
  | zero => rfl
  | succ f => unfold rdQ; rw [if_pos h]
theorem rdQ_torn {f : Nat} {r : List Int} (h : r.length < f) (h0 : r.length ≠ 0) (h5 : (openS r).2.2 = 5) : rdQ f r = ([], 1) := by
  cases f with
  | zero => omega
  | succ f => unfold rdQ; rw [if_neg h0, if_pos h5]
theorem rdQ_bad {f : Nat} {r : List Int} (h : r.length < f) (h0 : r.length ≠ 0) (h5 : (openS r).2.2 ≠ 5) (he : (openS r).2.2 ≠ 0) : rdQ f r = ([], 2) := by
  cases f with
  | zero => omega
  | succ f => unfold rdQ; rw [if_neg h0, if_neg h5, if_pos he]
theorem rdQ_go {f : Nat} {r : List Int} (h : r.length < f) (h0 : r.length ≠ 0) (he : (openS r).2.2 = 0) :
    ∃ f', (r.drop (openS r).2.1.toNat).length < f' ∧ rdQ f r = ((openS r).1 :: (rdQ f' (r.drop (openS r).2.1.toNat)).1, (rdQ f' (r.drop (openS r).2.1.toNat)).2) := by
  cases f with
  | zero => omega
  | succ f =>
    have hsz := openS_size he
    refine ⟨f, by rw [List.length_drop]; omega, ?_⟩
    conv => lhs; unfold rdQ
    rw [if_neg h0, if_neg (by omega), if_neg (by omega)]
def lenQ (v : Value) : Nat := match v with | .slice _ n _ => n | _ => 0
theorem rby_own {w : World} {lo : Nat} {u : Value} {p : List Int} (h : Own w lo 5 u p) : ∃ a c, u = .slice a p.length c ∧ rBy (fun b => lo ≤ b) w p [u] := by
  obtain ⟨a, c, rfl, _, _⟩ := slice_form h
  refine ⟨a, c, rfl, a, c, rfl, fun y hy => ?_, h.rd⟩
  subst hy
  rcases h.2 with ⟨e, _⟩ | ⟨g, cap, cur, e, hg, hh, _⟩
  · cases e
  · simp only [Value.slice.injEq, Option.some.injEq] at e
    rw [e.1]
    exact ⟨hg, (Array.getElem?_eq_some_iff.1 hh).1⟩
def RqOut (w w' : World) (b : List Int) (e : Ending) : Prop := ∃ v, e = .returned (.tuple #[v, .bool (decide ((rdB b).2 = 1)), .bool (decide ((rdB b).2 ≠ 2))]) ∧ ((rdB b).2 ≠ 2 → OwnK w' w.heap.size 41 1 rBy v (rdB b).1) ∧ ((rdB b).2 = 2 → v = .slice none 0 0) ∧ Below w.heap.size w w'
theorem rq_out {w w' : World} {b : List Int} {v : Value} {K : List (List Int)} {st : Nat} (h : rdB b = (K, st)) (ho : st ≠ 2 → OwnK w' w.heap.size 41 1 rBy v K) (h2 : st = 2 → v = .slice none 0 0) (hb : Below w.heap.size w w') {t k : Bool} (ht : t = decide (st = 1)) (hk : k = decide (st ≠ 2)) :
    RqOut w w' b (.returned (.tuple #[v, .bool t, .bool k])) := by
  subst ht hk
  unfold RqOut
  rw [h]
  exact ⟨v, rfl, ho, h2, hb⟩
set_option maxHeartbeats 4000000 in
theorem jqread_any {w : World} {v : Value} {b : List Int} (hr : Rd w v b) (hy : ∀ x ∈ b, 0 ≤ x ∧ x ≤ 255) (hl : b.length ≤ 1000000) :
    Calls Try.prog 75 #[v] w fun e w' => RqOut w w' b e := by
  obtain ⟨R, hR⟩ : ∃ R, rdB b = R := ⟨_, rfl⟩
  have HR := hideD hR
  have H0 := hideD (show ∃ f, b.length < f ∧ rdQ f b = R from ⟨b.length + 1, by omega, hR⟩)
  have HRD := hideD hr
  have HY := hideD hy
  have HL := hideD hl
  obtain ⟨ib, hi, hi0, hi1, hi2⟩ := inf_getJ inf_bytes
  clear hr hy hR hl
  go_enter Try.func75, Try.ntmps75
  go_wp2
  go_loopw [0, 5] (fun bv ov wr => ∃ (r : List Int) (acc : List (List Int)) (f : Nat), Hid (r.length < f ∧ (acc ++ (rdQ f r).1, (rdQ f r).2) = R ∧ acc.length + r.length ≤ b.length ∧ (∀ x ∈ r, 0 ≤ x ∧ x ≤ 255) ∧ Rd w bv r ∧ OwnK wr w.heap.size 41 1 rBy ov acc ∧ Below w.heap.size w wr)) (fun bv _ _ => lenQ bv)
  case atStart =>
    obtain ⟨f, h1, h2⟩ := H0.out
    exact ⟨b, [], f, hideD ⟨h1, by rw [← h2]; rfl, by simp, HY.out, HRD.out, ownK_nil _ _ _ _ _, Below.refl _ _⟩⟩
  case round =>
    obtain ⟨r, acc, f, HI⟩ := hrel
    obtain ⟨hf, hq, hal, hyr, hr0, hO, hB⟩ := HI.out
    have hrr := rd_on hr0 hB
    clear HI H0
    obtain ⟨oa, oc, rfl, _, _⟩ := id hO.form
    obtain ⟨ra, rc, rfl, hrl, hrm, _⟩ := id hrr
    obtain ⟨n, hn⟩ : ∃ n, r.length = n := ⟨_, rfl⟩
    obtain ⟨al, hal'⟩ : ∃ n, acc.length = n := ⟨_, rfl⟩
    by_cases h0 : n = 0
    · rw [rdQ_end (by omega)] at hq
      simp only [List.append_nil] at hq
      have HOK := hideD (rq_out (w := w) (HR.out.trans hq.symm) (fun _ => hO) (fun h => by cases h) hB (t := false) (k := true) rfl rfl)
      rw [hal'] at HOK
      rw [hn, hal']
      subst h0
      clear hq hO hB hrr hr0 hyr hf hal hn hal'
      go_wp2
      (try simp only [Exit.inBlock, Exit.then])
      refine bodyPost_ret (results_tmp3 rfl _ _ _) rfl ?_
      exact HOK.out
    · have i1 : (0 : Int) < (n : Int) := by omega
      have hd0 : r.length ≠ 0 := by omega
      obtain ⟨g, off, cap', e, _, _, _⟩ := hrr.lies (by omega)
      simp only [Value.slice.injEq] at e
      obtain ⟨rfl, _, rfl⟩ := e
      have hop := refOpen_any _ r wr hrr hyr
      have hos := fun h => openS_size (r := r) h
      have hgo := fun h => rdQ_go hf hd0 h
      have hto := fun h => rdQ_torn hf hd0 h
      have hba := fun h5 h => rdQ_bad hf hd0 h5 h
      obtain ⟨o, hox⟩ : ∃ k, openS r = k := ⟨_, rfl⟩
      rw [hox] at hop hos hgo hto hba
      obtain ⟨p, sz, er⟩ := o
      simp only at hop hos hgo hto hba
      clear hox
      by_cases e5 : er = 5
      · rw [hto e5] at hq
        simp only [List.append_nil] at hq
        have hfin := hideD (show ∀ w', Below wr.heap.size wr w' → RqOut w w' b (.returned (.tuple #[.slice oa acc.length oc, .bool true, .bool true])) from fun w' hb => rq_out (HR.out.trans hq.symm) (fun _ => hO.on kp_By hb) (fun h => by cases h) (hB.trans (hb.mono hB.size)) rfl rfl)
        subst e5
        rw [hn] at hop ⊢
        rw [hal'] at hfin ⊢
        clear hq hO hB hrr hr0 hyr hf hal hgo hto hba hos hd0 hrl hn hal'
        go_wp2_with (first
          | (go_at_call 84; refine hop.mono ?_; rintro e w3 ⟨u, rfl, ho3, hb3⟩; have HOK := hideD (hfin.out _ hb3); clear hop hfin ho3 hb3)
          | fail)
        (try simp only [Exit.inBlock, Exit.then])
        refine bodyPost_ret (results_tmp3 rfl _ _ _) rfl ?_
        exact HOK.out
      by_cases e0 : er = 0
      · subst e0
        obtain ⟨f', g1, g2⟩ := hgo rfl
        rw [g2] at hq
        obtain ⟨s1, s2, s3⟩ := hos rfl
        obtain ⟨z, hz⟩ : ∃ z : Nat, sz = (z : Int) := ⟨p.length + 6, by omega⟩
        subst hz
        have hzt : ((z : Int)).toNat = z := by omega
        rw [hzt] at g1 hq
        have hzn : z ≤ n := by omega
        have hz0 : 0 < z := by omega
        obtain ⟨sv, hsl1, hsr⟩ := cut_lo hn (by rw [hn] at hrr; exact hrr) hzn (z : Int) rfl
        have HSR := hideD (hsr w (by rw [← hn]; exact hr0))
        have HK := hideD (And.intro g1 hq)
        have HO := hideD hO
        have HB := hideD hB
        have HYR := hideD hyr
        have HN := hideD (And.intro hn (And.intro hal' (And.intro hal (And.intro hzn hz0))))
        have hws := hB.size
        have HWS := hideD hws
        have hal2 : al ≤ 1000000 := by have := HL.out; omega
        have hOlt := hideD (fun x hx => (ownK_blkJ hO x hx).2)
        rw [hn] at hop ⊢
        rw [hal']
        clear hq hO hB hrr hr0 hyr hf hal hgo hto hba hos hd0 hrl g1 g2 s1 s2 s3 e5 hsr hn hal' hzt hzn
        go_upto_region 8 with (first
          | (go_at_call 84; refine hop.mono ?_; rintro e w3 ⟨u, rfl, ho3, hb3⟩; clear hop)
          | fail)
        obtain ⟨pa, pc, rfl, hby⟩ := rby_own ho3
        have hO3 := (HO.out.on kp_By hb3).on kp_By (Below.refl w3.heap.size w3).drew
        have hby3 : rBy (fun b => wr.heap.size ≤ b) w3.drew p [.slice pa p.length pc] := kp_By hby (fun b hb _ => ⟨hb, rfl⟩)
        have hs3 : w.heap.size ≤ w3.heap.size := Nat.le_trans HWS.out hb3.size
        have HO3 := hideD hO3
        have HB3 := hideD hb3
        have HP3 := hideD hby3
        have h63 : acc.length + 1 ≤ 1000001 := by have := HN.out.2.1; omega
        clear ho3 hO3 hb3 hby hby3
        go_region_law (first
          | (rw [← HN.out.2.1]; refine step_push w3.drew (by rfl) (.tmp 23) (.tmp 25) 30 (by rfl) w.heap.size 41 ib (.slice none 0 0) 1 24 Try.underlying30 hi hi0 hi1 hi2 rfl kp_By (.slice oa acc.length oc) acc p [.slice pa p.length pc] wr.heap.size (by rfl) (by rfl) rfl (by simp [Value.oneCell']) HO3.out HP3.out HWS.out hOlt.out (by omega) (by unfold maxLen; omega) hs3 ?_; intro v1 wb hO1 hg1 hb1; obtain ⟨a1, c1, rfl, _, _⟩ := hO1.form; rw [List.length_append, List.length_singleton] at hO1; have HO1 := hideD hO1; have HB1 := hideD hb1; clear hO1 hg1 hb1)
          | fail)
        all_goals (
          have HBW := hideD ((HB.out.trans (HB3.out.mono HWS.out)).trans ((Below.refl w.heap.size w3).drew.trans HB1.out))
          (try simp only [Exit.inBlock, Exit.then])
          refine ⟨?_, ?_⟩
          · (repeat apply Exists.intro)
            refine ⟨?_, rfl⟩
            obtain ⟨q1, q2⟩ := HK.out
            obtain ⟨q3, q4, q5, q6, q7⟩ := HN.out
            refine ⟨r.drop z, acc ++ [p], f', hideD ⟨q1, by rw [← q2]; simp, ?_, fun x hx => HYR.out x (List.mem_of_mem_drop hx), HSR.out, HO1.out, HBW.out⟩⟩
            rw [List.length_append, List.length_singleton, List.length_drop]
            omega
          · obtain ⟨q3, q4, q5, q6, q7⟩ := HN.out
            obtain ⟨sa, sc, e, _, _, _⟩ := HSR.out
            show lenQ sv < lenQ (.slice (some ⟨g, off, none⟩) n rc)
            rw [e]
            simp only [lenQ, List.length_drop]
            omega)
      · rw [hba e5 e0] at hq
        simp only [List.append_nil] at hq
        have hfin := hideD (show ∀ w', Below wr.heap.size wr w' → RqOut w w' b (.returned (.tuple #[.slice none 0 0, .bool false, .bool false])) from fun w' hb => rq_out (HR.out.trans hq.symm) (fun h => absurd rfl h) (fun _ => rfl) (hB.trans (hb.mono hB.size)) rfl rfl)
        rw [hn] at hop ⊢
        rw [hal']
        clear hq hO hB hrr hr0 hyr hf hal hgo hto hba hos hd0 hrl hn hal'
        go_wp2_with (first
          | (go_at_call 84; refine hop.mono ?_; rintro e w3 ⟨u, rfl, ho3, hb3⟩; have HOK := hideD (hfin.out _ hb3); clear hop hfin ho3 hb3)
          | fail)
        (try simp only [Exit.inBlock, Exit.then])
        refine bodyPost_ret (results_tmp3 rfl _ _ _) rfl ?_
        exact HOK.out
end Go.Proofs.Ytpblcahcpobicaa

/- The document's journal as math: payloads and parts. -/
namespace Go.Proofs.Ytpblcahcpobicaa
open Go.RowKit Go.Lib Go.Maps
set_option linter.unusedSimpArgs false
set_option linter.unusedVariables false

/-- A part, out of payloads, from number i on. -/
def ptQ : Nat → SgM → List (List Int) → SgM
  | _, s, [] => s
  | i, s, p :: r => match jTk s p (decide (i = 0)) with
    | none => { s with wrong := true }
    | some s' => ptQ (i + 1) s' r
theorem jTk_keep {s s' : SgM} {p : List Int} {z : Bool} (h : jTk s p z = some s') : s'.wrong = s.wrong ∧ s'.torn = s.torn := by
  unfold jTk at h
  split at h
  · obtain rfl := Option.some.inj h
    exact ⟨rfl, rfl⟩
  · split at h
    · obtain rfl := Option.some.inj h
      exact ⟨rfl, rfl⟩
    · split at h
      · obtain rfl := Option.some.inj h
        exact ⟨rfl, rfl⟩
      · cases h
/-- The program's reading is the document's. -/
theorem prs_rd : ∀ (f : Nat) (s : SgM) (a i : Nat) (r : List Int), r.length < f → (a = 0 ↔ i = 0) → s.wrong = false → s.torn = false →
    ((rdQ f r).2 = 2 ∨ (ptQ i s (rdQ f r).1).wrong = true → (jPrs f s a r).wrong = true) ∧
    (¬ (rdQ f r).2 = 2 → (ptQ i s (rdQ f r).1).wrong = false → jPrs f s a r = { ptQ i s (rdQ f r).1 with torn := decide ((rdQ f r).2 = 1) })
  | 0, _, _, _, _, h, _, _, _ => by omega
  | f + 1, s, a, i, r, h, hai, hw, ht => by
    unfold rdQ jPrs
    by_cases h0 : r.length = 0
    · rw [if_pos h0, if_pos h0]
      refine ⟨fun e => ?_, fun _ _ => ?_⟩
      · rcases e with e | e
        · cases e
        · exact e
      · cases s
        simp only at ht
        subst ht
        rfl
    · rw [if_neg h0, if_neg h0]
      by_cases h5 : (openS r).2.2 = 5
      · rw [if_pos h5, if_pos h5]
        refine ⟨fun e => ?_, fun _ _ => rfl⟩
        rcases e with e | e
        · cases e
        · exact e
      · rw [if_neg h5, if_neg h5]
        by_cases he : (openS r).2.2 = 0
        · rw [if_neg (by simpa using he), if_neg (by simpa using he)]
          have hsz := openS_size he
          have hd : (r.drop (openS r).2.1.toNat).length < f := by rw [List.length_drop]; omega
          have hz : decide (a = 0) = decide (i = 0) := by
            by_cases ha : a = 0
            · rw [decide_eq_true ha, decide_eq_true (hai.1 ha)]
            · rw [decide_eq_false ha, decide_eq_false (fun e => ha (hai.2 e))]
          simp only
          rw [hz]
          unfold ptQ
          cases hk : jTk s (openS r).1 (decide (i = 0)) with
          | none => exact ⟨fun _ => rfl, fun _ h => by simp at h⟩
          | some s' =>
            obtain ⟨k1, k2⟩ := jTk_keep hk
            exact prs_rd f s' (a + (openS r).2.1.toNat) (i + 1) _ hd ⟨fun e => by omega, fun e => by omega⟩ (by rw [k1, hw]) (by rw [k2, ht])
        · rw [if_pos he, if_pos he]
          exact ⟨fun _ => rfl, fun h => absurd rfl h⟩
/-- Is it wrong? -/
theorem part_wrong (b : List Int) : (jPrsB b).wrong = (decide ((rdB b).2 = 2) || (ptQ 0 jSg0 (rdB b).1).wrong) := by
  obtain ⟨h1, h2⟩ := prs_rd (b.length + 1) jSg0 0 0 b (by omega) Iff.rfl rfl rfl
  by_cases h : (rdB b).2 = 2 ∨ (ptQ 0 jSg0 (rdB b).1).wrong = true
  · rw [show (jPrsB b).wrong = true from h1 h]
    rcases h with h | h
    · rw [decide_eq_true h]
      rfl
    · rw [h]
      simp
  · have ha : ¬ (rdB b).2 = 2 := fun e => h (.inl e)
    have hb : (ptQ 0 jSg0 (rdB b).1).wrong = false := by
      cases e : (ptQ 0 jSg0 (rdB b).1).wrong
      · rfl
      · exact absurd (.inr e) h
    have e := h2 ha hb
    have e2 : jPrsB b = { ptQ 0 jSg0 (rdB b).1 with torn := decide ((rdB b).2 = 1) } := e
    rw [e2, hb, decide_eq_false ha]
    rfl
theorem part_ok {b : List Int} (h : (jPrsB b).wrong = false) : (rdB b).2 ≠ 2 ∧ (ptQ 0 jSg0 (rdB b).1).wrong = false ∧ jPrsB b = { ptQ 0 jSg0 (rdB b).1 with torn := decide ((rdB b).2 = 1) } := by
  rw [part_wrong] at h
  simp only [Bool.or_eq_false_iff, decide_eq_false_iff_not] at h
  exact ⟨h.1, h.2, (prs_rd (b.length + 1) jSg0 0 0 b (by omega) Iff.rfl rfl rfl).2 h.1 h.2⟩
theorem rdQ_pos : ∀ (f : Nat) (r : List Int), ∀ p ∈ (rdQ f r).1, 1 ≤ p.length ∧ p.length ≤ r.length
  | 0, _, p, h => by simp [rdQ] at h
  | f + 1, r, p, h => by
    unfold rdQ at h
    split at h
    · simp at h
    · split at h
      · simp at h
      · split at h
        · simp at h
        · rename_i h0 h5 he
          have hsz := openS_size (r := r) (by simpa using he)
          rcases List.mem_cons.1 h with rfl | h
          · omega
          · have := rdQ_pos f _ p h
            rw [List.length_drop] at this
            omega
theorem rdQ_len : ∀ (f : Nat) (r : List Int), (rdQ f r).1.length ≤ r.length
  | 0, _ => by simp [rdQ]
  | f + 1, r => by
    unfold rdQ
    split
    · simp
    · split
      · simp
      · split
        · simp
        · rename_i h0 h5 he
          have hsz := openS_size (r := r) (by simpa using he)
          have ih := rdQ_len f (r.drop (openS r).2.1.toNat)
          rw [List.length_drop] at ih
          simp only [List.length_cons]
          omega
theorem ptQ_at {i : Nat} {s : SgM} {ps : List (List Int)} (h : i < ps.length) : ptQ i s (ps.drop i) = match jTk s ps[i] (decide (i = 0)) with | none => { s with wrong := true } | some s' => ptQ (i + 1) s' (ps.drop (i + 1)) := by
  rw [List.drop_eq_getElem_cons h]
  rfl
end Go.Proofs.Ytpblcahcpobicaa

/- The journal: put. -/
namespace Go.Proofs.Ytpblcahcpobicaa
open Go.RowKit Go.Lib Go.Maps
set_option linter.unusedSimpArgs false
set_option linter.unusedVariables false
set_option maxRecDepth 100000
attribute [local go_sem ↓] Go.wp_at_zero Go.wp_at_succ

/-- Bytes appended to a segment, and the sync: the disk, the error. -/
def putJ (d : Dk) (n : Int) (bs : List Int) : Dk × Int := if (appD d n bs).2 = 0 then opM (appD d n bs).1 n (synF (appD d n bs).1 n) else appD d n bs
theorem Ok.put {d : Dk} {k u : Nat} (h : Ok d k u) {n : Int} (hn : (Lit.int .i64 n).wf = true) (bs : List Int) : Ok (putJ d n bs).1 (k + 1) (u + bs.length) := by
  unfold putJ
  split
  · exact (h.app hn bs).syn hn
  · exact h.app hn bs
theorem jput_full {w : World} {J X : Nat} {j : Jm} {n : Int} {v : Value} (hB : Bn w J (jC X j)) (hf : n < 0 ∨ 4000 ≤ IntKind.i64.wrap (n - j.first)) :
    Calls Try.prog 41 #[.pointer (some ⟨J, 0, none⟩), .int .i64 n, v] w fun e w' => e = .returned (.int .i64 7) ∧ w = w' := by
  obtain ⟨c1, _⟩ := hB 1 _ rfl
  obtain ⟨q, hq⟩ : ∃ q, IntKind.i64.wrap (n - j.first) = q := ⟨_, rfl⟩
  have hq2 : wrap64 (n - j.first) = q := by rw [wrap64_iJ]; exact hq
  rw [hq] at hf
  clear hq hB
  by_cases h1 : n < 0
  · go_enter Try.func41, Try.ntmps41
    go_wp2
    go_ret
    exact ⟨rfl, rfl⟩
  have h2 : q ≥ 4000 := by omega
  go_enter Try.func41, Try.ntmps41
  go_wp2
  go_ret
  exact ⟨rfl, rfl⟩
theorem jput_end {w w1 w2 : World} {J X : Nat} {F : Nat → Prop} {d2 : Dk} {j : Jm} {e : Int} (k1 : Kf F w w1) (k2 : Kf (nF F w) w1 w2) (p : PD w2 X (nF (nF F w) w1) d2) (hB : Bn w2 J (jC X j)) (hJ : ¬ F J) (hJl : J < w.heap.size) (b : Bool) :
    (Ending.returned (.int .i64 e)) = .returned (.int .i64 e) ∧ Bn (w2.setCell ⟨J, 6, none⟩ (.bool b)) J (jC X { j with over := b }) ∧ PD (w2.setCell ⟨J, 6, none⟩ (.bool b)) X (nF F w) d2 ∧ Kf (fun i => F i ∨ i = J) w (w2.setCell ⟨J, 6, none⟩ (.bool b)) := by
  have hs := k1.size
  refine ⟨rfl, hB.set (i := 6) (by simp [jC]) _, ?_, ?_⟩
  · have p2 : PD w2 X (nF F w) d2 := p.mono (fun i hi h => by
      rcases h with h | h
      · exact h
      · exact .inr (by omega))
    refine p2.keep (fun i hF hi => Below.heap_setCell _ _ _ _ (fun e => ?_))
    have e : i = J := e
    subst e
    rcases hF with h | h
    · exact hJ h
    · omega
  · have h : Kf (fun i => F i ∨ i = J) w w2 := (k1.transN k2).mono (fun i hi => Or.inl hi)
    exact h.set (X := J) (Or.inr rfl) _
set_option maxHeartbeats 4000000 in
theorem jput_any {w : World} {J X : Nat} {F : Nat → Prop} {d : Dk} {j : Jm} {n : Int} {v : Value} {bs : List Int} {k u : Nat} (hB : Bn w J (jC X j)) (hJ : ¬ F J) (hp : PD w X F d) (ok : Ok d k u) (hk : k + 1 ≤ 100000) (hu : u + bs.length ≤ 1000000) (hn : (Lit.int .i64 n).wf = true)
    (hv : ∀ w1, Kf F w w1 → Rd w1 v bs) (hf : ¬ (n < 0 ∨ 4000 ≤ IntKind.i64.wrap (n - j.first))) :
    Calls Try.prog 41 #[.pointer (some ⟨J, 0, none⟩), .int .i64 n, v] w fun e w' => e = .returned (.int .i64 (putJ d n bs).2) ∧ Bn w' J (jC X { j with over := decide ((putJ d n bs).2 = 8) }) ∧ PD w' X (nF F w) (putJ d n bs).1 ∧ Kf (fun i => F i ∨ i = J) w w' := by
  obtain ⟨c0, _⟩ := hB 0 _ rfl
  obtain ⟨c1, _⟩ := hB 1 _ rfl
  obtain ⟨c6, f6⟩ := hB 6 _ rfl
  have hJl := hB.lt
  obtain ⟨q, hq⟩ : ∃ q, IntKind.i64.wrap (n - j.first) = q := ⟨_, rfl⟩
  have hq2 : wrap64 (n - j.first) = q := by rw [wrap64_iJ]; exact hq
  rw [hq] at hf
  have h1 : ¬ n < 0 := fun h => hf (.inl h)
  have h2 : ¬ q ≥ 4000 := fun h => hf (.inr h)
  obtain ⟨va, vc, rfl, _⟩ := id (hv w (Kf.refl F w))
  have hap := dapp_any (n := n) (v := .slice va bs.length vc) (bs := bs) hp ok.fuse.2 ok.room hn (by have := ok.len; omega) (by have := ok.us; omega) (by omega) hv
  have ok1 := ok.app hn bs
  unfold putJ
  obtain ⟨r, hr⟩ : ∃ r, appD d n bs = r := ⟨_, rfl⟩
  rw [hr] at hap ok1 ⊢
  obtain ⟨d1, e1⟩ := r
  simp only at hap ok1 ⊢
  obtain ⟨bl, hbl⟩ : ∃ b, bs.length = b := ⟨_, rfl⟩
  rw [hbl] at hap ⊢
  have HB := hideD hB
  have HBL := hideD hbl
  clear hq hf hr hp ok hv hB hbl
  by_cases he : e1 = 0
  · subst he
    rw [if_pos rfl]
    obtain ⟨r2, hr2⟩ : ∃ r, opM d1 n (synF d1 n) = r := ⟨_, rfl⟩
    rw [hr2]
    obtain ⟨d2, e2⟩ := r2
    simp only
    have hsy := fun w1 F1 (hp1 : PD w1 X F1 d1) => dsync_any (n := n) hp1 ok1.fuse.2 hn (by have := ok1.len; omega)
    rw [hr2] at hsy
    have HSY := hideD hsy
    clear hr2 hsy
    have hst := hideD (show ∀ w1 w2, Kf F w w1 → Kf (nF F w) w1 w2 → Bn w2 J (jC X j) from fun w1 w2 k1 k2 => (HB.out.blk (k1.block J hJl hJ)).blk (k2.block J (Nat.lt_of_lt_of_le hJl k1.size) (fun e => e.elim hJ (fun e => by omega))))
    by_cases h8 : e2 = 8
    · subst h8
      go_enter Try.func41, Try.ntmps41
      go_wp2_with (first
        | (go_at_call 26; refine hap.mono ?_; rintro e w2 ⟨rfl, p2, k2⟩; clear hap; have hB2 := HB.out.blk (k2.block J hJl hJ); obtain ⟨c0, _⟩ := hB2 0 _ rfl; obtain ⟨c6, f6⟩ := hB2 6 _ rfl; have hs := HSY.out _ _ p2; have HK2 := hideD k2; clear p2 k2 hB2)
        | (go_at_call 65; refine hs.mono ?_; rintro e w3 ⟨rfl, p3, k3⟩; clear hs; have hB3 := hst.out _ _ HK2.out k3; obtain ⟨c6, f6⟩ := hB3 6 _ rfl; have HH := hideD (⟨p3, k3, hB3⟩ : _ ∧ _ ∧ _); clear p3 k3 hB3)
        | fail)
      go_ret
      obtain ⟨p3, k3, hB3⟩ := HH.out
      exact jput_end HK2.out k3 p3 hB3 hJ hJl true
    · have h8' : decide (e2 = 8) = false := decide_eq_false h8
      have h8b : (e2 == 8) = false := by simpa using h8
      rw [h8']
      go_enter Try.func41, Try.ntmps41
      go_wp2_with (first
        | (go_at_call 26; refine hap.mono ?_; rintro e w2 ⟨rfl, p2, k2⟩; clear hap; have hB2 := HB.out.blk (k2.block J hJl hJ); obtain ⟨c0, _⟩ := hB2 0 _ rfl; obtain ⟨c6, f6⟩ := hB2 6 _ rfl; have hs := HSY.out _ _ p2; have HK2 := hideD k2; clear p2 k2 hB2)
        | (go_at_call 65; refine hs.mono ?_; rintro e w3 ⟨rfl, p3, k3⟩; clear hs; have hB3 := hst.out _ _ HK2.out k3; obtain ⟨c6, f6⟩ := hB3 6 _ rfl; have HH := hideD (⟨p3, k3, hB3⟩ : _ ∧ _ ∧ _); clear p3 k3 hB3)
        | fail)
      go_ret
      obtain ⟨p3, k3, hB3⟩ := HH.out
      exact jput_end HK2.out k3 p3 hB3 hJ hJl false
  · rw [if_neg he]
    simp only
    have hend := hideD (show ∀ w1, Kf F w w1 → PD w1 X (nF F w) d1 → ∀ b, Bn (w1.setCell ⟨J, 6, none⟩ (.bool b)) J (jC X { j with over := b }) ∧ PD (w1.setCell ⟨J, 6, none⟩ (.bool b)) X (nF F w) d1 ∧ Kf (fun i => F i ∨ i = J) w (w1.setCell ⟨J, 6, none⟩ (.bool b)) from fun w1 k1 p b =>
      (jput_end (e := 0) k1 (Kf.refl _ w1) (p.mono (fun i _ h => Or.inl h)) (HB.out.blk (k1.block J hJl hJ)) hJ hJl b).2)
    by_cases h8 : e1 = 8
    · subst h8
      go_enter Try.func41, Try.ntmps41
      go_wp2_with (first
        | (go_at_call 26; refine hap.mono ?_; rintro e w2 ⟨rfl, p2, k2⟩; clear hap; have hB2 := HB.out.blk (k2.block J hJl hJ); obtain ⟨c6, f6⟩ := hB2 6 _ rfl; have HH := hideD (hend.out _ k2 p2); clear p2 k2 hB2)
        | fail)
      go_ret
      exact ⟨rfl, HH.out true⟩
    · have h8' : decide (e1 = 8) = false := decide_eq_false h8
      have h8b : (e1 == 8) = false := by simpa using h8
      rw [h8']
      go_enter Try.func41, Try.ntmps41
      go_wp2_with (first
        | (go_at_call 26; refine hap.mono ?_; rintro e w2 ⟨rfl, p2, k2⟩; clear hap; have hB2 := HB.out.blk (k2.block J hJl hJ); obtain ⟨c6, f6⟩ := hB2 6 _ rfl; have HH := hideD (hend.out _ k2 p2); clear p2 k2 hB2)
        | fail)
      go_ret
      exact ⟨rfl, HH.out false⟩

/-- A journal that has kept one more record, of so many bytes sealed. -/
def oneJ (j : Jm) (l : Int) : Jm := if plJ j = nxJ j then { j with segs := wrap64 (j.segs + 1), size := wrap64 l, torn := false, recs := wrap64 (j.recs + 1), over := false } else { j with size := wrap64 (j.size + l), recs := wrap64 (j.recs + 1), over := false }
/-- Append: the journal, the disk, the error. -/
def appJ (j : Jm) (d : Dk) (b : List Int) : Jm × Dk × Int :=
  if j.over = true then (j, d, 8) else if (sealJ b).2 ≠ 0 then (j, d, (sealJ b).2) else if plJ j < 0 ∨ 4000 ≤ IntKind.i64.wrap (plJ j - j.first) then (j, d, 7)
  else if (putJ d (plJ j) (sealJ b).1).2 ≠ 0 then ({ j with over := decide ((putJ d (plJ j) (sealJ b).1).2 = 8) }, (putJ d (plJ j) (sealJ b).1).1, (putJ d (plJ j) (sealJ b).1).2)
  else (oneJ j ((sealJ b).1.length : Int), (putJ d (plJ j) (sealJ b).1).1, 0)
def JaOut (w w' : World) (J X : Nat) (F : Nat → Prop) (r : Jm × Dk × Int) (e : Ending) : Prop := e = .returned (.int .i64 r.2.2) ∧ Bn w' J (jC X r.1) ∧ PD w' X (nF F w) r.2.1 ∧ Kf (fun i => F i ∨ i = J) w w'
theorem ja_same {w w' : World} {J X : Nat} {F : Nat → Prop} {d : Dk} {j : Jm} (hB : Bn w J (jC X j)) (hp : PD w X F d) (hb : Below w.heap.size w w') (e : Int) : JaOut w w' J X F (j, d, e) (.returned (.int .i64 e)) :=
  ⟨rfl, hB.on hb, (hp.on hb).mono (fun i _ h => .inl h), Kf.of hb (Nat.le_refl _)⟩
theorem pd_setJ {w : World} {X J i : Nat} {G : Nat → Prop} {d : Dk} (h : PD w X G d) (hJ : ¬ G J) (u : Value) : PD (w.setCell ⟨J, i, none⟩ u) X G d :=
  h.keep (fun k hG _ => Below.heap_setCell _ _ _ _ (fun e => hJ (by have e : k = J := e; rw [← e]; exact hG)))
theorem ja_fresh {w w4 w6 : World} {J X : Nat} {F : Nat → Prop} {d : Dk} {j : Jm} {l : Int} (hB : Bn w6 J (jC X { j with over := false })) (hp : PD w6 X (nF (cF F w) w4) d) (b4 : Below w.heap.size w w4) (k : Kf (fun i => cF F w i ∨ i = J) w4 w6) (hJ : ¬ F J) (hJl : J < w.heap.size) (hn : plJ j = nxJ j) :
    JaOut w (((((w6.setCell ⟨J, 2, none⟩ (.int .i64 (wrap64 (j.segs + 1)))).setCell ⟨J, 3, none⟩ (.int .i64 0)).setCell ⟨J, 4, none⟩ (.bool false)).setCell ⟨J, 3, none⟩ (.int .i64 (wrap64 l))).setCell ⟨J, 5, none⟩ (.int .i64 (wrap64 (j.recs + 1)))) J X F (oneJ j l, d, 0) (.returned (.int .i64 0)) := by
  have hs := b4.size
  have hG : ¬ nF (cF F w) w4 J := fun h => h.elim (fun h => hJ h.1) (fun h => by omega)
  unfold oneJ
  rw [if_pos hn]
  refine ⟨rfl, ((((hB.set (i := 2) (by simp [jC]) _).set (i := 3) (by simp [jC]) _).set (i := 4) (by simp [jC]) _).set (i := 3) (by simp [jC]) _).set (i := 5) (by simp [jC]) _, ?_, ?_⟩
  · exact (pd_setJ (pd_setJ (pd_setJ (pd_setJ (pd_setJ hp hG _) hG _) hG _) hG _) hG _).mono (fun i _ h => h.elim (fun h => .inl h.1) (fun h => .inr (by omega)))
  · have k2 : Kf (fun i => F i ∨ i = J) w w6 := (Kf.of b4 (Nat.le_refl _)).trans (k.mono (fun i h => h.elim (fun h => .inl h.1) .inr))
    exact ((((k2.set (X := J) (.inr rfl) _).set (X := J) (.inr rfl) _).set (X := J) (.inr rfl) _).set (X := J) (.inr rfl) _).set (X := J) (.inr rfl) _
theorem ja_there {w w4 w6 : World} {J X : Nat} {F : Nat → Prop} {d : Dk} {j : Jm} {l : Int} (hB : Bn w6 J (jC X { j with over := false })) (hp : PD w6 X (nF (cF F w) w4) d) (b4 : Below w.heap.size w w4) (k : Kf (fun i => cF F w i ∨ i = J) w4 w6) (hJ : ¬ F J) (hJl : J < w.heap.size) (hn : ¬ plJ j = nxJ j) :
    JaOut w ((w6.setCell ⟨J, 3, none⟩ (.int .i64 (wrap64 (j.size + l)))).setCell ⟨J, 5, none⟩ (.int .i64 (wrap64 (j.recs + 1)))) J X F (oneJ j l, d, 0) (.returned (.int .i64 0)) := by
  have hs := b4.size
  have hG : ¬ nF (cF F w) w4 J := fun h => h.elim (fun h => hJ h.1) (fun h => by omega)
  unfold oneJ
  rw [if_neg hn]
  refine ⟨rfl, (hB.set (i := 3) (by simp [jC]) _).set (i := 5) (by simp [jC]) _, ?_, ?_⟩
  · exact (pd_setJ (pd_setJ hp hG _) hG _).mono (fun i _ h => h.elim (fun h => .inl h.1) (fun h => .inr (by omega)))
  · have k2 : Kf (fun i => F i ∨ i = J) w w6 := (Kf.of b4 (Nat.le_refl _)).trans (k.mono (fun i h => h.elim (fun h => .inl h.1) .inr))
    exact (k2.set (X := J) (.inr rfl) _).set (X := J) (.inr rfl) _
theorem ja_put {w w4 w6 : World} {J X : Nat} {F : Nat → Prop} {d : Dk} {j : Jm} {e : Int} (hB : Bn w6 J (jC X j)) (hp : PD w6 X (nF (cF F w) w4) d) (b4 : Below w.heap.size w w4) (k : Kf (fun i => cF F w i ∨ i = J) w4 w6) : JaOut w w6 J X F (j, d, e) (.returned (.int .i64 e)) := by
  have hs := b4.size
  exact ⟨rfl, hB, hp.mono (fun i _ h => h.elim (fun h => .inl h.1) (fun h => .inr (by omega))), (Kf.of b4 (Nat.le_refl _)).trans (k.mono (fun i h => h.elim (fun h => .inl h.1) .inr))⟩
set_option maxHeartbeats 8000000 in
theorem japp_any {w : World} {J X : Nat} {F : Nat → Prop} {d : Dk} {j : Jm} {v : Value} {b : List Int} {k u : Nat} (hB : Bn w J (jC X j)) (hJ : ¬ F J) (hp : PD w X F d) (ok : Ok d k u) (hk : k + 1 ≤ 100000) (hu : u + 20000 ≤ 1000000) (hr : Rd w v b) (hpl : (Lit.int .i64 (plJ j)).wf = true) :
    Calls Try.prog 13 #[.pointer (some ⟨J, 0, none⟩), v] w fun e w' => JaOut w w' J X F (appJ j d b) e := by
  have hrd := jready_any hB
  obtain ⟨va, vc, rfl, _⟩ := id hr
  unfold appJ
  by_cases ho : j.over = true
  · rw [if_pos ho] at hrd ⊢
    have HS := hideD (ja_same hB hp (Below.refl _ _) 8)
    clear hB hp ok hr ho
    go_enter Try.func13, Try.ntmps13
    go_wp2_with (first
      | (go_at_call 38; refine hrd.mono ?_; rintro e w2 ⟨rfl, rfl⟩; clear hrd)
      | fail)
    go_ret
    exact HS.out
  rw [if_neg ho] at hrd ⊢
  have hse := jsealed_any hr
  obtain ⟨sj, hsj⟩ : ∃ s, sealJ b = s := ⟨_, rfl⟩
  have hsl : (sealJ b).1.length ≤ 20000 := by
    unfold sealJ
    split
    · simp
    · split
      · simp
      · rw [rcd_length]
        simp only [List.length_cons]
        omega
  rw [hsj] at hse hsl ⊢
  obtain ⟨sb, se⟩ := sj
  simp only at hse hsl ⊢
  by_cases h0 : se = 0
  case neg =>
    rw [if_pos h0]
    have HS := hideD (show ∀ w', Below w.heap.size w w' → JaOut w w' J X F (j, d, se) (.returned (.int .i64 se)) from fun w' hb => ja_same hB hp hb se)
    clear hB hp ok hr ho hsj hsl
    go_enter Try.func13, Try.ntmps13
    go_wp2_with (first
      | (go_at_call 38; refine hrd.mono ?_; rintro e w2 ⟨rfl, rfl⟩; clear hrd)
      | (go_at_call 39; refine hse.mono ?_; rintro e w3 ⟨uv, rfl, o3, b3⟩; clear hse; have HB3 := hideD b3; clear o3 b3)
      | fail)
    go_ret
    exact HS.out _ HB3.out
  subst h0
  rw [if_neg (by simp)]
  have hplc := fun w3 (b3 : Below w.heap.size w w3) => jplace_any (hB.on b3)
  obtain ⟨n, hn⟩ : ∃ n, plJ j = n := ⟨_, rfl⟩
  rw [hn] at hplc hpl ⊢
  by_cases hf : n < 0 ∨ 4000 ≤ IntKind.i64.wrap (n - j.first)
  · rw [if_pos hf]
    have hput := fun w4 (b4 : Below w.heap.size w w4) v4 => jput_full (v := v4) (hB.on b4) hf
    have HS := hideD (show ∀ w', Below w.heap.size w w' → JaOut w w' J X F (j, d, 7) (.returned (.int .i64 7)) from fun w' hb => ja_same hB hp hb 7)
    clear hB hp ok hr ho hsj hf hsl
    go_enter Try.func13, Try.ntmps13
    go_wp2_with (first
      | (go_at_call 38; refine hrd.mono ?_; rintro e w2 ⟨rfl, rfl⟩; clear hrd)
      | (go_at_call 39; refine hse.mono ?_; rintro e w3 ⟨uv, rfl, o3, b3⟩; clear hse; have hpc := hplc _ b3; have HB3 := hideD b3; clear o3 b3)
      | (go_at_call 40; refine hpc.mono ?_; rintro e w4 ⟨rfl, b4⟩; clear hpc; have hb5 := HB3.out.trans (b4.mono HB3.out.size); have hpt := fun v4 => hput _ hb5 v4; have HB5 := hideD hb5; clear b4 hb5)
      | (go_at_call 41; refine (hpt _).mono ?_; rintro e w5 ⟨rfl, rfl⟩; clear hpt)
      | fail)
    go_ret
    exact HS.out _ HB5.out
  rw [if_neg hf]
  have hput := fun w4 (b4 : Below w.heap.size w w4) u4 (o4 : Own w4 w.heap.size 5 u4 sb) => jput_any (F := cF F w) (v := u4) (hB.on b4) (fun h => hJ h.1) (hp.clip.on b4) ok hk (by omega) hpl (fun w1 k1 => (ownD_keep o4 (fun g hg => k1.block g (ownsRow_lt o4 g hg).2 (fun h => by have := ownsRow_lt o4 g hg; have := h.2; omega))).rd) hf
  have hJl := hB.lt
  obtain ⟨r, hrr⟩ : ∃ r, putJ d n sb = r := ⟨_, rfl⟩
  rw [hrr] at hput ⊢
  obtain ⟨d5, e5⟩ := r
  simp only at hput ⊢
  have HPUT := hideD hput
  by_cases h5 : e5 = 0
  case neg =>
    rw [if_pos h5]
    clear hB hp ok hr ho hsj hf hsl hrr hput
    go_enter Try.func13, Try.ntmps13
    go_wp2_with (first
      | (go_at_call 38; refine hrd.mono ?_; rintro e w2 ⟨rfl, rfl⟩; clear hrd)
      | (go_at_call 39; refine hse.mono ?_; rintro e w3 ⟨uv, rfl, o3, b3⟩; clear hse; have hpc := hplc _ b3; have HB3 := hideD b3; have HO3 := hideD o3; clear o3 b3)
      | (go_at_call 40; refine hpc.mono ?_; rintro e w4 ⟨rfl, b4⟩; clear hpc; have hpt := HPUT.out _ (HB3.out.trans (b4.mono HB3.out.size)) uv (ownD_keep HO3.out (fun g hg => b4.block g (ownsRow_lt HO3.out g hg).2)); have HB5 := hideD (HB3.out.trans (b4.mono HB3.out.size)); clear b4)
      | (go_at_call 41; refine hpt.mono ?_; rintro e w6 ⟨rfl, q1, q2, q3⟩; clear hpt; have HQ := hideD (ja_put q1 q2 HB5.out q3 (e := e5)); clear q1 q2 q3)
      | fail)
    go_ret
    exact HQ.out
  subst h5
  rw [if_neg (by simp)]
  have hnxt : ∀ w6 o, Bn w6 J (jC X { j with over := o }) → Calls Try.prog 42 #[.pointer (some ⟨J, 0, none⟩)] w6 fun e w' => e = .returned (.int .i64 (nxJ j)) ∧ Below w6.heap.size w6 w' := fun w6 o h => jnext_any (j := { j with over := o }) h
  have hfr := fun w4 w6 l h1 h2 h3 h4 h5 => ja_fresh (w := w) (w4 := w4) (w6 := w6) (J := J) (X := X) (F := F) (d := d5) (j := j) (l := l) h1 h2 h3 h4 hJ hJl h5
  have hth := fun w4 w6 l h1 h2 h3 h4 h5 => ja_there (w := w) (w4 := w4) (w6 := w6) (J := J) (X := X) (F := F) (d := d5) (j := j) (l := l) h1 h2 h3 h4 hJ hJl h5
  rw [hn] at hfr hth
  obtain ⟨nx, hnxe⟩ : ∃ q, nxJ j = q := ⟨_, rfl⟩
  rw [hnxe] at hnxt hfr hth
  have HNX := hideD hnxt
  by_cases hx : n = nx
  · subst hx
    have HFR := hideD hfr
    clear hB hp ok hr ho hsj hf hsl hrr hput hn hJ hnxe hnxt hfr hth
    go_enter Try.func13, Try.ntmps13
    go_wp2_with (first
      | (go_at_call 38; refine hrd.mono ?_; rintro e w2 ⟨rfl, rfl⟩; clear hrd)
      | (go_at_call 39; refine hse.mono ?_; rintro e w3 ⟨uv, rfl, o3, b3⟩; clear hse; have hpc := hplc _ b3; have HB3 := hideD b3; obtain ⟨ua, uc, rfl, _, _⟩ := slice_form o3; have HO3 := hideD o3; clear o3 b3)
      | (go_at_call 40; refine hpc.mono ?_; rintro e w4 ⟨rfl, b4⟩; clear hpc; have hpt := HPUT.out _ (HB3.out.trans (b4.mono HB3.out.size)) _ (ownD_keep HO3.out (fun g hg => b4.block g (ownsRow_lt HO3.out g hg).2)); have HB5 := hideD (HB3.out.trans (b4.mono HB3.out.size)); clear b4)
      | (go_at_call 41; refine hpt.mono ?_; rintro e w6 ⟨rfl, q1, q2, q3⟩; clear hpt; have hnx := HNX.out _ _ q1; have HQ := hideD (⟨q1, q2, q3⟩ : _ ∧ _ ∧ _); clear q1 q2 q3)
      | (go_at_call 42; refine hnx.mono ?_; rintro e w7 ⟨rfl, b7⟩; clear hnx; have hb7 := HQ.out.1.on b7; obtain ⟨y2, g2⟩ := hb7 2 _ rfl; obtain ⟨y3, g3⟩ := hb7 3 _ rfl; obtain ⟨y4, g4⟩ := hb7 4 _ rfl; obtain ⟨y5, g5⟩ := hb7 5 _ rfl; have HE := hideD (HFR.out w4 w7 (sb.length : Int) hb7 (HQ.out.2.1.on b7) HB5.out (HQ.out.2.2.trans (Kf.of b7 (Nat.le_refl _))) (by simp)); clear hb7 b7)
      | fail)
    go_ret
    exact HE.out
  · have HTH := hideD hth
    clear hB hp ok hr ho hsj hf hsl hrr hput hn hJ hnxe hnxt hfr hth
    go_enter Try.func13, Try.ntmps13
    go_wp2_with (first
      | (go_at_call 38; refine hrd.mono ?_; rintro e w2 ⟨rfl, rfl⟩; clear hrd)
      | (go_at_call 39; refine hse.mono ?_; rintro e w3 ⟨uv, rfl, o3, b3⟩; clear hse; have hpc := hplc _ b3; have HB3 := hideD b3; obtain ⟨ua, uc, rfl, _, _⟩ := slice_form o3; have HO3 := hideD o3; clear o3 b3)
      | (go_at_call 40; refine hpc.mono ?_; rintro e w4 ⟨rfl, b4⟩; clear hpc; have hpt := HPUT.out _ (HB3.out.trans (b4.mono HB3.out.size)) _ (ownD_keep HO3.out (fun g hg => b4.block g (ownsRow_lt HO3.out g hg).2)); have HB5 := hideD (HB3.out.trans (b4.mono HB3.out.size)); clear b4)
      | (go_at_call 41; refine hpt.mono ?_; rintro e w6 ⟨rfl, q1, q2, q3⟩; clear hpt; have hnx := HNX.out _ _ q1; have HQ := hideD (⟨q1, q2, q3⟩ : _ ∧ _ ∧ _); clear q1 q2 q3)
      | (go_at_call 42; refine hnx.mono ?_; rintro e w7 ⟨rfl, b7⟩; clear hnx; have hb7 := HQ.out.1.on b7; obtain ⟨y3, g3⟩ := hb7 3 _ rfl; obtain ⟨y5, g5⟩ := hb7 5 _ rfl; have HE := hideD (HTH.out w4 w7 (sb.length : Int) hb7 (HQ.out.2.1.on b7) HB5.out (HQ.out.2.2.trans (Kf.of b7 (Nat.le_refl _))) hx); clear hb7 b7)
      | fail)
    go_ret
    exact HE.out

theorem wpList_pushJ {α : Type} {P : Program} (w : World) {ops : Array Oper} {rest : List Oper} {o : Oper} {a : Act} {Q : Exit → Act → World → Prop} (hgd : o.guard = none) (s x : Operand) (t : TypeId)
    (ho : o.op = .call { callee := .builtin .append, args := #[s, x], argTypes := #[t, t] })
    (base : Nat) (e : TypeId) (i : TypeInfo) (z : Value) (k bytes : Nat) (ht : P.underlying t = some (.slice e)) (hi : P.info? e = some i) (hz : i.zero = some z)
    (hsize : i.size = k) (hby : i.bytes = bytes) (hzs : z.cells.size = k) {R : (Nat → Prop) → World → α → List Value → Prop} (hR : Kp R)
    (v : Value) (l : List α) (p : α) (cs : List Value) (lo : Nat) (hs : a.eval s = v) (hx : a.eval x = .slice (some ⟨w.heap.size, 0, none⟩) 1 1) (hk : cs.length = k) (h1 : ∀ u ∈ cs, u.oneCell' = true)
    (hown : OwnK w base e k R v l) (hp : R (fun b => lo ≤ b) w p cs) (hlo : base ≤ lo) (hv : ∀ x, v.ownBlock = some x → x < lo) (hroom : (l.length + 1 + (l.length + 1) / 4 + 192) * bytes ≤ 281474976710656)
    (h63 : l.length + 1 ≤ maxLen) (hbase : base ≤ w.heap.size)
    (h : ∀ v' w', OwnK w' base e k R v' (l ++ [p]) → (w.alloc (.cells cs.toArray e)).grownBy w' v.ownBlock → Below base w w' → wpList P ops Q rest (a.put o.dst v') w') :
    wpList P ops Q (o :: rest) a (w.alloc (.cells cs.toArray e)) := by
  have hal : Below w.heap.size w (w.alloc (.cells cs.toArray e)) := (Below.refl _ _).alloc (Nat.le_refl _) _
  obtain ⟨qs, ho1, hl1, hr1⟩ := hown.on hR hal
  refine wpList_append_at _ hgd s x t t ho base e i z k bytes ht hi hz hsize hby hzs v l.length qs.flatten hs ho1 _ 1 cs hx (src_row ht w cs hk h1) 1 (.inr hroom) (Nat.le_refl _) h63 (Nat.le_trans hbase hal.size) ?_
  intro v' w' hown' hg hat
  refine h v' w' (OwnK.snoc hR hk rfl ho1 hl1 hr1 hown' hg hat (hR hp (fun b hb hlt => ⟨hb, hal.block b hlt⟩)) hlo hv) hg ?_
  exact ((Below.refl base w).alloc hbase _).grown hg (Nat.le_trans hbase hal.size) (fun k hk => (World.ownsRow.lt ho1 k hk).1)
/-- A segment as it was read: its number, how many bytes it has, what is read of it. -/
abbrev SgT := Int × Nat × SgM
def rSg (ok : Nat → Prop) (w : World) (x : SgT) (cs : List Value) : Prop := ∃ rv, cs = sgC x.1 (x.2.1 : Int) rv x.2.2 ∧ RdK ok w 1 (rBy ok w) x.2.2.recs rv
theorem kp_Sg : Kp rSg := by
  intro ok ok' w w' x cs h hk
  obtain ⟨rv, h1, h2⟩ := h
  exact ⟨rv, h1, h2.stay kp_By hk⟩
def sgsM (L : List (Int × Sm)) : List SgT := L.map fun x => (x.1, x.2.1.length, jPrsB x.2.1)
def ByD (d : Dk) : Prop := ∀ x ∈ d.L, ∀ b ∈ x.2.1, 0 ≤ b ∧ b ≤ 255
theorem inf_seg : (Try.prog.info? 77).map (fun i => (i.zero, i.size, i.bytes)) = some (some (.agg #[.int .i64 0, .int .i64 0, .slice none 0 0, .bool false, .bool false, .bool false, .bool false]), 7, 48) := by kernel_rfl
theorem ownK_lt {α : Type} {w : World} {b e k : Nat} {R : (Nat → Prop) → World → α → List Value → Prop} {v : Value} {l : List α} (h : OwnK w b e k R v l) : ∀ x, v.ownBlock = some x → b ≤ x ∧ x < w.heap.size := by
  obtain ⟨qs, h1, _⟩ := h
  exact ownsRow_lt h1
theorem ownK_low {w : World} {b b' : Nat} {v : Value} {l : List SgT} (h : OwnK w b 77 7 rSg v l) (hb : b' ≤ b) : OwnK w b' 77 7 rSg v l := by
  obtain ⟨qs, h1, h2, h3⟩ := h
  refine ⟨qs, ?_, h2, fun i hi hi' => ⟨(h3 i hi hi').1, kp_Sg (h3 i hi hi').2 (fun k hk _ => ⟨⟨Nat.le_trans hb hk.1, hk.2⟩, rfl⟩)⟩⟩
  refine ⟨h1.1, ?_⟩
  rcases h1.2 with hn | ⟨g, cap, cur, e1, e2, e3⟩
  · exact .inl hn
  · exact .inr ⟨g, cap, cur, e1, Nat.le_trans hb e2, e3⟩
/-- What reading all answers. -/
def rdA (d : Dk) : Int := if d.dead = true ∧ d.L ≠ [] then 8 else 0
def RaOut (w w' : World) (d : Dk) (e : Ending) : Prop := ∃ v, e = .returned (.tuple #[v, .int .i64 (rdA d)]) ∧ (rdA d = 0 → OwnK w' w.heap.size 77 7 rSg v (sgsM d.L)) ∧ Below w.heap.size w w'
set_option maxHeartbeats 8000000 in
theorem jreadAll_any {w : World} {X : Nat} {F : Nat → Prop} {d : Dk} {n0 : Nat} (hp : PD w X F d) (ok : Ok d n0 1000000) (hn0 : n0 ≤ 100000) (hby : ByD d) :
    Calls Try.prog 32 #[.pointer (some ⟨X, 0, none⟩)] w fun e w' => RaOut w w' d e := by
  have hsg := dsegs_any hp (by have := ok.len; omega)
  obtain ⟨n, hn⟩ : ∃ k, d.L.length = k := ⟨_, rfl⟩
  rw [hn] at hsg
  have HN := hideD hn
  have hn2 : n ≤ 100000 := by have := ok.len; omega
  have HP := hideD hp
  have HK := hideD ok
  have HY := hideD hby
  obtain ⟨io, hio, hio0, hio1, hio2⟩ := inf_getJ inf_seg
  clear hn hp ok hby
  go_enter Try.func32, Try.ntmps32
  go_upto_region 3 with (first
    | (go_at_call 29; refine hsg.mono ?_; rintro e w1 ⟨⟨sv, rfl, ho⟩, b1⟩; clear hsg; obtain ⟨sa, sc, rfl, hsl, hsm⟩ := dorow_form ho)
    | fail)
  have HO := hideD ho
  have HP1 := hideD (HP.out.on b1)
  have HB1 := hideD b1
  have HR0 := hideD (show OwnK w1 w1.heap.size 77 7 rSg (.slice none 0 0) ([] : List SgT) from ownK_nil _ _ _ _ _)
  have HBB := hideD (Below.refl w1.heap.size w1)
  clear ho b1
  go_loopw [4, 12] (fun rv0 ix wr => ∃ (j : Nat), j ≤ n ∧ ix = .int .i64 (j : Int) ∧ Hid (OwnK wr w1.heap.size 77 7 rSg rv0 ((sgsM d.L).take j)) ∧ Hid (Below w1.heap.size w1 wr) ∧ Hid (d.dead = true → j = 0)) (fun _ ix _ => n - (RowKit.intOf ix).toNat)
  case atStart => exact ⟨0, Nat.zero_le _, rfl, HR0, HBB, hideD (fun _ => rfl)⟩
  case round =>
    obtain ⟨j, hj, rfl, HR, HBj, HD⟩ := hrel
    by_cases hlt : j < n
    · have hjl : j < d.L.length := by rw [HN.out]; exact hlt
      have hPr := HP1.out.on HBj.out
      have hwf := (HK.out.s _ (List.getElem_mem hjl)).2
      have hlk := lk_of HK.out.r (show ((d.L[j]).1, (d.L[j]).2) ∈ d.L from List.getElem_mem hjl)
      obtain ⟨gs, rfl⟩ : ∃ gs, sa = some ⟨gs, 0, none⟩ := by
        rcases HO.out.2 with ⟨e, h0⟩ | ⟨gs, cap, cur, e, _⟩
        · have := HN.out
          omega
        · simp only [Value.slice.injEq] at e
          exact ⟨gs, e.1⟩
      have hgb := World.ownsRow.lt HO.out gs rfl
      have cj := World.ownsRow.cells HO.out (g := gs) rfl j (.int .i64 (d.L[j]).1) (by simp [hjl])
      rw [add_plain, Nat.zero_add] at cj
      have Cj := (HBj.out.cell (p := ⟨gs, j, none⟩) hgb.2).trans cj
      have hrd := dread_any hPr HK.out.us hwf
      have hred : redD d (d.L[j]).1 = if d.dead = true then ([], 8) else ((d.L[j]).2.1, 0) := by
        unfold redD
        rw [hlk]
      have hbs := HY.out _ (List.getElem_mem hjl)
      have hbl := Nat.le_trans (usM_mem (List.getElem_mem hjl)) HK.out.us
      have htk : (sgsM d.L).take (j + 1) = (sgsM d.L).take j ++ [((d.L[j]).1, (d.L[j]).2.1.length, jPrsB (d.L[j]).2.1)] := by
        unfold sgsM
        rw [List.take_succ_eq_append_getElem (by simpa using hjl)]
        simp
      have hne : d.L ≠ [] := fun e => by rw [e] at hjl; simp at hjl
      rw [hred] at hrd
      obtain ⟨x, hx⟩ : ∃ k, d.L[j] = k := ⟨_, rfl⟩
      rw [hx] at Cj hrd hbs hbl htk
      obtain ⟨nn, sb, sn⟩ := x
      simp only at Cj hrd hbs hbl htk
      have HTK := hideD htk
      have HNE := hideD hne
      have i1 : (j : Int) < (n : Int) := by omega
      have i2 : (0 : Int) ≤ (j : Int) := by omega
      clear hlk hx hwf hred cj htk hne hPr
      by_cases hd : d.dead = true
      · rw [if_pos hd] at hrd
        have hra : rdA d = 8 := by unfold rdA; rw [if_pos ⟨hd, HNE.out⟩]
        have HRA := hideD hra
        clear hra hd
        go_wp2_with (first
          | (go_at_call 30; refine hrd.mono ?_; rintro e w3 ⟨⟨v3, rfl, o3⟩, b3⟩; clear hrd; have HB3 := hideD b3; clear o3 b3)
          | fail)
        go_ret2
        refine ⟨.slice none 0 0, (show Ending.returned (.tuple #[.slice none 0 0, .int .i64 8]) = .returned (.tuple #[.slice none 0 0, .int .i64 (rdA d)]) by rw [HRA.out]), (fun h => by rw [HRA.out] at h; cases h), ?_⟩
        have hbz := HBj.out.trans (HB3.out.mono HBj.out.size)
        exact HB1.out.trans (hbz.mono HB1.out.size)
      · rw [if_neg hd] at hrd
        have HND := hideD hd
        clear hd
        go_upto_region 8 with (first
          | (go_at_call 30; refine hrd.mono ?_; rintro e w3 ⟨⟨v3, rfl, o3⟩, b3⟩; clear hrd)
          | fail)
        have hpa := jparsed_any nn o3.rd hbs hbl
        have hOw := HR.out.on kp_Sg b3
        have hB3 := HBj.out.trans (b3.mono HBj.out.size)
        obtain ⟨ra, rc, rfl, _, _⟩ := id hOw.form
        obtain ⟨lt, hlt'⟩ : ∃ k, ((sgsM d.L).take j).length = k := ⟨_, rfl⟩
        have hlt2 : lt ≤ 100000 := by rw [← hlt', List.length_take]; omega
        rw [hlt'] at hOw
        have HOw := hideD hOw
        have HB3 := hideD hB3
        have HLT := hideD hlt'
        rw [hlt'] at ⊢
        clear hOw hB3 o3 b3 hlt'
        go_wp2_with (first
          | (go_at_call 60; refine hpa.mono ?_; rintro e w4 ⟨rv', rfl, h41, h42⟩; clear hpa; have hO4 := HOw.out.on kp_Sg h42; have hB4 := HB3.out.trans (h42.mono HB3.out.size); obtain ⟨qa, qc, rfl, _, _⟩ := id h41.form)
          | (at_builtin; go_loud (refine wpList_pushJ w4 rfl _ _ 69 rfl w1.heap.size 77 io (.agg #[.int .i64 0, .int .i64 0, .slice none 0 0, .bool false, .bool false, .bool false, .bool false]) 7 48 Try.underlying69 hio hio0 hio1 hio2 rfl kp_Sg (.slice ra lt rc) ((sgsM d.L).take j) (nn, sb.length, jPrsB sb) [.int .i64 nn, .int .i64 (sb.length : Int), .slice qa (jPrsB sb).recs.length qc, .bool (jPrsB sb).begun, .bool (jPrsB sb).ended, .bool (jPrsB sb).torn, .bool (jPrsB sb).wrong] w3.heap.size rfl rfl rfl (by simp [Value.oneCell']) hO4 ⟨_, rfl, h41.rd kp_By⟩ HB3.out.size (fun x hx => ((ownK_lt HOw.out) x hx).2) (by rw [HLT.out]; omega) (by unfold maxLen; rw [HLT.out]; omega) hB4.size ?_); intro vb wb hOb hgb hbb; have HOB := hideD hOb; have HBB2 := hideD hbb; have HB4 := hideD hB4; clear hOb hgb hbb hO4 hB4 h41 h42)
          | fail)
        go_roundw
        case rel =>
          refine ⟨j + 1, hlt, by go_num, ?_, hideD (HB4.out.trans HBB2.out), hideD (fun h => absurd h HND.out)⟩
          rw [HTK.out]
          exact HOB
        case measure => simp [RowKit.intOf]; omega
    · have k1 : ¬ (j : Int) < (n : Int) := by omega
      obtain rfl : j = n := by omega
      have hra : rdA d = 0 := by
        unfold rdA
        rw [if_neg (fun h => by
          have h1 := HD.out h.1
          have h2 := HN.out
          exact h.2 (List.eq_nil_of_length_eq_zero (by omega)))]
      have HRA := hideD hra
      have HTA := hideD (show (sgsM d.L).take j = sgsM d.L from List.take_of_length_le (by simp [sgsM, HN.out]))
      clear hra
      go_wp2
      go_ret2
      refine ⟨_, congrArg (fun k => Ending.returned (.tuple #[_, .int .i64 k])) HRA.out.symm, fun _ => ?_, HB1.out.trans (HBj.out.mono HB1.out.size)⟩
      have h := HR.out
      rw [HTA.out] at h
      exact ownK_low h HB1.out.size

def unfB (s : SgM) : Bool := s.begun && !s.ended
set_option maxHeartbeats 1000000 in
theorem junf_any {w : World} {n sz : Int} {a : Option Addr} {k c : Nat} {s : SgM} : Calls Try.prog 61 #[.agg #[.int .i64 n, .int .i64 sz, .slice a k c, .bool s.begun, .bool s.ended, .bool s.torn, .bool s.wrong]] w fun e w' => e = .returned (.bool (unfB s)) ∧ Below w.heap.size w w' := by
  have hB : Bn (w.alloc (.cells #[.int .i64 n, .int .i64 sz, .slice a k c, .bool s.begun, .bool s.ended, .bool s.torn, .bool s.wrong] 77)) w.heap.size [.int .i64 n, .int .i64 sz, .slice a k c, .bool s.begun, .bool s.ended, .bool s.torn, .bool s.wrong] := Bn.new w _ _ _ rfl
  have hb : Below w.heap.size w (w.alloc (.cells #[.int .i64 n, .int .i64 sz, .slice a k c, .bool s.begun, .bool s.ended, .bool s.torn, .bool s.wrong] 77)) := (Below.refl _ _).alloc (Nat.le_refl _) _
  unfold unfB
  cases hb1 : s.begun with
  | false =>
    rw [hb1] at hB hb
    obtain ⟨y3, _⟩ := hB 3 _ rfl
    have HB := hideD hb
    clear hB hb
    go_enter Try.func61, Try.ntmps61
    go_wp2
    go_ret
    exact ⟨rfl, HB.out⟩
  | true =>
    rw [hb1] at hB hb
    cases he1 : s.ended with
    | false =>
      rw [he1] at hB hb
      obtain ⟨y3, _⟩ := hB 3 _ rfl
      obtain ⟨y4, _⟩ := hB 4 _ rfl
      have HB := hideD hb
      clear hB hb
      go_enter Try.func61, Try.ntmps61
      go_wp2
      go_ret
      exact ⟨rfl, HB.out⟩
    | true =>
      rw [he1] at hB hb
      obtain ⟨y3, _⟩ := hB 3 _ rfl
      obtain ⟨y4, _⟩ := hB 4 _ rfl
      have HB := hideD hb
      clear hB hb
      go_enter Try.func61, Try.ntmps61
      go_wp2
      go_ret
      exact ⟨rfl, HB.out⟩
/-- The last one that is a replacement. -/
def bsB : Nat → Nat → List SgT → Nat
  | b, _, [] => b
  | b, i, x :: r => bsB (if x.2.2.ended = true then i else b) (i + 1) r
abbrev RdSg (w : World) (L : List SgT) (v : Value) : Prop := RdK (fun _ => True) w 7 (rSg (fun _ => True) w) L v
theorem RdSg.on {w w' : World} {L : List SgT} {v : Value} (h : RdSg w L v) (hb : Below w.heap.size w w') : RdSg w' L v := RdK.stay kp_Sg h (fun b _ hlt => ⟨trivial, hb.block b hlt⟩)
theorem own_rdSg {w : World} {b : Nat} {L : List SgT} {v : Value} (h : OwnK w b 77 7 rSg v L) : RdSg w L v := RdK.stay kp_Sg (h.rd kp_Sg) (fun b _ _ => ⟨trivial, rfl⟩)
/-- A segment's cells, in a row of them. -/
theorem RdSg.at {w : World} {L : List SgT} {a : Option Addr} {k c : Nat} (h : RdSg w L (.slice a k c)) {i : Nat} (hi : i < L.length) : ∃ b off ra rc, a = some ⟨b, off, none⟩ ∧ b < w.heap.size ∧
    w.cell? ⟨b, off + i * 7, none⟩ = some (.int .i64 (L[i]).1) ∧ w.cell? ⟨b, off + i * 7 + 1, none⟩ = some (.int .i64 ((L[i]).2.1 : Int)) ∧ w.cell? ⟨b, off + i * 7 + 2, none⟩ = some (.slice ra (L[i]).2.2.recs.length rc) ∧
    w.cell? ⟨b, off + i * 7 + 3, none⟩ = some (.bool (L[i]).2.2.begun) ∧ w.cell? ⟨b, off + i * 7 + 4, none⟩ = some (.bool (L[i]).2.2.ended) ∧ w.cell? ⟨b, off + i * 7 + 5, none⟩ = some (.bool (L[i]).2.2.torn) ∧ w.cell? ⟨b, off + i * 7 + 6, none⟩ = some (.bool (L[i]).2.2.wrong) ∧
    RdK (fun _ => True) w 1 (rBy (fun _ => True) w) (L[i]).2.2.recs (.slice ra (L[i]).2.2.recs.length rc) := by
  obtain ⟨a', cap, e, _, _, hcell⟩ := h
  simp only [Value.slice.injEq] at e
  obtain ⟨rfl, _, rfl⟩ := e
  obtain ⟨b, off, cs, h1, _, h2, _, ⟨rv, h3, h4⟩, h5⟩ := hcell i hi
  obtain ⟨ra, rc, rfl, _, _⟩ := id h4.form
  subst h3
  exact ⟨b, off, ra, rc, h1, h2, h5 0 _ rfl, h5 1 _ rfl, h5 2 _ rfl, h5 3 _ rfl, h5 4 _ rfl, h5 5 _ rfl, h5 6 _ rfl, h4⟩
set_option maxHeartbeats 500000 in
theorem jbase_any {w : World} {L : List SgT} {v : Value} (h : RdSg w L v) (hl : L.length ≤ 100000) : Calls Try.prog 62 #[v] w fun e w' => e = .returned (.int .i64 (bsB 0 0 L : Int)) ∧ Below w.heap.size w w' := by
  obtain ⟨a, c, rfl, hlc, hcm⟩ := id h.form
  unfold maxLen at hcm
  obtain ⟨R, hR⟩ : ∃ R, bsB 0 0 L = R := ⟨_, rfl⟩
  rw [hR]
  obtain ⟨m, hm⟩ : ∃ k, L.length = k := ⟨_, rfl⟩
  have HL := hideD h
  have HM := hideD hm
  have H0 := hideD (show bsB 0 0 (L.drop 0) = R from hR)
  have HB0 := hideD (Below.refl w.heap.size w)
  rw [hm] at hlc hl HL ⊢
  clear h hR hm
  go_enter Try.func62, Try.ntmps62
  go_wp2
  go_loopw [3, 8] (fun rb ix wr => ∃ (j b : Nat), j ≤ m ∧ b ≤ j ∧ ix = .int .i64 (j : Int) ∧ rb = .int .i64 (b : Int) ∧ Hid (bsB b j (L.drop j) = R) ∧ Hid (Below w.heap.size w wr)) (fun _ ix _ => m - (RowKit.intOf ix).toNat)
  case atStart => exact ⟨0, 0, Nat.zero_le _, Nat.le_refl _, rfl, rfl, H0, HB0⟩
  case round =>
    obtain ⟨j, b, hj, hbj, rfl, rfl, HF, HBj⟩ := hrel
    clear H0
    by_cases hlt : j < m
    · have hjl : j < L.length := by rw [HM.out]; exact hlt
      obtain ⟨g, off, ra, rc, rfl, hg, c0, c1, c2, c3, c4, c5, c6, _⟩ := RdSg.at (HL.out.on HBj.out) hjl
      have hfe := HF.out
      rw [List.drop_eq_getElem_cons hjl] at hfe
      unfold bsB at hfe
      obtain ⟨x, hx⟩ : ∃ k, L[j] = k := ⟨_, rfl⟩
      rw [hx] at c0 c1 c2 c3 c4 c5 c6 hfe
      have i1 : (j : Int) < (m : Int) := by omega
      have i2 : (0 : Int) ≤ (j : Int) := by omega
      have HFE := hideD hfe
      have HBN := hideD (HBj.out.alloc HBj.out.size (.cells #[.int .i64 x.1, .int .i64 (x.2.1 : Int), .slice ra x.2.2.recs.length rc, .bool x.2.2.begun, .bool x.2.2.ended, .bool x.2.2.torn, .bool x.2.2.wrong] 77))
      clear hx hfe
      cases he : x.2.2.ended with
      | true =>
        rw [he] at c4 HBN
        have hfe := HFE.out
        rw [he, if_pos rfl] at hfe
        have HF2 := hideD hfe
        clear hfe he HFE
        go_wp2
        go_roundw
        case rel =>
          refine ⟨j + 1, j, hlt, by omega, by go_num, rfl, HF2, ?_⟩
          exact HBN
        case measure => simp [RowKit.intOf]; omega
      | false =>
        rw [he] at c4 HBN
        have hfe := HFE.out
        rw [he, if_neg (by simp)] at hfe
        have HF2 := hideD hfe
        clear hfe he HFE
        go_wp2
        go_roundw
        case rel => exact ⟨j + 1, b, hlt, by omega, by go_num, rfl, HF2, HBN⟩
        case measure => simp [RowKit.intOf]; omega
    · have k1 : ¬ (j : Int) < (m : Int) := by omega
      have hR := HF.out
      have e : L.drop j = [] := List.drop_eq_nil_of_le (by rw [HM.out]; omega)
      rw [e] at hR
      have hR2 : b = R := hR
      subst hR2
      clear HF hR e
      go_wp2
      go_ret
      exact ⟨rfl, HBj.out⟩
end Go.Proofs.Ytpblcahcpobicaa
