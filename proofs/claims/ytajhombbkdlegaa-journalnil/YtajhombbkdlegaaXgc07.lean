import Derived.Test.YtajhombbkdlegaaXgc06
import Derived.Test.YtajhombbkdlegaaXgc04
import Derived.WalkSmall
import Derived.Test.YtajhombbkdlegaaXgc01
import Derived.ProofKit
import Derived.OpenShut
import Derived.ShutString
import Derived.ChangeOld
import Derived.SizedLaws
import Derived.Below

/- The journal: ready, next, place, sealed, put. -/
namespace Go.Proofs.Ytajhombbkdlegaa
open Go.RowKit Go.Lib Go.Maps
set_option linter.unusedSimpArgs false
set_option linter.unusedVariables false
set_option maxRecDepth 100000
attribute [local go_sem ↓] Go.wp_at_zero Go.wp_at_succ

/-- A journal: as the program has it. -/
structure Jm where
  first : Int
  segs : Int
  size : Int
  torn : Bool
  recs : Int
  over : Bool
def jC (X : Nat) (j : Jm) : List Value := [.pointer (some ⟨X, 0, none⟩), .int .i64 j.first, .int .i64 j.segs, .int .i64 j.size, .bool j.torn, .int .i64 j.recs, .bool j.over]
def nxJ (j : Jm) : Int := IntKind.i64.wrap (j.first + j.segs)
def plJ (j : Jm) : Int := if j.segs = 0 ∨ 2000 ≤ j.size ∨ j.torn = true then nxJ j else IntKind.i64.wrap (nxJ j - 1)
theorem jnext_any {w : World} {J X : Nat} {j : Jm} (h : Bn w J (jC X j)) : Calls Try.prog 43 #[.pointer (some ⟨J, 0, none⟩)] w fun e w' => e = .returned (.int .i64 (nxJ j)) ∧ Below w.heap.size w w' := by
  obtain ⟨c1, _⟩ := h 1 _ rfl
  obtain ⟨c2, _⟩ := h 2 _ rfl
  unfold nxJ
  obtain ⟨k, hk⟩ : ∃ k, IntKind.i64.wrap (j.first + j.segs) = k := ⟨_, rfl⟩
  have hk2 : wrap64 (j.first + j.segs) = k := by rw [wrap64_iJ]; exact hk
  rw [hk]
  go_enter Try.func43, Try.ntmps43
  go_wp2
  go_quiet (fail)
  go_wp2
  go_ret
  exact ⟨rfl, ⟨rfl, rfl, rfl, Nat.le_refl _, fun _ _ => rfl⟩⟩
theorem jready_any {w : World} {J X : Nat} {j : Jm} (h : Bn w J (jC X j)) : Calls Try.prog 39 #[.pointer (some ⟨J, 0, none⟩)] w fun e w' => e = .returned (.int .i64 (if j.over = true then 8 else 0)) ∧ w = w' := by
  obtain ⟨c0, _⟩ := h 0 _ rfl
  obtain ⟨c6, _⟩ := h 6 _ rfl
  cases ho : j.over with
  | true =>
    rw [ho] at c6
    go_enter Try.func39, Try.ntmps39
    go_wp2
    go_ret
    exact ⟨rfl, rfl⟩
  | false =>
    rw [ho] at c6
    go_enter Try.func39, Try.ntmps39
    go_wp2
    go_ret
    exact ⟨rfl, rfl⟩
theorem jready_nil (w : World) : Calls Try.prog 39 #[.pointer none] w fun e w' => e = .returned (.int .i64 1) ∧ w = w' := by
  go_enter Try.func39, Try.ntmps39
  go_wp2
  go_ret
  exact ⟨rfl, rfl⟩
theorem jrecs_any {w : World} {J X : Nat} {j : Jm} (h : Bn w J (jC X j)) : Calls Try.prog 25 #[.pointer (some ⟨J, 0, none⟩)] w fun e w' => e = .returned (.int .i64 j.recs) ∧ w = w' := by
  obtain ⟨c5, _⟩ := h 5 _ rfl
  go_enter Try.func25, Try.ntmps25
  go_wp2
  go_ret
  exact ⟨rfl, rfl⟩
theorem jrecs_nil (w : World) : Calls Try.prog 25 #[.pointer none] w fun e w' => e = .returned (.int .i64 0) ∧ w = w' := by
  go_enter Try.func25, Try.ntmps25
  go_wp2
  go_ret
  exact ⟨rfl, rfl⟩
theorem japp_nil (w : World) (v : Value) : Calls Try.prog 14 #[.pointer none, v] w fun e w' => e = .returned (.int .i64 1) ∧ w = w' := by
  have hr := fun W => jready_nil W
  go_enter Try.func14, Try.ntmps14
  go_wp2_with (first
    | (go_at_call 39; refine (hr _).mono ?_; rintro e w2 ⟨rfl, rfl⟩)
    | fail)
  go_ret
  exact ⟨rfl, rfl⟩
theorem jrepl_nil (w : World) (v : Value) : Calls Try.prog 17 #[.pointer none, v] w fun e w' => e = .returned (.int .i64 1) ∧ w = w' := by
  have hr := fun W => jready_nil W
  go_enter Try.func17, Try.ntmps17
  go_wp2_with (first
    | (go_at_call 39; refine (hr _).mono ?_; rintro e w2 ⟨rfl, rfl⟩)
    | fail)
  go_ret
  exact ⟨rfl, rfl⟩
theorem jopen_nil (w : World) : Calls Try.prog 12 #[.pointer none] w fun e w' => e = .returned (.tuple #[.pointer none, .slice none 0 0, .int .i64 1]) ∧ w = w' := by
  go_enter Try.func12, Try.ntmps12
  go_wp2
  refine bodyPost_ret (results_tmp3 rfl _ _ _) rfl ?_
  exact ⟨rfl, rfl⟩
set_option maxHeartbeats 1000000 in
theorem jplace_any {w : World} {J X : Nat} {j : Jm} (h : Bn w J (jC X j)) : Calls Try.prog 41 #[.pointer (some ⟨J, 0, none⟩)] w fun e w' => e = .returned (.int .i64 (plJ j)) ∧ Below w.heap.size w w' := by
  have hn := jnext_any h
  obtain ⟨c2, _⟩ := h 2 _ rfl
  obtain ⟨c3, _⟩ := h 3 _ rfl
  obtain ⟨c4, _⟩ := h 4 _ rfl
  unfold plJ
  obtain ⟨k, hk⟩ : ∃ k, nxJ j = k := ⟨_, rfl⟩
  rw [hk] at hn ⊢
  obtain ⟨k2, hk2⟩ : ∃ q, IntKind.i64.wrap (k - 1) = q := ⟨_, rfl⟩
  have hk3 : wrap64 (k - 1) = k2 := by rw [wrap64_iJ]; exact hk2
  rw [hk2]
  obtain ⟨J0, hj0⟩ : ∃ q, j = q := ⟨_, rfl⟩
  obtain ⟨f0, sg, sz, tn, rc, ov⟩ := j
  simp only at c2 c3 c4 ⊢
  clear hk hk2 hj0 h
  by_cases h1 : sg = 0
  · subst h1
    rw [if_pos (.inl rfl)]
    go_enter Try.func41, Try.ntmps41
    go_wp2_with (first
      | (go_at_call 43; refine hn.mono ?_; rintro e w2 ⟨rfl, b2⟩)
      | fail)
    go_ret
    exact ⟨rfl, b2⟩
  by_cases h2 : 2000 ≤ sz
  · rw [if_pos (.inr (.inl h2))]
    have h2' : sz ≥ 2000 := h2
    go_enter Try.func41, Try.ntmps41
    go_wp2_with (first
      | (go_at_call 43; refine hn.mono ?_; rintro e w2 ⟨rfl, b2⟩)
      | fail)
    go_ret
    exact ⟨rfl, b2⟩
  have h2' : ¬ sz ≥ 2000 := h2
  cases tn with
  | true =>
    rw [if_pos (.inr (.inr rfl))]
    go_enter Try.func41, Try.ntmps41
    go_wp2_with (first
      | (go_at_call 43; refine hn.mono ?_; rintro e w2 ⟨rfl, b2⟩)
      | fail)
    go_ret
    exact ⟨rfl, b2⟩
  | false =>
    rw [if_neg (by simp; omega)]
    go_enter Try.func41, Try.ntmps41
    go_wp2_with (first
      | (go_at_call 43; refine hn.mono ?_; rintro e w2 ⟨rfl, b2⟩)
      | fail)
    go_ret
    exact ⟨congrArg (fun q => Ending.returned (Value.int .i64 q)) hk3, b2⟩
theorem jown_rd {w : World} {B m : Nat} {v : Value} {b : List Int} (hm : b.length = m) (h : w.ownsRow B 5 1 v (1 + m) ([.int .u8 0] ++ b.map (Value.int .u8))) : Own w B 5 v (0 :: b) := by
  unfold Own
  rw [List.length_cons, hm, Nat.add_comm m 1]
  exact h
theorem jown_low {w : World} {b b' e : Nat} {v : Value} {xs : List Int} (h : Own w b e v xs) (hb : b' ≤ b) : Own w b' e v xs := by
  refine ⟨h.1, ?_⟩
  rcases h.2 with hn | ⟨g, cap, cur, e1, e2, e3⟩
  · exact .inl hn
  · exact .inr ⟨g, cap, cur, e1, Nat.le_trans hb e2, e3⟩
/-- The sealed record of a record, or its error. -/
def sealJ (b : List Int) : List Int × Int := if b.length = 0 then ([], 1) else if 14000 ≤ b.length then ([], 4) else (rcd (0 :: b), 0)
theorem Try.infoJ5 : (Try.prog.info? 5).map (fun i => (i.zero, i.size, i.bytes)) = some (some (.int .u8 0), 1, 1) := by kernel_rfl
set_option maxHeartbeats 2000000 in
theorem jsealed_any {w : World} {v : Value} {b : List Int} (h : Rd w v b) : Calls Try.prog 40 #[v] w fun e w' => ∃ u, e = .returned (.tuple #[u, .int .i64 (sealJ b).2]) ∧ Own w' w.heap.size 5 u (sealJ b).1 ∧ Below w.heap.size w w' := by
  obtain ⟨ba, bc, rfl, hbc, hbm, _⟩ := id h
  unfold maxLen at hbm
  unfold sealJ
  by_cases h0 : b.length = 0
  · rw [if_pos h0]
    have h0' : (b.length : Int) = 0 := by omega
    go_enter Try.func40, Try.ntmps40
    go_wp2
    go_ret2
    exact ⟨_, rfl, World.ownsRow_nil _ _ _ _, Below.refl _ _⟩
  rw [if_neg h0]
  by_cases h1 : 14000 ≤ b.length
  · rw [if_pos h1]
    have h0' : ¬ (b.length : Int) = 0 := by omega
    have h1' : (b.length : Int) ≥ 14000 := by omega
    go_enter Try.func40, Try.ntmps40
    go_wp2
    go_ret2
    exact ⟨_, rfl, World.ownsRow_nil _ _ _ _, Below.refl _ _⟩
  rw [if_neg h1]
  have h0' : ¬ (b.length : Int) = 0 := by omega
  have h1' : ¬ (b.length : Int) ≥ 14000 := by omega
  have HR := hideD h
  obtain ⟨m, hm⟩ : ∃ k, b.length = k := ⟨_, rfl⟩
  rw [hm] at h0' h1' hbc ⊢
  have HM := hideD hm
  clear h hm h0 h1
  go_enter Try.func40, Try.ntmps40
  have hm14 : m < 14000 := by omega
  obtain ⟨i0, hi, hz0, hz1, hz2⟩ := inf_getJ Try.infoJ5
  have hal : Below w.heap.size w (w.alloc (.cells #[.int .u8 0] 5)) := (Below.refl _ _).alloc (Nat.le_refl _) _
  have hown : (w.alloc (.cells #[.int .u8 0] 5)).ownsRow w.heap.size 5 1 (.slice (some ⟨w.heap.size, 0, none⟩) 1 1) 1 [.int .u8 0] := World.ownsRow_lit w #[.int .u8 0] 1 (Nat.le_refl _) (by simp [maxLen]) rfl
  have hsrc := (rd_on HR.out hal).src (t := 41) (e := 5) Try.underlying41
  rw [HM.out] at hsrc
  have hss : sealS (0 :: b) = (rcd (0 :: b), 0) := by
    unfold sealS
    rw [if_neg (by simp), if_neg (by simp only [List.length_cons]; have := HM.out; omega)]
  have HSRC := hideD hsrc
  have HOWN := hideD hown
  have HAL := hideD hal
  clear hsrc hown hal
  go_wp2_with (first
    | (at_builtin; refine wpList_append_at _ rfl (.tmp 10) (.tmp 11) 41 41 rfl w.heap.size 5 i0 (.int .u8 0) 1 1 Try.underlying41 hi hz0 hz1 hz2 rfl (.slice (some ⟨w.heap.size, 0, none⟩) 1 1) 1 [.int .u8 0] rfl HOWN.out _ m (b.map (Value.int .u8)) rfl HSRC.out m (.inr (by omega)) (Nat.le_refl _) (by unfold maxLen; omega) HAL.out.size ?_; intro v1 wa hO hg hat; obtain ⟨a1, c1, rfl, _, _⟩ := dorow_form hO; have hseal := seal_any _ (0 :: b) wa (jown_rd HM.out hO).rd; rw [hss] at hseal; simp only at hseal; have HBA := hideD (HAL.out.grown hg HAL.out.size (fun k hk => by have : w.heap.size = k := Option.some.inj hk; omega)); clear hO hg hat)
    | (go_at_call 65; refine hseal.mono ?_; rintro e w3 ⟨u, rfl, ho3, hb3⟩; clear hseal; have HO3 := hideD ho3; have HB3 := hideD hb3; clear ho3 hb3)
    | fail)
  go_ret2
  exact ⟨_, rfl, jown_low HO3.out HBA.out.size, HBA.out.trans (HB3.out.mono HBA.out.size)⟩

/-- Bytes appended to a segment, and the sync: the disk, the error. -/
def putJ (d : Dk) (n : Int) (bs : List Int) : Dk × Int := if (appD d n bs).2 = 0 then opM (appD d n bs).1 n (synF (appD d n bs).1 n) else appD d n bs
theorem Ok.put {d : Dk} {k u : Nat} (h : Ok d k u) {n : Int} (hn : (Lit.int .i64 n).wf = true) (bs : List Int) : Ok (putJ d n bs).1 (k + 1) (u + bs.length) := by
  unfold putJ
  split
  · exact (h.app hn bs).syn hn
  · exact h.app hn bs
theorem jput_full {w : World} {J X : Nat} {j : Jm} {n : Int} {v : Value} (hB : Bn w J (jC X j)) (hf : n < 0 ∨ 4000 ≤ IntKind.i64.wrap (n - j.first)) :
    Calls Try.prog 42 #[.pointer (some ⟨J, 0, none⟩), .int .i64 n, v] w fun e w' => e = .returned (.int .i64 7) ∧ w = w' := by
  obtain ⟨c1, _⟩ := hB 1 _ rfl
  obtain ⟨q, hq⟩ : ∃ q, IntKind.i64.wrap (n - j.first) = q := ⟨_, rfl⟩
  have hq2 : wrap64 (n - j.first) = q := by rw [wrap64_iJ]; exact hq
  rw [hq] at hf
  clear hq hB
  by_cases h1 : n < 0
  · go_enter Try.func42, Try.ntmps42
    go_wp2
    go_ret
    exact ⟨rfl, rfl⟩
  have h2 : q ≥ 4000 := by omega
  go_enter Try.func42, Try.ntmps42
  go_wp2
  go_ret
  exact ⟨rfl, rfl⟩
theorem jput_end {w w1 w2 : World} {J X : Nat} {F : Nat → Prop} {d2 : Dk} {j : Jm} {e : Int} (k1 : Kf F w w1) (k2 : Kf (nF F w) w1 w2) (p : PD w2 X (nF (nF F w) w1) d2) (hB : Bn w2 J (jC X j)) (hJ : ¬ F J) (hJl : J < w.heap.size) (b : Bool) :
    (Ending.returned (.int .i64 e)) = .returned (.int .i64 e) ∧ Bn (w2.setCell ⟨J, 6, none⟩ (.bool b)) J (jC X { j with over := b }) ∧ PD (w2.setCell ⟨J, 6, none⟩ (.bool b)) X (nF F w) d2 ∧ Kf (fun i => F i ∨ i = J) w (w2.setCell ⟨J, 6, none⟩ (.bool b)) := by
  have hs := k1.size
  refine ⟨rfl, hB.set (i := 6) (by simp [jC]) _, ?_, ?_⟩
  · have p2 : PD w2 X (nF F w) d2 := p.mono (fun i hi h => by
      rcases h with h | h
      · exact h
      · exact .inr (by omega))
    refine p2.keep (fun i hF hi => Below.heap_setCell _ _ _ _ (fun e => ?_))
    have e : i = J := e
    subst e
    rcases hF with h | h
    · exact hJ h
    · omega
  · have h : Kf (fun i => F i ∨ i = J) w w2 := (k1.transN k2).mono (fun i hi => Or.inl hi)
    exact h.set (X := J) (Or.inr rfl) _
set_option maxHeartbeats 4000000 in
theorem jput_any {w : World} {J X : Nat} {F : Nat → Prop} {d : Dk} {j : Jm} {n : Int} {v : Value} {bs : List Int} {k u : Nat} (hB : Bn w J (jC X j)) (hJ : ¬ F J) (hp : PD w X F d) (ok : Ok d k u) (hk : k + 1 ≤ 100000) (hu : u + bs.length ≤ 1000000) (hn : (Lit.int .i64 n).wf = true)
    (hv : ∀ w1, Kf F w w1 → Rd w1 v bs) (hf : ¬ (n < 0 ∨ 4000 ≤ IntKind.i64.wrap (n - j.first))) :
    Calls Try.prog 42 #[.pointer (some ⟨J, 0, none⟩), .int .i64 n, v] w fun e w' => e = .returned (.int .i64 (putJ d n bs).2) ∧ Bn w' J (jC X { j with over := decide ((putJ d n bs).2 = 8) }) ∧ PD w' X (nF F w) (putJ d n bs).1 ∧ Kf (fun i => F i ∨ i = J) w w' := by
  obtain ⟨c0, _⟩ := hB 0 _ rfl
  obtain ⟨c1, _⟩ := hB 1 _ rfl
  obtain ⟨c6, f6⟩ := hB 6 _ rfl
  have hJl := hB.lt
  obtain ⟨q, hq⟩ : ∃ q, IntKind.i64.wrap (n - j.first) = q := ⟨_, rfl⟩
  have hq2 : wrap64 (n - j.first) = q := by rw [wrap64_iJ]; exact hq
  rw [hq] at hf
  have h1 : ¬ n < 0 := fun h => hf (.inl h)
  have h2 : ¬ q ≥ 4000 := fun h => hf (.inr h)
  obtain ⟨va, vc, rfl, _⟩ := id (hv w (Kf.refl F w))
  have hap := dapp_any (n := n) (v := .slice va bs.length vc) (bs := bs) hp ok.fuse.2 ok.room hn (by have := ok.len; omega) (by have := ok.us; omega) (by omega) hv
  have ok1 := ok.app hn bs
  unfold putJ
  obtain ⟨r, hr⟩ : ∃ r, appD d n bs = r := ⟨_, rfl⟩
  rw [hr] at hap ok1 ⊢
  obtain ⟨d1, e1⟩ := r
  simp only at hap ok1 ⊢
  obtain ⟨bl, hbl⟩ : ∃ b, bs.length = b := ⟨_, rfl⟩
  rw [hbl] at hap ⊢
  have HB := hideD hB
  have HBL := hideD hbl
  clear hq hf hr hp ok hv hB hbl
  by_cases he : e1 = 0
  · subst he
    rw [if_pos rfl]
    obtain ⟨r2, hr2⟩ : ∃ r, opM d1 n (synF d1 n) = r := ⟨_, rfl⟩
    rw [hr2]
    obtain ⟨d2, e2⟩ := r2
    simp only
    have hsy := fun w1 F1 (hp1 : PD w1 X F1 d1) => dsync_any (n := n) hp1 ok1.fuse.2 hn (by have := ok1.len; omega)
    rw [hr2] at hsy
    have HSY := hideD hsy
    clear hr2 hsy
    have hst := hideD (show ∀ w1 w2, Kf F w w1 → Kf (nF F w) w1 w2 → Bn w2 J (jC X j) from fun w1 w2 k1 k2 => (HB.out.blk (k1.block J hJl hJ)).blk (k2.block J (Nat.lt_of_lt_of_le hJl k1.size) (fun e => e.elim hJ (fun e => by omega))))
    by_cases h8 : e2 = 8
    · subst h8
      go_enter Try.func42, Try.ntmps42
      go_wp2_with (first
        | (go_at_call 27; refine hap.mono ?_; rintro e w2 ⟨rfl, p2, k2⟩; clear hap; have hB2 := HB.out.blk (k2.block J hJl hJ); obtain ⟨c0, _⟩ := hB2 0 _ rfl; obtain ⟨c6, f6⟩ := hB2 6 _ rfl; have hs := HSY.out _ _ p2; have HK2 := hideD k2; clear p2 k2 hB2)
        | (go_at_call 66; refine hs.mono ?_; rintro e w3 ⟨rfl, p3, k3⟩; clear hs; have hB3 := hst.out _ _ HK2.out k3; obtain ⟨c6, f6⟩ := hB3 6 _ rfl; have HH := hideD (⟨p3, k3, hB3⟩ : _ ∧ _ ∧ _); clear p3 k3 hB3)
        | fail)
      go_ret
      obtain ⟨p3, k3, hB3⟩ := HH.out
      exact jput_end HK2.out k3 p3 hB3 hJ hJl true
    · have h8' : decide (e2 = 8) = false := decide_eq_false h8
      have h8b : (e2 == 8) = false := by simpa using h8
      rw [h8']
      go_enter Try.func42, Try.ntmps42
      go_wp2_with (first
        | (go_at_call 27; refine hap.mono ?_; rintro e w2 ⟨rfl, p2, k2⟩; clear hap; have hB2 := HB.out.blk (k2.block J hJl hJ); obtain ⟨c0, _⟩ := hB2 0 _ rfl; obtain ⟨c6, f6⟩ := hB2 6 _ rfl; have hs := HSY.out _ _ p2; have HK2 := hideD k2; clear p2 k2 hB2)
        | (go_at_call 66; refine hs.mono ?_; rintro e w3 ⟨rfl, p3, k3⟩; clear hs; have hB3 := hst.out _ _ HK2.out k3; obtain ⟨c6, f6⟩ := hB3 6 _ rfl; have HH := hideD (⟨p3, k3, hB3⟩ : _ ∧ _ ∧ _); clear p3 k3 hB3)
        | fail)
      go_ret
      obtain ⟨p3, k3, hB3⟩ := HH.out
      exact jput_end HK2.out k3 p3 hB3 hJ hJl false
  · rw [if_neg he]
    simp only
    have hend := hideD (show ∀ w1, Kf F w w1 → PD w1 X (nF F w) d1 → ∀ b, Bn (w1.setCell ⟨J, 6, none⟩ (.bool b)) J (jC X { j with over := b }) ∧ PD (w1.setCell ⟨J, 6, none⟩ (.bool b)) X (nF F w) d1 ∧ Kf (fun i => F i ∨ i = J) w (w1.setCell ⟨J, 6, none⟩ (.bool b)) from fun w1 k1 p b =>
      (jput_end (e := 0) k1 (Kf.refl _ w1) (p.mono (fun i _ h => Or.inl h)) (HB.out.blk (k1.block J hJl hJ)) hJ hJl b).2)
    by_cases h8 : e1 = 8
    · subst h8
      go_enter Try.func42, Try.ntmps42
      go_wp2_with (first
        | (go_at_call 27; refine hap.mono ?_; rintro e w2 ⟨rfl, p2, k2⟩; clear hap; have hB2 := HB.out.blk (k2.block J hJl hJ); obtain ⟨c6, f6⟩ := hB2 6 _ rfl; have HH := hideD (hend.out _ k2 p2); clear p2 k2 hB2)
        | fail)
      go_ret
      exact ⟨rfl, HH.out true⟩
    · have h8' : decide (e1 = 8) = false := decide_eq_false h8
      have h8b : (e1 == 8) = false := by simpa using h8
      rw [h8']
      go_enter Try.func42, Try.ntmps42
      go_wp2_with (first
        | (go_at_call 27; refine hap.mono ?_; rintro e w2 ⟨rfl, p2, k2⟩; clear hap; have hB2 := HB.out.blk (k2.block J hJl hJ); obtain ⟨c6, f6⟩ := hB2 6 _ rfl; have HH := hideD (hend.out _ k2 p2); clear p2 k2 hB2)
        | fail)
      go_ret
      exact ⟨rfl, HH.out false⟩

/-- A journal that has kept one more record, of so many bytes sealed. -/
def oneJ (j : Jm) (l : Int) : Jm := if plJ j = nxJ j then { j with segs := wrap64 (j.segs + 1), size := wrap64 l, torn := false, recs := wrap64 (j.recs + 1), over := false } else { j with size := wrap64 (j.size + l), recs := wrap64 (j.recs + 1), over := false }
/-- Append: the journal, the disk, the error. -/
def appJ (j : Jm) (d : Dk) (b : List Int) : Jm × Dk × Int :=
  if j.over = true then (j, d, 8) else if (sealJ b).2 ≠ 0 then (j, d, (sealJ b).2) else if plJ j < 0 ∨ 4000 ≤ IntKind.i64.wrap (plJ j - j.first) then (j, d, 7)
  else if (putJ d (plJ j) (sealJ b).1).2 ≠ 0 then ({ j with over := decide ((putJ d (plJ j) (sealJ b).1).2 = 8) }, (putJ d (plJ j) (sealJ b).1).1, (putJ d (plJ j) (sealJ b).1).2)
  else (oneJ j ((sealJ b).1.length : Int), (putJ d (plJ j) (sealJ b).1).1, 0)
def JaOut (w w' : World) (J X : Nat) (F : Nat → Prop) (r : Jm × Dk × Int) (e : Ending) : Prop := e = .returned (.int .i64 r.2.2) ∧ Bn w' J (jC X r.1) ∧ PD w' X (nF F w) r.2.1 ∧ Kf (fun i => F i ∨ i = J) w w'
theorem ja_same {w w' : World} {J X : Nat} {F : Nat → Prop} {d : Dk} {j : Jm} (hB : Bn w J (jC X j)) (hp : PD w X F d) (hb : Below w.heap.size w w') (e : Int) : JaOut w w' J X F (j, d, e) (.returned (.int .i64 e)) :=
  ⟨rfl, hB.on hb, (hp.on hb).mono (fun i _ h => .inl h), Kf.of hb (Nat.le_refl _)⟩
theorem pd_setJ {w : World} {X J i : Nat} {G : Nat → Prop} {d : Dk} (h : PD w X G d) (hJ : ¬ G J) (u : Value) : PD (w.setCell ⟨J, i, none⟩ u) X G d :=
  h.keep (fun k hG _ => Below.heap_setCell _ _ _ _ (fun e => hJ (by have e : k = J := e; rw [← e]; exact hG)))
theorem ja_fresh {w w4 w6 : World} {J X : Nat} {F : Nat → Prop} {d : Dk} {j : Jm} {l : Int} (hB : Bn w6 J (jC X { j with over := false })) (hp : PD w6 X (nF (cF F w) w4) d) (b4 : Below w.heap.size w w4) (k : Kf (fun i => cF F w i ∨ i = J) w4 w6) (hJ : ¬ F J) (hJl : J < w.heap.size) (hn : plJ j = nxJ j) :
    JaOut w (((((w6.setCell ⟨J, 2, none⟩ (.int .i64 (wrap64 (j.segs + 1)))).setCell ⟨J, 3, none⟩ (.int .i64 0)).setCell ⟨J, 4, none⟩ (.bool false)).setCell ⟨J, 3, none⟩ (.int .i64 (wrap64 l))).setCell ⟨J, 5, none⟩ (.int .i64 (wrap64 (j.recs + 1)))) J X F (oneJ j l, d, 0) (.returned (.int .i64 0)) := by
  have hs := b4.size
  have hG : ¬ nF (cF F w) w4 J := fun h => h.elim (fun h => hJ h.1) (fun h => by omega)
  unfold oneJ
  rw [if_pos hn]
  refine ⟨rfl, ((((hB.set (i := 2) (by simp [jC]) _).set (i := 3) (by simp [jC]) _).set (i := 4) (by simp [jC]) _).set (i := 3) (by simp [jC]) _).set (i := 5) (by simp [jC]) _, ?_, ?_⟩
  · exact (pd_setJ (pd_setJ (pd_setJ (pd_setJ (pd_setJ hp hG _) hG _) hG _) hG _) hG _).mono (fun i _ h => h.elim (fun h => .inl h.1) (fun h => .inr (by omega)))
  · have k2 : Kf (fun i => F i ∨ i = J) w w6 := (Kf.of b4 (Nat.le_refl _)).trans (k.mono (fun i h => h.elim (fun h => .inl h.1) .inr))
    exact ((((k2.set (X := J) (.inr rfl) _).set (X := J) (.inr rfl) _).set (X := J) (.inr rfl) _).set (X := J) (.inr rfl) _).set (X := J) (.inr rfl) _
theorem ja_there {w w4 w6 : World} {J X : Nat} {F : Nat → Prop} {d : Dk} {j : Jm} {l : Int} (hB : Bn w6 J (jC X { j with over := false })) (hp : PD w6 X (nF (cF F w) w4) d) (b4 : Below w.heap.size w w4) (k : Kf (fun i => cF F w i ∨ i = J) w4 w6) (hJ : ¬ F J) (hJl : J < w.heap.size) (hn : ¬ plJ j = nxJ j) :
    JaOut w ((w6.setCell ⟨J, 3, none⟩ (.int .i64 (wrap64 (j.size + l)))).setCell ⟨J, 5, none⟩ (.int .i64 (wrap64 (j.recs + 1)))) J X F (oneJ j l, d, 0) (.returned (.int .i64 0)) := by
  have hs := b4.size
  have hG : ¬ nF (cF F w) w4 J := fun h => h.elim (fun h => hJ h.1) (fun h => by omega)
  unfold oneJ
  rw [if_neg hn]
  refine ⟨rfl, (hB.set (i := 3) (by simp [jC]) _).set (i := 5) (by simp [jC]) _, ?_, ?_⟩
  · exact (pd_setJ (pd_setJ hp hG _) hG _).mono (fun i _ h => h.elim (fun h => .inl h.1) (fun h => .inr (by omega)))
  · have k2 : Kf (fun i => F i ∨ i = J) w w6 := (Kf.of b4 (Nat.le_refl _)).trans (k.mono (fun i h => h.elim (fun h => .inl h.1) .inr))
    exact (k2.set (X := J) (.inr rfl) _).set (X := J) (.inr rfl) _
theorem ja_put {w w4 w6 : World} {J X : Nat} {F : Nat → Prop} {d : Dk} {j : Jm} {e : Int} (hB : Bn w6 J (jC X j)) (hp : PD w6 X (nF (cF F w) w4) d) (b4 : Below w.heap.size w w4) (k : Kf (fun i => cF F w i ∨ i = J) w4 w6) : JaOut w w6 J X F (j, d, e) (.returned (.int .i64 e)) := by
  have hs := b4.size
  exact ⟨rfl, hB, hp.mono (fun i _ h => h.elim (fun h => .inl h.1) (fun h => .inr (by omega))), (Kf.of b4 (Nat.le_refl _)).trans (k.mono (fun i h => h.elim (fun h => .inl h.1) .inr))⟩
set_option maxHeartbeats 8000000 in
theorem japp_any {w : World} {J X : Nat} {F : Nat → Prop} {d : Dk} {j : Jm} {v : Value} {b : List Int} {k u : Nat} (hB : Bn w J (jC X j)) (hJ : ¬ F J) (hp : PD w X F d) (ok : Ok d k u) (hk : k + 1 ≤ 100000) (hu : u + 20000 ≤ 1000000) (hr : Rd w v b) (hpl : (Lit.int .i64 (plJ j)).wf = true) :
    Calls Try.prog 14 #[.pointer (some ⟨J, 0, none⟩), v] w fun e w' => JaOut w w' J X F (appJ j d b) e := by
  have hrd := jready_any hB
  obtain ⟨va, vc, rfl, _⟩ := id hr
  unfold appJ
  by_cases ho : j.over = true
  · rw [if_pos ho] at hrd ⊢
    have HS := hideD (ja_same hB hp (Below.refl _ _) 8)
    clear hB hp ok hr ho
    go_enter Try.func14, Try.ntmps14
    go_wp2_with (first
      | (go_at_call 39; refine hrd.mono ?_; rintro e w2 ⟨rfl, rfl⟩; clear hrd)
      | fail)
    go_ret
    exact HS.out
  rw [if_neg ho] at hrd ⊢
  have hse := jsealed_any hr
  obtain ⟨sj, hsj⟩ : ∃ s, sealJ b = s := ⟨_, rfl⟩
  have hsl : (sealJ b).1.length ≤ 20000 := by
    unfold sealJ
    split
    · simp
    · split
      · simp
      · rw [rcd_length]
        simp only [List.length_cons]
        omega
  rw [hsj] at hse hsl ⊢
  obtain ⟨sb, se⟩ := sj
  simp only at hse hsl ⊢
  by_cases h0 : se = 0
  case neg =>
    rw [if_pos h0]
    have HS := hideD (show ∀ w', Below w.heap.size w w' → JaOut w w' J X F (j, d, se) (.returned (.int .i64 se)) from fun w' hb => ja_same hB hp hb se)
    clear hB hp ok hr ho hsj hsl
    go_enter Try.func14, Try.ntmps14
    go_wp2_with (first
      | (go_at_call 39; refine hrd.mono ?_; rintro e w2 ⟨rfl, rfl⟩; clear hrd)
      | (go_at_call 40; refine hse.mono ?_; rintro e w3 ⟨uv, rfl, o3, b3⟩; clear hse; have HB3 := hideD b3; clear o3 b3)
      | fail)
    go_ret
    exact HS.out _ HB3.out
  subst h0
  rw [if_neg (by simp)]
  have hplc := fun w3 (b3 : Below w.heap.size w w3) => jplace_any (hB.on b3)
  obtain ⟨n, hn⟩ : ∃ n, plJ j = n := ⟨_, rfl⟩
  rw [hn] at hplc hpl ⊢
  by_cases hf : n < 0 ∨ 4000 ≤ IntKind.i64.wrap (n - j.first)
  · rw [if_pos hf]
    have hput := fun w4 (b4 : Below w.heap.size w w4) v4 => jput_full (v := v4) (hB.on b4) hf
    have HS := hideD (show ∀ w', Below w.heap.size w w' → JaOut w w' J X F (j, d, 7) (.returned (.int .i64 7)) from fun w' hb => ja_same hB hp hb 7)
    clear hB hp ok hr ho hsj hf hsl
    go_enter Try.func14, Try.ntmps14
    go_wp2_with (first
      | (go_at_call 39; refine hrd.mono ?_; rintro e w2 ⟨rfl, rfl⟩; clear hrd)
      | (go_at_call 40; refine hse.mono ?_; rintro e w3 ⟨uv, rfl, o3, b3⟩; clear hse; have hpc := hplc _ b3; have HB3 := hideD b3; clear o3 b3)
      | (go_at_call 41; refine hpc.mono ?_; rintro e w4 ⟨rfl, b4⟩; clear hpc; have hb5 := HB3.out.trans (b4.mono HB3.out.size); have hpt := fun v4 => hput _ hb5 v4; have HB5 := hideD hb5; clear b4 hb5)
      | (go_at_call 42; refine (hpt _).mono ?_; rintro e w5 ⟨rfl, rfl⟩; clear hpt)
      | fail)
    go_ret
    exact HS.out _ HB5.out
  rw [if_neg hf]
  have hput := fun w4 (b4 : Below w.heap.size w w4) u4 (o4 : Own w4 w.heap.size 5 u4 sb) => jput_any (F := cF F w) (v := u4) (hB.on b4) (fun h => hJ h.1) (hp.clip.on b4) ok hk (by omega) hpl (fun w1 k1 => (ownD_keep o4 (fun g hg => k1.block g (ownsRow_lt o4 g hg).2 (fun h => by have := ownsRow_lt o4 g hg; have := h.2; omega))).rd) hf
  have hJl := hB.lt
  obtain ⟨r, hrr⟩ : ∃ r, putJ d n sb = r := ⟨_, rfl⟩
  rw [hrr] at hput ⊢
  obtain ⟨d5, e5⟩ := r
  simp only at hput ⊢
  have HPUT := hideD hput
  by_cases h5 : e5 = 0
  case neg =>
    rw [if_pos h5]
    clear hB hp ok hr ho hsj hf hsl hrr hput
    go_enter Try.func14, Try.ntmps14
    go_wp2_with (first
      | (go_at_call 39; refine hrd.mono ?_; rintro e w2 ⟨rfl, rfl⟩; clear hrd)
      | (go_at_call 40; refine hse.mono ?_; rintro e w3 ⟨uv, rfl, o3, b3⟩; clear hse; have hpc := hplc _ b3; have HB3 := hideD b3; have HO3 := hideD o3; clear o3 b3)
      | (go_at_call 41; refine hpc.mono ?_; rintro e w4 ⟨rfl, b4⟩; clear hpc; have hpt := HPUT.out _ (HB3.out.trans (b4.mono HB3.out.size)) uv (ownD_keep HO3.out (fun g hg => b4.block g (ownsRow_lt HO3.out g hg).2)); have HB5 := hideD (HB3.out.trans (b4.mono HB3.out.size)); clear b4)
      | (go_at_call 42; refine hpt.mono ?_; rintro e w6 ⟨rfl, q1, q2, q3⟩; clear hpt; have HQ := hideD (ja_put q1 q2 HB5.out q3 (e := e5)); clear q1 q2 q3)
      | fail)
    go_ret
    exact HQ.out
  subst h5
  rw [if_neg (by simp)]
  have hnxt : ∀ w6 o, Bn w6 J (jC X { j with over := o }) → Calls Try.prog 43 #[.pointer (some ⟨J, 0, none⟩)] w6 fun e w' => e = .returned (.int .i64 (nxJ j)) ∧ Below w6.heap.size w6 w' := fun w6 o h => jnext_any (j := { j with over := o }) h
  have hfr := fun w4 w6 l h1 h2 h3 h4 h5 => ja_fresh (w := w) (w4 := w4) (w6 := w6) (J := J) (X := X) (F := F) (d := d5) (j := j) (l := l) h1 h2 h3 h4 hJ hJl h5
  have hth := fun w4 w6 l h1 h2 h3 h4 h5 => ja_there (w := w) (w4 := w4) (w6 := w6) (J := J) (X := X) (F := F) (d := d5) (j := j) (l := l) h1 h2 h3 h4 hJ hJl h5
  rw [hn] at hfr hth
  obtain ⟨nx, hnxe⟩ : ∃ q, nxJ j = q := ⟨_, rfl⟩
  rw [hnxe] at hnxt hfr hth
  have HNX := hideD hnxt
  by_cases hx : n = nx
  · subst hx
    have HFR := hideD hfr
    clear hB hp ok hr ho hsj hf hsl hrr hput hn hJ hnxe hnxt hfr hth
    go_enter Try.func14, Try.ntmps14
    go_wp2_with (first
      | (go_at_call 39; refine hrd.mono ?_; rintro e w2 ⟨rfl, rfl⟩; clear hrd)
      | (go_at_call 40; refine hse.mono ?_; rintro e w3 ⟨uv, rfl, o3, b3⟩; clear hse; have hpc := hplc _ b3; have HB3 := hideD b3; obtain ⟨ua, uc, rfl, _, _⟩ := slice_form o3; have HO3 := hideD o3; clear o3 b3)
      | (go_at_call 41; refine hpc.mono ?_; rintro e w4 ⟨rfl, b4⟩; clear hpc; have hpt := HPUT.out _ (HB3.out.trans (b4.mono HB3.out.size)) _ (ownD_keep HO3.out (fun g hg => b4.block g (ownsRow_lt HO3.out g hg).2)); have HB5 := hideD (HB3.out.trans (b4.mono HB3.out.size)); clear b4)
      | (go_at_call 42; refine hpt.mono ?_; rintro e w6 ⟨rfl, q1, q2, q3⟩; clear hpt; have hnx := HNX.out _ _ q1; have HQ := hideD (⟨q1, q2, q3⟩ : _ ∧ _ ∧ _); clear q1 q2 q3)
      | (go_at_call 43; refine hnx.mono ?_; rintro e w7 ⟨rfl, b7⟩; clear hnx; have hb7 := HQ.out.1.on b7; obtain ⟨y2, g2⟩ := hb7 2 _ rfl; obtain ⟨y3, g3⟩ := hb7 3 _ rfl; obtain ⟨y4, g4⟩ := hb7 4 _ rfl; obtain ⟨y5, g5⟩ := hb7 5 _ rfl; have HE := hideD (HFR.out w4 w7 (sb.length : Int) hb7 (HQ.out.2.1.on b7) HB5.out (HQ.out.2.2.trans (Kf.of b7 (Nat.le_refl _))) (by simp)); clear hb7 b7)
      | fail)
    go_ret
    exact HE.out
  · have HTH := hideD hth
    clear hB hp ok hr ho hsj hf hsl hrr hput hn hJ hnxe hnxt hfr hth
    go_enter Try.func14, Try.ntmps14
    go_wp2_with (first
      | (go_at_call 39; refine hrd.mono ?_; rintro e w2 ⟨rfl, rfl⟩; clear hrd)
      | (go_at_call 40; refine hse.mono ?_; rintro e w3 ⟨uv, rfl, o3, b3⟩; clear hse; have hpc := hplc _ b3; have HB3 := hideD b3; obtain ⟨ua, uc, rfl, _, _⟩ := slice_form o3; have HO3 := hideD o3; clear o3 b3)
      | (go_at_call 41; refine hpc.mono ?_; rintro e w4 ⟨rfl, b4⟩; clear hpc; have hpt := HPUT.out _ (HB3.out.trans (b4.mono HB3.out.size)) _ (ownD_keep HO3.out (fun g hg => b4.block g (ownsRow_lt HO3.out g hg).2)); have HB5 := hideD (HB3.out.trans (b4.mono HB3.out.size)); clear b4)
      | (go_at_call 42; refine hpt.mono ?_; rintro e w6 ⟨rfl, q1, q2, q3⟩; clear hpt; have hnx := HNX.out _ _ q1; have HQ := hideD (⟨q1, q2, q3⟩ : _ ∧ _ ∧ _); clear q1 q2 q3)
      | (go_at_call 43; refine hnx.mono ?_; rintro e w7 ⟨rfl, b7⟩; clear hnx; have hb7 := HQ.out.1.on b7; obtain ⟨y3, g3⟩ := hb7 3 _ rfl; obtain ⟨y5, g5⟩ := hb7 5 _ rfl; have HE := hideD (HTH.out w4 w7 (sb.length : Int) hb7 (HQ.out.2.1.on b7) HB5.out (HQ.out.2.2.trans (Kf.of b7 (Nat.le_refl _))) hx); clear hb7 b7)
      | fail)
    go_ret
    exact HE.out

theorem wpList_pushJ {α : Type} {P : Program} (w : World) {ops : Array Oper} {rest : List Oper} {o : Oper} {a : Act} {Q : Exit → Act → World → Prop} (hgd : o.guard = none) (s x : Operand) (t : TypeId)
    (ho : o.op = .call { callee := .builtin .append, args := #[s, x], argTypes := #[t, t] })
    (base : Nat) (e : TypeId) (i : TypeInfo) (z : Value) (k bytes : Nat) (ht : P.underlying t = some (.slice e)) (hi : P.info? e = some i) (hz : i.zero = some z)
    (hsize : i.size = k) (hby : i.bytes = bytes) (hzs : z.cells.size = k) {R : (Nat → Prop) → World → α → List Value → Prop} (hR : Kp R)
    (v : Value) (l : List α) (p : α) (cs : List Value) (lo : Nat) (hs : a.eval s = v) (hx : a.eval x = .slice (some ⟨w.heap.size, 0, none⟩) 1 1) (hk : cs.length = k) (h1 : ∀ u ∈ cs, u.oneCell' = true)
    (hown : OwnK w base e k R v l) (hp : R (fun b => lo ≤ b) w p cs) (hlo : base ≤ lo) (hv : ∀ x, v.ownBlock = some x → x < lo) (hroom : (l.length + 1 + (l.length + 1) / 4 + 192) * bytes ≤ 281474976710656)
    (h63 : l.length + 1 ≤ maxLen) (hbase : base ≤ w.heap.size)
    (h : ∀ v' w', OwnK w' base e k R v' (l ++ [p]) → (w.alloc (.cells cs.toArray e)).grownBy w' v.ownBlock → Below base w w' → wpList P ops Q rest (a.put o.dst v') w') :
    wpList P ops Q (o :: rest) a (w.alloc (.cells cs.toArray e)) := by
  have hal : Below w.heap.size w (w.alloc (.cells cs.toArray e)) := (Below.refl _ _).alloc (Nat.le_refl _) _
  obtain ⟨qs, ho1, hl1, hr1⟩ := hown.on hR hal
  refine wpList_append_at _ hgd s x t t ho base e i z k bytes ht hi hz hsize hby hzs v l.length qs.flatten hs ho1 _ 1 cs hx (src_row ht w cs hk h1) 1 (.inr hroom) (Nat.le_refl _) h63 (Nat.le_trans hbase hal.size) ?_
  intro v' w' hown' hg hat
  refine h v' w' (OwnK.snoc hR hk rfl ho1 hl1 hr1 hown' hg hat (hR hp (fun b hb hlt => ⟨hb, hal.block b hlt⟩)) hlo hv) hg ?_
  exact ((Below.refl base w).alloc hbase _).grown hg (Nat.le_trans hbase hal.size) (fun k hk => (World.ownsRow.lt ho1 k hk).1)
/-- A segment as it was read: its number, how many bytes it has, what is read of it. -/
abbrev SgT := Int × Nat × SgM
def rSg (ok : Nat → Prop) (w : World) (x : SgT) (cs : List Value) : Prop := ∃ rv, cs = sgC x.1 (x.2.1 : Int) rv x.2.2 ∧ RdK ok w 1 (rBy ok w) x.2.2.recs rv
theorem kp_Sg : Kp rSg := by
  intro ok ok' w w' x cs h hk
  obtain ⟨rv, h1, h2⟩ := h
  exact ⟨rv, h1, h2.stay kp_By hk⟩
def sgsM (L : List (Int × Sm)) : List SgT := L.map fun x => (x.1, x.2.1.length, jPrsB x.2.1)
def ByD (d : Dk) : Prop := ∀ x ∈ d.L, ∀ b ∈ x.2.1, 0 ≤ b ∧ b ≤ 255
theorem inf_seg : (Try.prog.info? 78).map (fun i => (i.zero, i.size, i.bytes)) = some (some (.agg #[.int .i64 0, .int .i64 0, .slice none 0 0, .bool false, .bool false, .bool false, .bool false]), 7, 48) := by kernel_rfl
theorem ownK_lt {α : Type} {w : World} {b e k : Nat} {R : (Nat → Prop) → World → α → List Value → Prop} {v : Value} {l : List α} (h : OwnK w b e k R v l) : ∀ x, v.ownBlock = some x → b ≤ x ∧ x < w.heap.size := by
  obtain ⟨qs, h1, _⟩ := h
  exact ownsRow_lt h1
theorem ownK_low {w : World} {b b' : Nat} {v : Value} {l : List SgT} (h : OwnK w b 78 7 rSg v l) (hb : b' ≤ b) : OwnK w b' 78 7 rSg v l := by
  obtain ⟨qs, h1, h2, h3⟩ := h
  refine ⟨qs, ?_, h2, fun i hi hi' => ⟨(h3 i hi hi').1, kp_Sg (h3 i hi hi').2 (fun k hk _ => ⟨⟨Nat.le_trans hb hk.1, hk.2⟩, rfl⟩)⟩⟩
  refine ⟨h1.1, ?_⟩
  rcases h1.2 with hn | ⟨g, cap, cur, e1, e2, e3⟩
  · exact .inl hn
  · exact .inr ⟨g, cap, cur, e1, Nat.le_trans hb e2, e3⟩
/-- What reading all answers. -/
def rdA (d : Dk) : Int := if d.dead = true ∧ d.L ≠ [] then 8 else 0
def RaOut (w w' : World) (d : Dk) (e : Ending) : Prop := ∃ v, e = .returned (.tuple #[v, .int .i64 (rdA d)]) ∧ (rdA d = 0 → OwnK w' w.heap.size 78 7 rSg v (sgsM d.L)) ∧ Below w.heap.size w w'
set_option maxHeartbeats 8000000 in
theorem jreadAll_any {w : World} {X : Nat} {F : Nat → Prop} {d : Dk} {n0 : Nat} (hp : PD w X F d) (ok : Ok d n0 1000000) (hn0 : n0 ≤ 100000) (hby : ByD d) :
    Calls Try.prog 33 #[.pointer (some ⟨X, 0, none⟩)] w fun e w' => RaOut w w' d e := by
  have hsg := dsegs_any hp (by have := ok.len; omega)
  obtain ⟨n, hn⟩ : ∃ k, d.L.length = k := ⟨_, rfl⟩
  rw [hn] at hsg
  have HN := hideD hn
  have hn2 : n ≤ 100000 := by have := ok.len; omega
  have HP := hideD hp
  have HK := hideD ok
  have HY := hideD hby
  obtain ⟨io, hio, hio0, hio1, hio2⟩ := inf_getJ inf_seg
  clear hn hp ok hby
  go_enter Try.func33, Try.ntmps33
  go_upto_region 3 with (first
    | (go_at_call 30; refine hsg.mono ?_; rintro e w1 ⟨⟨sv, rfl, ho⟩, b1⟩; clear hsg; obtain ⟨sa, sc, rfl, hsl, hsm⟩ := dorow_form ho)
    | fail)
  have HO := hideD ho
  have HP1 := hideD (HP.out.on b1)
  have HB1 := hideD b1
  have HR0 := hideD (show OwnK w1 w1.heap.size 78 7 rSg (.slice none 0 0) ([] : List SgT) from ownK_nil _ _ _ _ _)
  have HBB := hideD (Below.refl w1.heap.size w1)
  clear ho b1
  go_loopw [4, 12] (fun rv0 ix wr => ∃ (j : Nat), j ≤ n ∧ ix = .int .i64 (j : Int) ∧ Hid (OwnK wr w1.heap.size 78 7 rSg rv0 ((sgsM d.L).take j)) ∧ Hid (Below w1.heap.size w1 wr) ∧ Hid (d.dead = true → j = 0)) (fun _ ix _ => n - (RowKit.intOf ix).toNat)
  case atStart => exact ⟨0, Nat.zero_le _, rfl, HR0, HBB, hideD (fun _ => rfl)⟩
  case round =>
    obtain ⟨j, hj, rfl, HR, HBj, HD⟩ := hrel
    by_cases hlt : j < n
    · have hjl : j < d.L.length := by rw [HN.out]; exact hlt
      have hPr := HP1.out.on HBj.out
      have hwf := (HK.out.s _ (List.getElem_mem hjl)).2
      have hlk := lk_of HK.out.r (show ((d.L[j]).1, (d.L[j]).2) ∈ d.L from List.getElem_mem hjl)
      obtain ⟨gs, rfl⟩ : ∃ gs, sa = some ⟨gs, 0, none⟩ := by
        rcases HO.out.2 with ⟨e, h0⟩ | ⟨gs, cap, cur, e, _⟩
        · have := HN.out
          omega
        · simp only [Value.slice.injEq] at e
          exact ⟨gs, e.1⟩
      have hgb := World.ownsRow.lt HO.out gs rfl
      have cj := World.ownsRow.cells HO.out (g := gs) rfl j (.int .i64 (d.L[j]).1) (by simp [hjl])
      rw [add_plain, Nat.zero_add] at cj
      have Cj := (HBj.out.cell (p := ⟨gs, j, none⟩) hgb.2).trans cj
      have hrd := dread_any hPr HK.out.us hwf
      have hred : redD d (d.L[j]).1 = if d.dead = true then ([], 8) else ((d.L[j]).2.1, 0) := by
        unfold redD
        rw [hlk]
      have hbs := HY.out _ (List.getElem_mem hjl)
      have hbl := Nat.le_trans (usM_mem (List.getElem_mem hjl)) HK.out.us
      have htk : (sgsM d.L).take (j + 1) = (sgsM d.L).take j ++ [((d.L[j]).1, (d.L[j]).2.1.length, jPrsB (d.L[j]).2.1)] := by
        unfold sgsM
        rw [List.take_succ_eq_append_getElem (by simpa using hjl)]
        simp
      have hne : d.L ≠ [] := fun e => by rw [e] at hjl; simp at hjl
      rw [hred] at hrd
      obtain ⟨x, hx⟩ : ∃ k, d.L[j] = k := ⟨_, rfl⟩
      rw [hx] at Cj hrd hbs hbl htk
      obtain ⟨nn, sb, sn⟩ := x
      simp only at Cj hrd hbs hbl htk
      have HTK := hideD htk
      have HNE := hideD hne
      have i1 : (j : Int) < (n : Int) := by omega
      have i2 : (0 : Int) ≤ (j : Int) := by omega
      clear hlk hx hwf hred cj htk hne hPr
      by_cases hd : d.dead = true
      · rw [if_pos hd] at hrd
        have hra : rdA d = 8 := by unfold rdA; rw [if_pos ⟨hd, HNE.out⟩]
        have HRA := hideD hra
        clear hra hd
        go_wp2_with (first
          | (go_at_call 31; refine hrd.mono ?_; rintro e w3 ⟨⟨v3, rfl, o3⟩, b3⟩; clear hrd; have HB3 := hideD b3; clear o3 b3)
          | fail)
        go_ret2
        refine ⟨.slice none 0 0, (show Ending.returned (.tuple #[.slice none 0 0, .int .i64 8]) = .returned (.tuple #[.slice none 0 0, .int .i64 (rdA d)]) by rw [HRA.out]), (fun h => by rw [HRA.out] at h; cases h), ?_⟩
        have hbz := HBj.out.trans (HB3.out.mono HBj.out.size)
        exact HB1.out.trans (hbz.mono HB1.out.size)
      · rw [if_neg hd] at hrd
        have HND := hideD hd
        clear hd
        go_upto_region 8 with (first
          | (go_at_call 31; refine hrd.mono ?_; rintro e w3 ⟨⟨v3, rfl, o3⟩, b3⟩; clear hrd)
          | fail)
        have hpa := jparsed_any nn o3.rd hbs hbl
        have hOw := HR.out.on kp_Sg b3
        have hB3 := HBj.out.trans (b3.mono HBj.out.size)
        obtain ⟨ra, rc, rfl, _, _⟩ := id hOw.form
        obtain ⟨lt, hlt'⟩ : ∃ k, ((sgsM d.L).take j).length = k := ⟨_, rfl⟩
        have hlt2 : lt ≤ 100000 := by rw [← hlt', List.length_take]; omega
        rw [hlt'] at hOw
        have HOw := hideD hOw
        have HB3 := hideD hB3
        have HLT := hideD hlt'
        rw [hlt'] at ⊢
        clear hOw hB3 o3 b3 hlt'
        go_wp2_with (first
          | (go_at_call 61; refine hpa.mono ?_; rintro e w4 ⟨rv', rfl, h41, h42⟩; clear hpa; have hO4 := HOw.out.on kp_Sg h42; have hB4 := HB3.out.trans (h42.mono HB3.out.size); obtain ⟨qa, qc, rfl, _, _⟩ := id h41.form)
          | (at_builtin; go_loud (refine wpList_pushJ w4 rfl _ _ 70 rfl w1.heap.size 78 io (.agg #[.int .i64 0, .int .i64 0, .slice none 0 0, .bool false, .bool false, .bool false, .bool false]) 7 48 Try.underlying70 hio hio0 hio1 hio2 rfl kp_Sg (.slice ra lt rc) ((sgsM d.L).take j) (nn, sb.length, jPrsB sb) [.int .i64 nn, .int .i64 (sb.length : Int), .slice qa (jPrsB sb).recs.length qc, .bool (jPrsB sb).begun, .bool (jPrsB sb).ended, .bool (jPrsB sb).torn, .bool (jPrsB sb).wrong] w3.heap.size rfl rfl rfl (by simp [Value.oneCell']) hO4 ⟨_, rfl, h41.rd kp_By⟩ HB3.out.size (fun x hx => ((ownK_lt HOw.out) x hx).2) (by rw [HLT.out]; omega) (by unfold maxLen; rw [HLT.out]; omega) hB4.size ?_); intro vb wb hOb hgb hbb; have HOB := hideD hOb; have HBB2 := hideD hbb; have HB4 := hideD hB4; clear hOb hgb hbb hO4 hB4 h41 h42)
          | fail)
        go_roundw
        case rel =>
          refine ⟨j + 1, hlt, by go_num, ?_, hideD (HB4.out.trans HBB2.out), hideD (fun h => absurd h HND.out)⟩
          rw [HTK.out]
          exact HOB
        case measure => simp [RowKit.intOf]; omega
    · have k1 : ¬ (j : Int) < (n : Int) := by omega
      obtain rfl : j = n := by omega
      have hra : rdA d = 0 := by
        unfold rdA
        rw [if_neg (fun h => by
          have h1 := HD.out h.1
          have h2 := HN.out
          exact h.2 (List.eq_nil_of_length_eq_zero (by omega)))]
      have HRA := hideD hra
      have HTA := hideD (show (sgsM d.L).take j = sgsM d.L from List.take_of_length_le (by simp [sgsM, HN.out]))
      clear hra
      go_wp2
      go_ret2
      refine ⟨_, congrArg (fun k => Ending.returned (.tuple #[_, .int .i64 k])) HRA.out.symm, fun _ => ?_, HB1.out.trans (HBj.out.mono HB1.out.size)⟩
      have h := HR.out
      rw [HTA.out] at h
      exact ownK_low h HB1.out.size

/-- The last one that is a replacement. -/
def bsB : Nat → Nat → List SgT → Nat
  | b, _, [] => b
  | b, i, x :: r => bsB (if x.2.2.ended = true then i else b) (i + 1) r
abbrev RdSg (w : World) (L : List SgT) (v : Value) : Prop := RdK (fun _ => True) w 7 (rSg (fun _ => True) w) L v
theorem RdSg.on {w w' : World} {L : List SgT} {v : Value} (h : RdSg w L v) (hb : Below w.heap.size w w') : RdSg w' L v := RdK.stay kp_Sg h (fun b _ hlt => ⟨trivial, hb.block b hlt⟩)
/-- A segment's cells, in a row of them. -/
theorem RdSg.at {w : World} {L : List SgT} {a : Option Addr} {k c : Nat} (h : RdSg w L (.slice a k c)) {i : Nat} (hi : i < L.length) : ∃ b off ra rc, a = some ⟨b, off, none⟩ ∧ b < w.heap.size ∧
    w.cell? ⟨b, off + i * 7, none⟩ = some (.int .i64 (L[i]).1) ∧ w.cell? ⟨b, off + i * 7 + 1, none⟩ = some (.int .i64 ((L[i]).2.1 : Int)) ∧ w.cell? ⟨b, off + i * 7 + 2, none⟩ = some (.slice ra (L[i]).2.2.recs.length rc) ∧
    w.cell? ⟨b, off + i * 7 + 3, none⟩ = some (.bool (L[i]).2.2.begun) ∧ w.cell? ⟨b, off + i * 7 + 4, none⟩ = some (.bool (L[i]).2.2.ended) ∧ w.cell? ⟨b, off + i * 7 + 5, none⟩ = some (.bool (L[i]).2.2.torn) ∧ w.cell? ⟨b, off + i * 7 + 6, none⟩ = some (.bool (L[i]).2.2.wrong) ∧
    RdK (fun _ => True) w 1 (rBy (fun _ => True) w) (L[i]).2.2.recs (.slice ra (L[i]).2.2.recs.length rc) := by
  obtain ⟨a', cap, e, _, _, hcell⟩ := h
  simp only [Value.slice.injEq] at e
  obtain ⟨rfl, _, rfl⟩ := e
  obtain ⟨b, off, cs, h1, _, h2, _, ⟨rv, h3, h4⟩, h5⟩ := hcell i hi
  obtain ⟨ra, rc, rfl, _, _⟩ := id h4.form
  subst h3
  exact ⟨b, off, ra, rc, h1, h2, h5 0 _ rfl, h5 1 _ rfl, h5 2 _ rfl, h5 3 _ rfl, h5 4 _ rfl, h5 5 _ rfl, h5 6 _ rfl, h4⟩
set_option maxHeartbeats 500000 in
theorem jbase_any {w : World} {L : List SgT} {v : Value} (h : RdSg w L v) (hl : L.length ≤ 100000) : Calls Try.prog 63 #[v] w fun e w' => e = .returned (.int .i64 (bsB 0 0 L : Int)) ∧ Below w.heap.size w w' := by
  obtain ⟨a, c, rfl, hlc, hcm⟩ := id h.form
  unfold maxLen at hcm
  obtain ⟨R, hR⟩ : ∃ R, bsB 0 0 L = R := ⟨_, rfl⟩
  rw [hR]
  obtain ⟨m, hm⟩ : ∃ k, L.length = k := ⟨_, rfl⟩
  have HL := hideD h
  have HM := hideD hm
  have H0 := hideD (show bsB 0 0 (L.drop 0) = R from hR)
  have HB0 := hideD (Below.refl w.heap.size w)
  rw [hm] at hlc hl HL ⊢
  clear h hR hm
  go_enter Try.func63, Try.ntmps63
  go_wp2
  go_loopw [3, 8] (fun rb ix wr => ∃ (j b : Nat), j ≤ m ∧ b ≤ j ∧ ix = .int .i64 (j : Int) ∧ rb = .int .i64 (b : Int) ∧ Hid (bsB b j (L.drop j) = R) ∧ Hid (Below w.heap.size w wr)) (fun _ ix _ => m - (RowKit.intOf ix).toNat)
  case atStart => exact ⟨0, 0, Nat.zero_le _, Nat.le_refl _, rfl, rfl, H0, HB0⟩
  case round =>
    obtain ⟨j, b, hj, hbj, rfl, rfl, HF, HBj⟩ := hrel
    clear H0
    by_cases hlt : j < m
    · have hjl : j < L.length := by rw [HM.out]; exact hlt
      obtain ⟨g, off, ra, rc, rfl, hg, c0, c1, c2, c3, c4, c5, c6, _⟩ := RdSg.at (HL.out.on HBj.out) hjl
      have hfe := HF.out
      rw [List.drop_eq_getElem_cons hjl] at hfe
      unfold bsB at hfe
      obtain ⟨x, hx⟩ : ∃ k, L[j] = k := ⟨_, rfl⟩
      rw [hx] at c0 c1 c2 c3 c4 c5 c6 hfe
      have i1 : (j : Int) < (m : Int) := by omega
      have i2 : (0 : Int) ≤ (j : Int) := by omega
      have HFE := hideD hfe
      have HBN := hideD (HBj.out.alloc HBj.out.size (.cells #[.int .i64 x.1, .int .i64 (x.2.1 : Int), .slice ra x.2.2.recs.length rc, .bool x.2.2.begun, .bool x.2.2.ended, .bool x.2.2.torn, .bool x.2.2.wrong] 78))
      clear hx hfe
      cases he : x.2.2.ended with
      | true =>
        rw [he] at c4 HBN
        have hfe := HFE.out
        rw [he, if_pos rfl] at hfe
        have HF2 := hideD hfe
        clear hfe he HFE
        go_wp2
        go_roundw
        case rel =>
          refine ⟨j + 1, j, hlt, by omega, by go_num, rfl, HF2, ?_⟩
          exact HBN
        case measure => simp [RowKit.intOf]; omega
      | false =>
        rw [he] at c4 HBN
        have hfe := HFE.out
        rw [he, if_neg (by simp)] at hfe
        have HF2 := hideD hfe
        clear hfe he HFE
        go_wp2
        go_roundw
        case rel => exact ⟨j + 1, b, hlt, by omega, by go_num, rfl, HF2, HBN⟩
        case measure => simp [RowKit.intOf]; omega
    · have k1 : ¬ (j : Int) < (m : Int) := by omega
      have hR := HF.out
      have e : L.drop j = [] := List.drop_eq_nil_of_le (by rw [HM.out]; omega)
      rw [e] at hR
      have hR2 : b = R := hR
      subst hR2
      clear HF hR e
      go_wp2
      go_ret
      exact ⟨rfl, HBj.out⟩
end Go.Proofs.Ytajhombbkdlegaa

/- The program's disk: operations on a nil one; the laws' waking. -/
namespace Go.Proofs.Ytajhombbkdlegaa
open Go.RowKit Go.Lib Go.Maps
set_option linter.unusedSimpArgs false
set_option linter.unusedVariables false
attribute [local go_sem ↓] Go.wp_at_zero Go.wp_at_succ

end Go.Proofs.Ytajhombbkdlegaa

/- The journal: Open of an empty disk; the law's waking; JournalNil. -/
namespace Go.Proofs.Ytajhombbkdlegaa
open Go.RowKit Go.Lib Go.Maps
set_option linter.unusedSimpArgs false
set_option linter.unusedVariables false
set_option maxRecDepth 100000
attribute [local go_sem ↓] Go.wp_at_zero Go.wp_at_succ

theorem jwrong_0 {w : World} (a : Option Addr) (c : Nat) : Calls Try.prog 34 #[.slice a 0 c] w fun e w' => e = .returned (.bool false) ∧ w = w' := by
  go_enter Try.func34, Try.ntmps34
  go_wp2
  go_loopw [8] (fun ix wr => ix = .int .i64 0 ∧ w = wr) (fun ix _ => 0)
  case atStart => exact ⟨rfl, rfl⟩
  case round =>
    obtain ⟨rfl, rfl⟩ := hrel
    go_wp2
    go_ret
    exact ⟨rfl, rfl⟩
/-- A row with nothing in it. -/
def Row0 (v : Value) : Prop := v = .slice none 0 0 ∨ ∃ g c, v = .slice (some ⟨g, 0, none⟩) 0 c ∧ c ≤ maxLen
theorem row0_of {w : World} {b : Nat} {v : Value} (h : OwnK w b 78 7 rSg v ([] : List SgT)) : Row0 v := by
  obtain ⟨qs, h1, _⟩ := h
  rcases h1.2 with ⟨h, _⟩ | ⟨g, cap, cur, e, _, _, _, h4, _⟩
  · exact .inl h
  · exact .inr ⟨g, cap, e, h4⟩
theorem row0_form {v : Value} (h : Row0 v) : ∃ a c, v = .slice a 0 c := by
  rcases h with h | ⟨g, c, h, _⟩
  · exact ⟨_, _, h⟩
  · exact ⟨_, _, h⟩
set_option maxHeartbeats 2000000 in
theorem jtidy_0 {w : World} {p v : Value} (hv : Row0 v) : Calls Try.prog 35 #[p, v] w fun e w' => (∃ v', e = .returned (.tuple #[v', .int .i64 0]) ∧ Row0 v') ∧ Below w.heap.size w w' := by
  have hb : ∀ a c, c ≤ maxLen → Calls Try.prog 63 #[.slice a 0 c] w fun e w' => e = .returned (.int .i64 0) ∧ Below w.heap.size w w' := fun a c hc => jbase_any (L := []) ⟨a, c, rfl, Nat.zero_le _, hc, fun i hi => absurd hi (by simp)⟩ (by simp)
  rcases hv with rfl | ⟨g, c, rfl, hc⟩
  · have hb0 := hb none 0 (Nat.zero_le _)
    clear hb
    go_enter Try.func35, Try.ntmps35
    go_wp2_with (first
      | (go_at_call 63; refine hb0.mono ?_; rintro e w2 ⟨rfl, b2⟩; clear hb0; have HB := hideD b2; clear b2)
      | fail)
    go_loopw [43] (fun ix wr => ix = .int .i64 0 ∧ w2 = wr) (fun ix _ => 0)
    case atStart => exact ⟨rfl, rfl⟩
    case round =>
      obtain ⟨rfl, rfl⟩ := hrel
      go_wp2
      go_ret2
      exact ⟨⟨_, rfl, .inl rfl⟩, HB.out⟩
  · have hb0 := hb (some ⟨g, 0, none⟩) c hc
    have HC := hideD hc
    have hc0 : (0 : Int) ≤ (c : Int) := by omega
    clear hb hc
    go_enter Try.func35, Try.ntmps35
    go_wp2_with (first
      | (go_at_call 63; refine hb0.mono ?_; rintro e w2 ⟨rfl, b2⟩; clear hb0; have HB := hideD b2; clear b2)
      | fail)
    go_loopw [43] (fun ix wr => ix = .int .i64 0 ∧ w2 = wr) (fun ix _ => 0)
    case atStart => exact ⟨rfl, rfl⟩
    case round =>
      obtain ⟨rfl, rfl⟩ := hrel
      go_wp2
      go_ret2
      refine ⟨⟨_, rfl, .inr ⟨g, c, ?_, HC.out⟩⟩, HB.out⟩
      first | rfl | (simp; done)
set_option maxHeartbeats 4000000 in
theorem jopen_0 {w : World} {X : Nat} {F : Nat → Prop} {d : Dk} (hp : PD w X F d) (ok : Ok d 0 1000000) (hd : d.dead = false) :
    Calls Try.prog 12 #[.pointer (some ⟨X, 0, none⟩)] w fun e w' => (∃ J, e = .returned (.tuple #[.pointer (some ⟨J, 0, none⟩), .slice none 0 0, .int .i64 0]) ∧ w.heap.size ≤ J ∧ Bn w' J (jC X ⟨0, 0, 0, false, 0, false⟩)) ∧ Below w.heap.size w w' := by
  have hL : d.L = [] := List.eq_nil_of_length_eq_zero (by have := ok.len; omega)
  have hra := jreadAll_any hp ok (by omega) (fun x hx => by rw [hL] at hx; simp at hx)
  have hr0 : rdA d = 0 := by unfold rdA; rw [if_neg (by simp [hd])]
  unfold RaOut at hra
  rw [hr0] at hra
  simp only [forall_const, hL] at hra
  have hw0 := fun W a c => jwrong_0 (w := W) a c
  have ht0 := fun W v h => jtidy_0 (w := W) (p := .pointer (some ⟨X, 0, none⟩)) (v := v) h
  clear hp ok hd hr0 hL
  go_enter Try.func12, Try.ntmps12
  go_upto_region 6 with (first
    | (go_at_call 33; refine hra.mono ?_; rintro e w2 ⟨v2, rfl, o2, b2⟩; clear hra)
    | fail)
  have hR2 := row0_of o2
  obtain ⟨a2, c2, rfl⟩ := row0_form hR2
  have HT2 := hideD (ht0 w2 _ hR2)
  have HB2 := hideD b2
  clear o2 b2 hR2 ht0
  go_upto_region 11 with (first
    | (go_at_call 34; refine (hw0 _ _ _).mono ?_; rintro e w3 ⟨rfl, rfl⟩; clear hw0)
    | (go_at_call 35; refine HT2.out.mono ?_; rintro e w4 ⟨⟨v4, rfl, r4⟩, b4⟩; obtain ⟨a4, c4, rfl⟩ := row0_form r4; have HB4 := hideD (HB2.out.trans (b4.mono HB2.out.size)); clear HT2 b4 r4)
    | fail)
  obtain ⟨w5, hw5⟩ : ∃ k, w4.alloc (.cells #[.pointer (some ⟨X, 0, none⟩), .int .i64 0, .int .i64 0, .int .i64 0, .bool false, .int .i64 0, .bool false] 76) = k := ⟨_, rfl⟩
  have hal : Below w4.heap.size w4 w5 := by rw [← hw5]; exact (Below.refl _ _).alloc (Nat.le_refl _) _
  have hBJ : Bn w5 w4.heap.size (jC X ⟨0, 0, 0, false, 0, false⟩) := by rw [← hw5]; exact Bn.new w4 _ _ _ rfl
  have HB5 := hideD (HB4.out.trans (hal.mono HB4.out.size))
  have HJ4 := hideD HB4.out.size
  have HW5 := hideD hw5
  clear hal hw5
  go_upto_region 14 with fail
  rw [HW5.out]
  obtain ⟨J, hJ⟩ : ∃ k, w4.heap.size = k := ⟨_, rfl⟩
  rw [hJ] at hBJ ⊢
  have HJ := hideD hJ
  have HBJ := hideD hBJ
  obtain ⟨y2, g2⟩ := hBJ 2 _ rfl
  obtain ⟨y5, g5⟩ := hBJ 5 _ rfl
  clear hJ hBJ
  go_loopw [8, 37] (fun rc ix wr => rc = .slice none 0 0 ∧ ix = .int .i64 0 ∧ w5 = wr) (fun _ ix _ => 0)
  case atStart => exact ⟨rfl, rfl, rfl⟩
  case round =>
    obtain ⟨rfl, rfl, rfl⟩ := hrel
    go_wp2
    (try simp only [Exit.inBlock, Exit.then])
    refine bodyPost_ret (results_tmp3 rfl _ _ _) rfl ?_
    have hj := HJ4.out
    rw [HJ.out] at hj
    exact ⟨⟨J, rfl, hj, (HBJ.out.set (i := 2) (by simp [jC]) _).set (i := 5) (by simp [jC]) _⟩, (HB5.out.setCell (p := ⟨J, 2, none⟩) hj _).setCell (p := ⟨J, 5, none⟩) hj _⟩
theorem jk_conv (w : World) (C : Array Value) (n c : Nat) :
    (convert 41 41 (.slice (some ⟨w.heap.size, 0, none⟩) n c)).run Try.prog (w.alloc (.cells C 5)) = .ok (.slice (some ⟨w.heap.size, 0, none⟩) n c) (w.alloc (.cells C 5 (C.size, C.size + 1))) :=
  Lib.run_convert_bytes_const (P := Try.prog) w 41 5 C n c Try.underlying41 Try.underlying5
theorem app_a : appJ ⟨0, 0, 0, false, 0, false⟩ ⟨[], max 1000 0, -1, false⟩ [97] = (⟨0, 1, 8, false, 1, false⟩, ⟨[(0, rcd [0, 97], 8)], 1000, -1, false⟩, 0) := by kernel_rfl
set_option maxHeartbeats 4000000 in
theorem jawake_any (w : World) : Calls Try.prog 8 #[] w fun e w' => e = .returned (.bool true) ∧ Below w.heap.size w w' := by
  have hnew := fun W => dnew_any W 1000
  go_enter Try.func8, Try.ntmps8
  go_upto_region 2 with (first
    | (go_at_call 10; refine (hnew _).mono ?_; rintro e w1 ⟨rfl, p1, b1⟩; clear hnew; have hop := jopen_0 p1 ((ok_new 1000 (by omega)).mono (by omega) (by omega)) rfl)
    | (go_at_call 12; refine hop.mono ?_; rintro e w2 ⟨⟨J, rfl, hJ, hB⟩, b2⟩; clear hop)
    | fail)
  have hX := p1.lt
  have hal : Below w2.heap.size w2 (w2.alloc (.cells #[.int .u8 97] 5 (1, 2))) := (Below.refl _ _).alloc (Nat.le_refl _) _
  have hR : Rd (w2.alloc (.cells #[.int .u8 97] 5 (1, 2))) (.slice (some ⟨w2.heap.size, 0, none⟩) 1 1) [97] := by
    refine ⟨_, _, rfl, by simp, by simp [maxLen], ⟨fun h => by simp at h, fun x hx i hi => ?_⟩⟩
    obtain rfl := Option.some.inj hx
    match i, hi with
    | 0, _ => exact (cell_of_row _ _ 0 _ _ (1, 2) (heap_alloc_new w2 _)).trans rfl
  have hap := japp_any (F := fun j => j = w.heap.size) (hB.on hal) (fun h => by have h : J = w.heap.size := h; omega) ((p1.on b2).on hal) ((ok_new 1000 (by omega)).mono (Nat.zero_le 0) (Nat.zero_le 0)) (by omega) (by omega) hR (by decide)
  rw [app_a] at hap
  have hkv := jk_conv w2 #[.int .u8 97] 1 1
  simp only [List.size_toArray, List.length_cons, List.length_nil, Nat.reduceAdd] at hkv
  have HB := hideD ((b1.trans (b2.mono b1.size)).trans (hal.mono (Nat.le_trans b1.size b2.size)))
  have HX := hideD hX
  have HJ := hideD hJ
  have HS2 := hideD b2.size
  have HS1 := hideD b1.size
  clear p1 b1 b2 hB hal hR hX hJ
  go_wp2_with (first
    | (go_at_call 14; refine hap.mono ?_; rintro e w4 ⟨rfl, q1, q2, q3⟩; clear hap; have hrc := jrecs_any q1; have HK := hideD q3; clear q1 q2 q3)
    | (go_at_call 25; refine hrc.mono ?_; rintro e w5 ⟨rfl, rfl⟩; clear hrc)
    | fail)
  go_ret
  exact ⟨rfl, HB.out.trans (HK.out.below (fun i hi => by have := HX.out; have := HJ.out; have := HS1.out; rcases hi with h | h <;> omega) HB.out.size)⟩
set_option maxHeartbeats 4000000 in
theorem journalNil_walk {w : World} (v : Value) (b : List Int) (hv : Rd w v b) (_hy : ∀ x ∈ b, 0 ≤ x ∧ x ≤ 255) (_hl : b.length ≤ 140737488351232) : Calls Try.prog 7 #[v] w fun e w' => e = .returned (.bool true) ∧ Below w.heap.size w w' := by
  have haw := jawake_any w
  obtain ⟨va, vc, rfl, _⟩ := hv
  have h1 := fun W => jopen_nil W
  have h2 := fun W => japp_nil W (.slice va b.length vc)
  have h3 := fun W u => jrepl_nil W u
  have h4 := fun W => jrecs_nil W
  go_enter Try.func7, Try.ntmps7
  go_wp2_with (first
    | (go_at_call 8; refine haw.mono ?_; rintro e w1 ⟨rfl, b1⟩; clear haw; have HB := hideD b1; clear b1)
    | (go_at_call 12; refine (h1 _).mono ?_; rintro e w2 ⟨rfl, rfl⟩)
    | (go_at_call 14; refine (h2 _).mono ?_; rintro e w2 ⟨rfl, rfl⟩)
    | (go_at_call 17; refine (h3 _ _).mono ?_; rintro e w2 ⟨rfl, rfl⟩)
    | (go_at_call 25; refine (h4 _).mono ?_; rintro e w2 ⟨rfl, rfl⟩)
    | fail)
  go_ret
  exact ⟨rfl, HB.out.alloc HB.out.size _⟩
end Go.Proofs.Ytajhombbkdlegaa

/- An argument that is a slice of bytes, opened: the bytes that it reads as, each from 0 to 255, and their number within the form's reach. -/
namespace Go.Proofs.Ytajhombbkdlegaa
open Go.ChangeShapes Go.WideShapes Go.ChangeAt Go.RowKit

/-- What the datum of a slice of len elements is. -/
def IsSlice {H : Type} (d : DataW H) (len : Nat) : Prop := (d = .nil ∧ len = 0) ∨ ∃ elems spare, d = .slice elems spare ∧ elems.length = len

theorem open_bytes {H : Type} {enc : TypeId × Value → H} {P : Program} {W : World} {t e : TypeId} {a : Option Addr} {len cap : Nat} {d : DataW H} {p : List MemPlace}
    (ht : P.underlying t = some (.slice e)) (he : P.underlying e = some (.int .u8)) (hc : P.cellsOf e = 1) (h : DataW.Trod enc P W 0 (fun _ => true) true t (.slice a len cap) d p) :
    ∃ bs, Rd W (.slice a len cap) bs ∧ (∀ x ∈ bs, 0 ≤ x ∧ x ≤ 255) ∧ bs.length = len ∧ IsSlice d len := by
  obtain ⟨fuel, hf⟩ := h
  rcases open_ints ht he hc hf with ⟨hcs, hx⟩ | ⟨x, l, c, zs, hcs, _, hl, hm, hz, hx, hcell, hwz⟩
  · simp [Value.cells] at hcs
    obtain ⟨rfl, rfl, rfl⟩ := hcs
    simp only [Prod.mk.injEq] at hx
    exact ⟨[], ⟨none, 0, rfl, by simp, by simp [maxLen], by simp, fun x hx => by cases hx⟩, by simp, rfl, .inl ⟨hx.1, rfl⟩⟩
  · simp [Value.cells] at hcs
    obtain ⟨rfl, rfl, rfl⟩ := hcs
    simp only [Prod.mk.injEq] at hx
    have hzc : zs.length = cap := by simpa using hz
    have hlen : (zs.take len).length = len := by rw [List.length_take]; omega
    refine ⟨zs.take len, ⟨some x, cap, by rw [hlen], by omega, hm, by simp, ?_⟩, ?_, hlen, .inr ⟨_, _, hx.1, by simp [lits]; omega⟩⟩
    · intro y hy i hi
      obtain rfl := Option.some.inj hy
      rw [hlen] at hi
      rw [hcell i (by omega)]
      simp [List.getD, hi]
    · intro n hn
      have := hwz n (List.mem_of_mem_take hn)
      simpa [Lit.wf, IntKind.min, IntKind.max, IntKind.signed, IntKind.bits] using this

theorem sized_bytes {H : Type} {P : Program} {ts : List TypeId} {ds : List (DataW H)} (h : (DataW.weightsEach P ts ds).all (· ≤ reachBytes) = true) {j : Nat} {t e : TypeId} {d : DataW H} {len : Nat}
    (ht : ts[j]? = some t) (hd : ds[j]? = some d) (hu : P.underlying t = some (.slice e)) (hb : P.bytesOf e = 1) (hs : IsSlice d len) : len ≤ 140737488351232 := by
  rcases hs with ⟨_, rfl⟩ | ⟨elems, spare, rfl, hl⟩
  · omega
  · have := sized_slice h ht hd hu
    rw [hb] at this
    simp only [reachBytes] at this
    omega

end Go.Proofs.Ytajhombbkdlegaa
