import Derived.Test.YtpblcahcpobicaaXmc06
import Derived.Test.YtpblcahcpobicaaXmc03
import Derived.Deep.RegionLaw
import Derived.Deep.Cut

/- The journal: take. -/
namespace Go.Proofs.Ytpblcahcpobicaa
open Go.RowKit Go.Lib Go.Maps
set_option linter.unusedSimpArgs false
set_option linter.unusedVariables false
attribute [local go_sem ↓] Go.wp_at_zero Go.wp_at_succ

def sgC (n sz : Int) (rv : Value) (s : SgM) : List Value := [.int .i64 n, .int .i64 sz, rv, .bool s.begun, .bool s.ended, .bool s.torn, .bool s.wrong]
theorem inf_bytes : (Try.prog.info? 41).map (fun i => (i.zero, i.size, i.bytes)) = some (some (.slice none 0 0), 1, 24) := by kernel_rfl
theorem inf_getJ {t : TypeId} {z : Value} {a b : Nat} (h : (Try.prog.info? t).map (fun i => (i.zero, i.size, i.bytes)) = some (some z, a, b)) : ∃ i, Try.prog.info? t = some i ∧ i.zero = some z ∧ i.size = a ∧ i.bytes = b := by
  cases hq : Try.prog.info? t with
  | none => rw [hq] at h; cases h
  | some i =>
    rw [hq] at h
    simp only [Option.map_some, Option.some.injEq, Prod.mk.injEq] at h
    exact ⟨i, rfl, h.1, h.2.1, h.2.2⟩
/-- The payload without its first byte. -/
theorem rby_tail {w : World} {lo g c pl : Nat} {p : List Int} (h : Own w lo 5 (.slice (some ⟨g, 0, none⟩) pl c) p) (hpl : p.length = pl) (h2 : 2 ≤ pl) : rBy (fun b => lo ≤ b) w (p.drop 1) [.slice (some ⟨g, 1, none⟩) (pl - 1) (c - 1)] := by
  subst hpl
  have hlt := ownsRow_lt h g rfl
  have hlen : (p.drop 1).length = p.length - 1 := by simp
  have hr := h.rd
  obtain ⟨b', off', cap', e, hc', hm', hcell⟩ := hr.lies (by omega)
  simp only [Value.slice.injEq, Option.some.injEq, Addr.mk.injEq, and_true, true_and] at e
  obtain ⟨⟨rfl, rfl⟩, rfl⟩ := e
  have hp := Rd.part (k := 1) (n := p.length - 1) rfl hcell hc' hm' (by omega)
  rw [if_neg (by omega), List.take_of_length_le (by simp)] at hp
  refine ⟨_, _, by rw [hlen], fun y hy => ?_, by rw [hlen]; exact hp⟩
  obtain rfl := Option.some.inj hy
  exact hlt
set_option maxRecDepth 100000 in
set_option maxHeartbeats 4000000 in
theorem jtake_0 {w : World} {Z base lo pb pc pl : Nat} {n sz : Int} {a : Nat} {s : SgM} {rv : Value} {p : List Int} (hB : Bn w Z (sgC n sz rv s)) (ho : OwnK w base 41 1 rBy rv s.recs) (hZ : Z < base) (hbs : base ≤ w.heap.size)
    (hp : Own w lo 5 (.slice (some ⟨pb, 0, none⟩) pl pc) p) (hlo : base ≤ lo) (hrv : ∀ x, rv.ownBlock = some x → x < lo) (hbn : s.recs.length ≤ 1000000) (h0 : p.getD 0 0 = 0) (hpl : p.length = pl) (h2 : 2 ≤ pl) :
    Calls Try.prog 74 #[.pointer (some ⟨Z, 0, none⟩), .slice (some ⟨pb, 0, none⟩) pl pc, .int .i64 (a : Int)] w fun e w' => e = .returned (.bool true) ∧
      ∃ rv', Bn w' Z (sgC n sz rv' { s with recs := s.recs ++ [p.drop 1] }) ∧ OwnK w' base 41 1 rBy rv' (s.recs ++ [p.drop 1]) ∧ Kf (fun j => j = Z ∨ base ≤ j) w w' := by
  obtain ⟨ra, rc, rfl, hrl, hrm⟩ := ho.form
  obtain ⟨z2, f2⟩ := hB 2 _ rfl
  have hpc := ownsRow_lt hp pb rfl
  have hcell := World.ownsRow.cells hp (g := pb) rfl 0 (.int .u8 0) (by
    rw [List.getElem?_map, List.getElem?_eq_getElem (by omega)]
    rw [List.getD_eq_getElem?_getD, List.getElem?_eq_getElem (by omega)] at h0
    simpa using h0)
  rw [add_plain, Nat.zero_add] at hcell
  have htl := rby_tail hp hpl h2
  have hcap : pl ≤ pc := by
    have := hp.2
    rcases this with ⟨e, _⟩ | ⟨g, cap, cur, e, _, _, h3, _⟩
    · simp at e
    · simp only [Value.slice.injEq] at e
      omega
  have e1 : ¬ (pl : Int) = 1 := by omega
  have e2 : ((pl : Int) == 1) = false := by simp; omega
  have e3 : ¬ pc = 1 := by omega
  have i1 : (1 : Int) ≤ (pl : Int) := by omega
  have i2 : (0 : Int) < (pl : Int) := by omega
  have i3 : (pl : Int) ≤ (pc : Int) := by omega
  obtain ⟨ib, hi, hi0, hi1, hi2⟩ := inf_getJ inf_bytes
  obtain ⟨k, hk⟩ : ∃ k, s.recs.length = k := ⟨_, rfl⟩
  have hal : Below w.heap.size w.drew (w.drew.alloc (.cells #[.slice (some ⟨pb, 1, none⟩) (pl - 1) (pc - 1)] 41))  := (Below.refl w.heap.size w.drew).alloc (Nat.le_refl _) _
  have hZw : Z < w.heap.size := by omega
  have z2d : w.drew.cell? ⟨Z, 2, none⟩ = some (.slice ra s.recs.length rc) := z2
  have z2a : (w.drew.alloc (.cells #[.slice (some ⟨pb, 1, none⟩) (pl - 1) (pc - 1)] 41)).cell? ⟨Z, 2, none⟩ = some (.slice ra s.recs.length rc) := (hal.cell (p := ⟨Z, 2, none⟩) hZw).trans z2
  rw [hk] at z2 z2d z2a hbn
  have HK := hideD hk
  have HO := hideD ho
  have HP := hideD htl
  have HB := hideD hB
  have HRV := hideD hrv
  have HPL := hideD hpl
  clear hk ho htl hB hrv hpl hp h0 hal hcap hpc
  go_enter Try.func74, Try.ntmps74
  go_upto_region 4 with fail
  go_region_law (first
    | (rw [← HK.out]; refine step_push w.drew (by rfl) (.tmp 26) (.tmp 29) 30 (by rfl) base 41 ib (.slice none 0 0) 1 24 Try.underlying30 hi hi0 hi1 hi2 rfl kp_By (.slice ra s.recs.length rc) s.recs (p.drop 1) [.slice (some ⟨pb, 1, none⟩) (pl - 1) (pc - 1)] lo (by rfl) (by rfl) rfl (by simp [Value.oneCell']) (HO.out.on kp_By (Below.refl _ _).drew) HP.out hlo HRV.out (by have := HK.out; omega) (by unfold maxLen; have := HK.out; omega) hbs ?_; intro v1 wb hO1 hg1 hb1; obtain ⟨a1, c1, rfl, _, _⟩ := hO1.form; rw [List.length_append, List.length_singleton] at hO1; have hBb := HB.out.blk (hb1.block Z hZ); obtain ⟨z3, f3⟩ := hBb 2 _ rfl; have HO1 := hideD hO1; have HBB := hideD hBb; have HB1 := hideD hb1; clear hO1 hg1 hb1 hBb)
    | fail)
  all_goals (
    go_wp2
    go_ret
    refine ⟨rfl, _, HBB.out.set (i := 2) (by simp [sgC]) _, HO1.out.set kp_By hZ _, ?_⟩
    have h := HB1.out
    have kf : Kf (fun j => j = Z ∨ base ≤ j) w wb := ⟨h.os, h.tape, h.output, h.size, fun j hj hn => h.block j (Nat.lt_of_not_le (fun e => hn (Or.inr e)))⟩
    exact kf.set (X := Z) (Or.inl rfl) _)
/-- The payload's first byte, in memory. -/
theorem own_head {w : World} {lo g c pl : Nat} {p : List Int} (h : Own w lo 5 (.slice (some ⟨g, 0, none⟩) pl c) p) (h1 : 1 ≤ p.length) : w.cell? ⟨g, 0, none⟩ = some (.int .u8 (p.getD 0 0)) := by
  have hcell := World.ownsRow.cells h (g := g) rfl 0 (.int .u8 (p.getD 0 0)) (by
    rw [List.getElem?_map, List.getElem?_eq_getElem (by omega), List.getD_eq_getElem?_getD, List.getElem?_eq_getElem (by omega)]
    rfl)
  rwa [add_plain, Nat.zero_add] at hcell
set_option maxRecDepth 100000 in
set_option maxHeartbeats 4000000 in
theorem jtake_1 {w : World} {Z lo pb pc : Nat} {n sz : Int} {s : SgM} {rv : Value} {p : List Int} (hB : Bn w Z (sgC n sz rv s))
    (hp : Own w lo 5 (.slice (some ⟨pb, 0, none⟩) 1 pc) p) (h0 : p.getD 0 0 = 1) (hpl : p.length = 1) :
    Calls Try.prog 74 #[.pointer (some ⟨Z, 0, none⟩), .slice (some ⟨pb, 0, none⟩) 1 pc, .int .i64 0] w fun e w' => e = .returned (.bool true) ∧
      Bn w' Z (sgC n sz rv { s with begun := true }) ∧ Kf (fun j => j = Z) w w' := by
  obtain ⟨z3, f3⟩ := hB 3 _ rfl
  have hcell := own_head hp (by omega)
  rw [h0] at hcell
  have HB := hideD hB
  clear hB hp h0 hpl
  go_enter Try.func74, Try.ntmps74
  go_wp2
  go_ret
  exact ⟨rfl, HB.out.set (i := 3) (by simp [sgC]) _, (Kf.refl (fun j => j = Z) w).set (X := Z) rfl _⟩
set_option maxRecDepth 100000 in
set_option maxHeartbeats 4000000 in
theorem jtake_2 {w : World} {Z lo pb pc : Nat} {n sz : Int} {a : Nat} {s : SgM} {rv : Value} {p : List Int} (hB : Bn w Z (sgC n sz rv s))
    (hp : Own w lo 5 (.slice (some ⟨pb, 0, none⟩) 1 pc) p) (h0 : p.getD 0 0 = 2) (hpl : p.length = 1) (hb : s.begun = true) (he : s.ended = false) :
    Calls Try.prog 74 #[.pointer (some ⟨Z, 0, none⟩), .slice (some ⟨pb, 0, none⟩) 1 pc, .int .i64 (a : Int)] w fun e w' => e = .returned (.bool true) ∧
      Bn w' Z (sgC n sz rv { s with ended := true }) ∧ Kf (fun j => j = Z) w w' := by
  obtain ⟨z3, f3⟩ := hB 3 _ rfl
  obtain ⟨z4, f4⟩ := hB 4 _ rfl
  rw [hb] at z3
  rw [he] at z4
  have hcell := own_head hp (by omega)
  rw [h0] at hcell
  have HB := hideD hB
  clear hB hp h0 hpl hb he
  go_enter Try.func74, Try.ntmps74
  go_wp2
  go_ret
  exact ⟨rfl, HB.out.set (i := 4) (by simp [sgC]) _, (Kf.refl (fun j => j = Z) w).set (X := Z) rfl _⟩
set_option maxRecDepth 100000 in
set_option maxHeartbeats 4000000 in
theorem jtake_no {w : World} {Z lo pb pc pl : Nat} {n sz : Int} {a : Nat} {s : SgM} {rv : Value} {p : List Int} (hB : Bn w Z (sgC n sz rv s))
    (hp : Own w lo 5 (.slice (some ⟨pb, 0, none⟩) pl pc) p) (hpl : p.length = pl) (h1 : 1 ≤ pl) (ht : jTk s p (decide (a = 0)) = none) :
    Calls Try.prog 74 #[.pointer (some ⟨Z, 0, none⟩), .slice (some ⟨pb, 0, none⟩) pl pc, .int .i64 (a : Int)] w fun e w' => e = .returned (.bool false) ∧ w = w' := by
  obtain ⟨z3, f3⟩ := hB 3 _ rfl
  obtain ⟨z4, f4⟩ := hB 4 _ rfl
  have hcell := own_head hp (by omega)
  have q0 : ¬ (p.getD 0 0 = 0 ∧ p.length ≠ 1) := fun h => by unfold jTk at ht; rw [if_pos h] at ht; cases ht
  have q1 : ¬ (p.getD 0 0 = 1 ∧ p.length = 1 ∧ a = 0) := fun h => by unfold jTk at ht; rw [if_neg q0, if_pos ⟨h.1, h.2.1, decide_eq_true h.2.2⟩] at ht; cases ht
  have q2 : ¬ (p.getD 0 0 = 2 ∧ p.length = 1 ∧ s.begun = true ∧ s.ended = false) := fun h => by
    unfold jTk at ht
    rw [if_neg q0, if_neg (fun h => q1 ⟨h.1, h.2.1, of_decide_eq_true h.2.2⟩), if_pos h] at ht
    cases ht
  obtain ⟨k, hk⟩ : ∃ k, p.getD 0 0 = k := ⟨_, rfl⟩
  obtain ⟨bb, hbb⟩ : ∃ k, s.begun = k := ⟨_, rfl⟩
  obtain ⟨be, hbe⟩ : ∃ k, s.ended = k := ⟨_, rfl⟩
  rw [hk] at hcell q0 q1 q2
  rw [hpl] at q0 q1 q2
  rw [hbb] at z3 q2
  rw [hbe] at z4 q2
  have i2 : (0 : Int) < (pl : Int) := by omega
  clear hB hp hk hbb hbe ht hpl
  by_cases hl : pl = 1
  · subst hl
    by_cases k0 : k = 0
    · subst k0
      go_enter Try.func74, Try.ntmps74
      go_wp2
      go_ret
      exact ⟨rfl, rfl⟩
    by_cases k1 : k = 1
    · subst k1
      have ha : ¬ (a : Int) = 0 := by
        have : ¬ a = 0 := fun e => q1 ⟨rfl, rfl, e⟩
        omega
      have ha' : ¬ a = 0 := by omega
      go_enter Try.func74, Try.ntmps74
      go_wp2
      go_ret
      exact ⟨rfl, rfl⟩
    by_cases k2 : k = 2
    · subst k2
      cases bb with
      | false =>
        go_enter Try.func74, Try.ntmps74
        go_wp2
        go_ret
        exact ⟨rfl, rfl⟩
      | true =>
        cases be with
        | false => exact absurd ⟨rfl, rfl, rfl, rfl⟩ q2
        | true =>
          go_enter Try.func74, Try.ntmps74
          go_wp2
          go_ret
          exact ⟨rfl, rfl⟩
    · go_enter Try.func74, Try.ntmps74
      go_wp2
      go_ret
      exact ⟨rfl, rfl⟩
  · have k0 : ¬ k = 0 := fun e => q0 ⟨e, hl⟩
    have e1 : ¬ (pl : Int) = 1 := by omega
    have e2 : ((pl : Int) == 1) = false := by simp; omega
    by_cases k1 : k = 1
    · subst k1
      go_enter Try.func74, Try.ntmps74
      go_wp2
      go_ret
      exact ⟨rfl, rfl⟩
    by_cases k2 : k = 2
    · subst k2
      go_enter Try.func74, Try.ntmps74
      go_wp2
      go_ret
      exact ⟨rfl, rfl⟩
    · go_enter Try.func74, Try.ntmps74
      go_wp2
      go_ret
      exact ⟨rfl, rfl⟩
end Go.Proofs.Ytpblcahcpobicaa
