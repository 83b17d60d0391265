import Derived.Test.YtifgbioacknjpaaGreatDoorWsc03
import Derived.Shelf.Strconv.Clone
import Derived.Test.YtifgbioacknjpaaGreatDoorWsc02
import Derived.Deep.RegionHeldLaw
import Derived.Lib.AppendIntMem
import Derived.Test.YtifgbioacknjpaaGreatDoorRows

/- What the program's signSize does. -/
namespace Go.Proofs.YtifgbioacknjpaaGreatDoor
open Go.RowKit Go.Lib
set_option linter.unusedSimpArgs false
set_option linter.unusedVariables false

set_option maxHeartbeats 2000000 in
theorem pSign_one (s : ByteArray) (w : World) (c : UInt8) (h0 : 0 < s.size) (h1 : ¬ 1 < s.size) (hs0 : s[0] = c) (G : Nat) (hg : one (c.toNat : Int) = G) :
    Calls Tryz.prog 107 #[.string s] w fun e w' => e = .returned (.int .i64 (G : Int)) ∧ w = w' := by
  have hz : (0 : Int) < (s.size : Int) := by omega
  have hz1 : ¬ (1 : Int) < (s.size : Int) := by omega
  by_cases f0 : c.toNat = 123
  · have g0 : ((c.toNat : Int) == 123) = true := by simp; omega
    have hG : 1 = G := by rw [← hg]; exact (one_yes (by omega)).symm
    clear f0 hg
    subst hG
    go_enter Tryz.func107, Tryz.ntmps107
    go_wp2
    go_ret
    exact ⟨rfl, rfl⟩
  have g0 : ((c.toNat : Int) == 123) = false := beq_eq_false_iff_ne.2 (by omega)
  by_cases f1 : c.toNat = 125
  · have g1 : ((c.toNat : Int) == 125) = true := by simp; omega
    have hG : 1 = G := by rw [← hg]; exact (one_yes (by omega)).symm
    clear f1 hg f0
    subst hG
    go_enter Tryz.func107, Tryz.ntmps107
    go_wp2
    go_ret
    exact ⟨rfl, rfl⟩
  have g1 : ((c.toNat : Int) == 125) = false := beq_eq_false_iff_ne.2 (by omega)
  by_cases f2 : c.toNat = 40
  · have g2 : ((c.toNat : Int) == 40) = true := by simp; omega
    have hG : 1 = G := by rw [← hg]; exact (one_yes (by omega)).symm
    clear f2 hg f0 f1
    subst hG
    go_enter Tryz.func107, Tryz.ntmps107
    go_wp2
    go_ret
    exact ⟨rfl, rfl⟩
  have g2 : ((c.toNat : Int) == 40) = false := beq_eq_false_iff_ne.2 (by omega)
  by_cases f3 : c.toNat = 41
  · have g3 : ((c.toNat : Int) == 41) = true := by simp; omega
    have hG : 1 = G := by rw [← hg]; exact (one_yes (by omega)).symm
    clear f3 hg f0 f1 f2
    subst hG
    go_enter Tryz.func107, Tryz.ntmps107
    go_wp2
    go_ret
    exact ⟨rfl, rfl⟩
  have g3 : ((c.toNat : Int) == 41) = false := beq_eq_false_iff_ne.2 (by omega)
  by_cases f4 : c.toNat = 61
  · have g4 : ((c.toNat : Int) == 61) = true := by simp; omega
    have hG : 1 = G := by rw [← hg]; exact (one_yes (by omega)).symm
    clear f4 hg f0 f1 f2 f3
    subst hG
    go_enter Tryz.func107, Tryz.ntmps107
    go_wp2
    go_ret
    exact ⟨rfl, rfl⟩
  have g4 : ((c.toNat : Int) == 61) = false := beq_eq_false_iff_ne.2 (by omega)
  by_cases f5 : c.toNat = 33
  · have g5 : ((c.toNat : Int) == 33) = true := by simp; omega
    have hG : 1 = G := by rw [← hg]; exact (one_yes (by omega)).symm
    clear f5 hg f0 f1 f2 f3 f4
    subst hG
    go_enter Tryz.func107, Tryz.ntmps107
    go_wp2
    go_ret
    exact ⟨rfl, rfl⟩
  have g5 : ((c.toNat : Int) == 33) = false := beq_eq_false_iff_ne.2 (by omega)
  by_cases f6 : c.toNat = 60
  · have g6 : ((c.toNat : Int) == 60) = true := by simp; omega
    have hG : 1 = G := by rw [← hg]; exact (one_yes (by omega)).symm
    clear f6 hg f0 f1 f2 f3 f4 f5
    subst hG
    go_enter Tryz.func107, Tryz.ntmps107
    go_wp2
    go_ret
    exact ⟨rfl, rfl⟩
  have g6 : ((c.toNat : Int) == 60) = false := beq_eq_false_iff_ne.2 (by omega)
  by_cases f7 : c.toNat = 43
  · have g7 : ((c.toNat : Int) == 43) = true := by simp; omega
    have hG : 1 = G := by rw [← hg]; exact (one_yes (by omega)).symm
    clear f7 hg f0 f1 f2 f3 f4 f5 f6
    subst hG
    go_enter Tryz.func107, Tryz.ntmps107
    go_wp2
    go_ret
    exact ⟨rfl, rfl⟩
  have g7 : ((c.toNat : Int) == 43) = false := beq_eq_false_iff_ne.2 (by omega)
  by_cases f8 : c.toNat = 45
  · have g8 : ((c.toNat : Int) == 45) = true := by simp; omega
    have hG : 1 = G := by rw [← hg]; exact (one_yes (by omega)).symm
    clear f8 hg f0 f1 f2 f3 f4 f5 f6 f7
    subst hG
    go_enter Tryz.func107, Tryz.ntmps107
    go_wp2
    go_ret
    exact ⟨rfl, rfl⟩
  have g8 : ((c.toNat : Int) == 45) = false := beq_eq_false_iff_ne.2 (by omega)
  by_cases f9 : c.toNat = 42
  · have g9 : ((c.toNat : Int) == 42) = true := by simp; omega
    have hG : 1 = G := by rw [← hg]; exact (one_yes (by omega)).symm
    clear f9 hg f0 f1 f2 f3 f4 f5 f6 f7 f8
    subst hG
    go_enter Tryz.func107, Tryz.ntmps107
    go_wp2
    go_ret
    exact ⟨rfl, rfl⟩
  have g9 : ((c.toNat : Int) == 42) = false := beq_eq_false_iff_ne.2 (by omega)
  have hG : 0 = G := by rw [← hg]; exact (one_no (by omega)).symm
  clear hg f0 f1 f2 f3 f4 f5 f6 f7 f8 f9
  subst hG
  go_enter Tryz.func107, Tryz.ntmps107
  go_wp2
  go_ret
  exact ⟨rfl, rfl⟩

set_option maxHeartbeats 2000000 in
theorem pSign_two (s : ByteArray) (w : World) (c : UInt8) (h1 : 1 < s.size) (hs0 : s[0] = c) (G : Nat) (hg : one (c.toNat : Int) = G)
    (p0 : ((s.extract 0 2).toList == [61, 61]) = false)
    (p1 : ((s.extract 0 2).toList == [33, 61]) = false)
    (p2 : ((s.extract 0 2).toList == [60, 61]) = false)
    (p3 : ((s.extract 0 2).toList == [38, 38]) = false)
    (p4 : ((s.extract 0 2).toList == [124, 124]) = false)
    : Calls Tryz.prog 107 #[.string s] w fun e w' => e = .returned (.int .i64 (G : Int)) ∧ w = w' := by
  have hz : (0 : Int) < (s.size : Int) := by omega
  have hz1 : (1 : Int) < (s.size : Int) := by omega
  have hz2 : (2 : Int) ≤ (s.size : Int) := by omega
  by_cases f0 : c.toNat = 123
  · have g0 : ((c.toNat : Int) == 123) = true := by simp; omega
    have hG : 1 = G := by rw [← hg]; exact (one_yes (by omega)).symm
    clear f0 hg
    subst hG
    go_enter Tryz.func107, Tryz.ntmps107
    go_wp2
    go_ret
    exact ⟨rfl, rfl⟩
  have g0 : ((c.toNat : Int) == 123) = false := beq_eq_false_iff_ne.2 (by omega)
  by_cases f1 : c.toNat = 125
  · have g1 : ((c.toNat : Int) == 125) = true := by simp; omega
    have hG : 1 = G := by rw [← hg]; exact (one_yes (by omega)).symm
    clear f1 hg f0
    subst hG
    go_enter Tryz.func107, Tryz.ntmps107
    go_wp2
    go_ret
    exact ⟨rfl, rfl⟩
  have g1 : ((c.toNat : Int) == 125) = false := beq_eq_false_iff_ne.2 (by omega)
  by_cases f2 : c.toNat = 40
  · have g2 : ((c.toNat : Int) == 40) = true := by simp; omega
    have hG : 1 = G := by rw [← hg]; exact (one_yes (by omega)).symm
    clear f2 hg f0 f1
    subst hG
    go_enter Tryz.func107, Tryz.ntmps107
    go_wp2
    go_ret
    exact ⟨rfl, rfl⟩
  have g2 : ((c.toNat : Int) == 40) = false := beq_eq_false_iff_ne.2 (by omega)
  by_cases f3 : c.toNat = 41
  · have g3 : ((c.toNat : Int) == 41) = true := by simp; omega
    have hG : 1 = G := by rw [← hg]; exact (one_yes (by omega)).symm
    clear f3 hg f0 f1 f2
    subst hG
    go_enter Tryz.func107, Tryz.ntmps107
    go_wp2
    go_ret
    exact ⟨rfl, rfl⟩
  have g3 : ((c.toNat : Int) == 41) = false := beq_eq_false_iff_ne.2 (by omega)
  by_cases f4 : c.toNat = 61
  · have g4 : ((c.toNat : Int) == 61) = true := by simp; omega
    have hG : 1 = G := by rw [← hg]; exact (one_yes (by omega)).symm
    clear f4 hg f0 f1 f2 f3
    subst hG
    go_enter Tryz.func107, Tryz.ntmps107
    go_wp2
    go_ret
    exact ⟨rfl, rfl⟩
  have g4 : ((c.toNat : Int) == 61) = false := beq_eq_false_iff_ne.2 (by omega)
  by_cases f5 : c.toNat = 33
  · have g5 : ((c.toNat : Int) == 33) = true := by simp; omega
    have hG : 1 = G := by rw [← hg]; exact (one_yes (by omega)).symm
    clear f5 hg f0 f1 f2 f3 f4
    subst hG
    go_enter Tryz.func107, Tryz.ntmps107
    go_wp2
    go_ret
    exact ⟨rfl, rfl⟩
  have g5 : ((c.toNat : Int) == 33) = false := beq_eq_false_iff_ne.2 (by omega)
  by_cases f6 : c.toNat = 60
  · have g6 : ((c.toNat : Int) == 60) = true := by simp; omega
    have hG : 1 = G := by rw [← hg]; exact (one_yes (by omega)).symm
    clear f6 hg f0 f1 f2 f3 f4 f5
    subst hG
    go_enter Tryz.func107, Tryz.ntmps107
    go_wp2
    go_ret
    exact ⟨rfl, rfl⟩
  have g6 : ((c.toNat : Int) == 60) = false := beq_eq_false_iff_ne.2 (by omega)
  by_cases f7 : c.toNat = 43
  · have g7 : ((c.toNat : Int) == 43) = true := by simp; omega
    have hG : 1 = G := by rw [← hg]; exact (one_yes (by omega)).symm
    clear f7 hg f0 f1 f2 f3 f4 f5 f6
    subst hG
    go_enter Tryz.func107, Tryz.ntmps107
    go_wp2
    go_ret
    exact ⟨rfl, rfl⟩
  have g7 : ((c.toNat : Int) == 43) = false := beq_eq_false_iff_ne.2 (by omega)
  by_cases f8 : c.toNat = 45
  · have g8 : ((c.toNat : Int) == 45) = true := by simp; omega
    have hG : 1 = G := by rw [← hg]; exact (one_yes (by omega)).symm
    clear f8 hg f0 f1 f2 f3 f4 f5 f6 f7
    subst hG
    go_enter Tryz.func107, Tryz.ntmps107
    go_wp2
    go_ret
    exact ⟨rfl, rfl⟩
  have g8 : ((c.toNat : Int) == 45) = false := beq_eq_false_iff_ne.2 (by omega)
  by_cases f9 : c.toNat = 42
  · have g9 : ((c.toNat : Int) == 42) = true := by simp; omega
    have hG : 1 = G := by rw [← hg]; exact (one_yes (by omega)).symm
    clear f9 hg f0 f1 f2 f3 f4 f5 f6 f7 f8
    subst hG
    go_enter Tryz.func107, Tryz.ntmps107
    go_wp2
    go_ret
    exact ⟨rfl, rfl⟩
  have g9 : ((c.toNat : Int) == 42) = false := beq_eq_false_iff_ne.2 (by omega)
  have hG : 0 = G := by rw [← hg]; exact (one_no (by omega)).symm
  clear hg f0 f1 f2 f3 f4 f5 f6 f7 f8 f9
  subst hG
  go_enter Tryz.func107, Tryz.ntmps107
  go_wp2
  go_ret
  exact ⟨rfl, rfl⟩

set_option maxHeartbeats 2000000 in
theorem pSign_any (s : ByteArray) (w : World) (h0 : 0 < s.size) :
    Calls Tryz.prog 107 #[.string s] w fun e w' => e = .returned (.int .i64 (sgn (runes (bl s)) : Int)) ∧ w = w' := by
  have hlen : (bl s).length = s.size := rfl
  by_cases h1 : 1 < s.size
  · obtain ⟨c, d, r, hl⟩ : ∃ c d r, bl s = c :: d :: r := by
      match hb : bl s with
      | [] => rw [hb] at hlen; simp at hlen; omega
      | [_] => rw [hb] at hlen; simp at hlen; omega
      | c :: d :: r => exact ⟨c, d, r, rfl⟩
    have hs0 : s[0] = c := by
      have : s[0] = (bl s)[0]'(by omega) := rfl
      rw [this]; simp [hl]
    have hq : ∀ x y : UInt8, ((s.extract 0 2).toList == [x, y]) = (decide (c = x) && decide (d = y)) := fun x y => two_beq s c d x y r hl
    rw [hl, sgn_two]
    have hz : (0 : Int) < (s.size : Int) := by omega
    have hz1 : (1 : Int) < (s.size : Int) := by omega
    have hz2 : (2 : Int) ≤ (s.size : Int) := by omega
    by_cases a0 : c = 61 ∧ d = 61
    · have p0 : ((s.extract 0 2).toList == [61, 61]) = true := by rw [hq]; simp [a0.1, a0.2]
      have hG : (if pair (c.toNat : Int) (d.toNat : Int) = true then 2 else one (c.toNat : Int)) = 2 := by rw [a0.1, a0.2]; decide
      rw [hG]
      clear hq a0 hG
      go_enter Tryz.func107, Tryz.ntmps107
      go_wp2
      go_ret
      exact ⟨rfl, rfl⟩
    have p0 : ((s.extract 0 2).toList == [61, 61]) = false := by rw [hq]; exact and_no a0
    by_cases a1 : c = 33 ∧ d = 61
    · have p1 : ((s.extract 0 2).toList == [33, 61]) = true := by rw [hq]; simp [a1.1, a1.2]
      have hG : (if pair (c.toNat : Int) (d.toNat : Int) = true then 2 else one (c.toNat : Int)) = 2 := by rw [a1.1, a1.2]; decide
      rw [hG]
      clear hq a1 hG a0
      go_enter Tryz.func107, Tryz.ntmps107
      go_wp2
      go_ret
      exact ⟨rfl, rfl⟩
    have p1 : ((s.extract 0 2).toList == [33, 61]) = false := by rw [hq]; exact and_no a1
    by_cases a2 : c = 60 ∧ d = 61
    · have p2 : ((s.extract 0 2).toList == [60, 61]) = true := by rw [hq]; simp [a2.1, a2.2]
      have hG : (if pair (c.toNat : Int) (d.toNat : Int) = true then 2 else one (c.toNat : Int)) = 2 := by rw [a2.1, a2.2]; decide
      rw [hG]
      clear hq a2 hG a0 a1
      go_enter Tryz.func107, Tryz.ntmps107
      go_wp2
      go_ret
      exact ⟨rfl, rfl⟩
    have p2 : ((s.extract 0 2).toList == [60, 61]) = false := by rw [hq]; exact and_no a2
    by_cases a3 : c = 38 ∧ d = 38
    · have p3 : ((s.extract 0 2).toList == [38, 38]) = true := by rw [hq]; simp [a3.1, a3.2]
      have hG : (if pair (c.toNat : Int) (d.toNat : Int) = true then 2 else one (c.toNat : Int)) = 2 := by rw [a3.1, a3.2]; decide
      rw [hG]
      clear hq a3 hG a0 a1 a2
      go_enter Tryz.func107, Tryz.ntmps107
      go_wp2
      go_ret
      exact ⟨rfl, rfl⟩
    have p3 : ((s.extract 0 2).toList == [38, 38]) = false := by rw [hq]; exact and_no a3
    by_cases a4 : c = 124 ∧ d = 124
    · have p4 : ((s.extract 0 2).toList == [124, 124]) = true := by rw [hq]; simp [a4.1, a4.2]
      have hG : (if pair (c.toNat : Int) (d.toNat : Int) = true then 2 else one (c.toNat : Int)) = 2 := by rw [a4.1, a4.2]; decide
      rw [hG]
      clear hq a4 hG a0 a1 a2 a3
      go_enter Tryz.func107, Tryz.ntmps107
      go_wp2
      go_ret
      exact ⟨rfl, rfl⟩
    have p4 : ((s.extract 0 2).toList == [124, 124]) = false := by rw [hq]; exact and_no a4
    have hp : pair (c.toNat : Int) (d.toNat : Int) = false := by
      have hi : ∀ (x : UInt8) (k : Nat), (k : Int) = (x.toNat : Int) → x = UInt8.ofNat k := fun x k h => by
        have e : k = x.toNat := by omega
        rw [e]; simp
      refine decide_eq_false ?_
      rintro (⟨hb, ha⟩ | ⟨ha, hb⟩ | ⟨ha, hb⟩)
      · rcases ha with ha | ha | ha
        · exact a0 ⟨hi c 61 ha.symm, hi d 61 hb.symm⟩
        · exact a1 ⟨hi c 33 ha.symm, hi d 61 hb.symm⟩
        · exact a2 ⟨hi c 60 ha.symm, hi d 61 hb.symm⟩
      · exact a3 ⟨hi c 38 ha.symm, hi d 38 hb.symm⟩
      · exact a4 ⟨hi c 124 ha.symm, hi d 124 hb.symm⟩
    have hG : (if pair (c.toNat : Int) (d.toNat : Int) = true then 2 else one (c.toNat : Int)) = one (c.toNat : Int) := by rw [hp]; rfl
    rw [hG]
    exact pSign_two s w c h1 hs0 _ rfl p0 p1 p2 p3 p4
  · obtain ⟨c, hl⟩ : ∃ c, bl s = [c] := by
      match hb : bl s with
      | [] => rw [hb] at hlen; simp at hlen; omega
      | [c] => exact ⟨c, rfl⟩
      | _ :: _ :: _ => rw [hb] at hlen; simp at hlen; omega
    have hs0 : s[0] = c := by
      have : s[0] = (bl s)[0]'(by omega) := rfl
      rw [this]; simp [hl]
    rw [hl, sgn_one]
    exact pSign_one s w c h0 h1 hs0 _ rfl

/-- Of which kind what a text begins with would be, and how many runes it has. -/
def pc (l : List UInt8) : Nat × Nat :=
  if (nx l).1 = 32 ∨ (nx l).1 = 9 ∨ (nx l).1 = 10 then (0, 1) else if (nx l).1 = 35 then (0, rest (runes l)) else if letter (nx l).1 = true then (1, spn (runes l))
  else if dgt (nx l).1 = true then (2, spn (runes l)) else (3, sgn (runes l))
def pcB (l : List UInt8) : Nat := (byt ((runes l).take (pc l).2)).length
abbrev tup22 (a b : Nat) : Value := .tuple #[.int .i64 (a : Int), .int .i64 (b : Int)]

set_option maxHeartbeats 2000000 in
theorem pPiece_any (s : ByteArray) (w : World) (hs : s.size ≤ 140737488351232) (h0 : 0 < s.size) :
    Calls Tryz.prog 64 #[.int .i32 (rn (nx (bl s)).1), .string s] w fun e w' => e = .returned (tup22 (pc (bl s)).1 (pcB (bl s))) ∧ Below w.heap.size w w' := by
  have hne : bl s ≠ [] := by intro e; have := bl_length s; rw [e] at this; simp at this; omega
  have h1 := pRemark_any s w hs
  have h2 := pRun_any s w hs
  have h3 := pSign_any s w h0
  have h4 := pLetter_any (rn (nx (bl s)).1) w
  have h5 := pDigit_any (rn (nx (bl s)).1) w
  rw [letter_rn] at h4
  rw [dgt_rn] at h5
  have hone : 0 ≤ (nx (bl s)).1 ∧ (nx (bl s)).1 < 128 → (byt ((runes (bl s)).take 1)).length = 1 := fun h => by
    obtain ⟨c, e1, _⟩ := asc_one (l := bl s) (v := ((nx (bl s)).1, (bl s).take (nx (bl s)).2)) (by rw [runes_cons hne]; simp) h
    rw [runes_cons hne, List.take_succ_cons, List.take_zero, byt_cons]
    simp only at e1
    rw [e1]; rfl
  have hsg := sgn_bytes (bl s)
  unfold pcB
  unfold pc
  have q1 := rn_small (r := (nx (bl s)).1) (k := 32) (by omega)
  have q2 := rn_small (r := (nx (bl s)).1) (k := 9) (by omega)
  have q3 := rn_small (r := (nx (bl s)).1) (k := 10) (by omega)
  have q4 := rn_small (r := (nx (bl s)).1) (k := 35) (by omega)
  have hR : (byt ((runes (bl s)).take (rest (runes (bl s))))).length = rsb (bl s) := rfl
  have hS : (byt ((runes (bl s)).take (spn (runes (bl s))))).length = spb (bl s) := rfl
  obtain ⟨r, hr⟩ : ∃ r, (nx (bl s)).1 = r := ⟨_, rfl⟩
  obtain ⟨x, hx⟩ : ∃ x, rn r = x := ⟨_, rfl⟩
  obtain ⟨a, ha⟩ : ∃ a, rsb (bl s) = a := ⟨_, rfl⟩
  obtain ⟨b, hb⟩ : ∃ b, spb (bl s) = b := ⟨_, rfl⟩
  obtain ⟨c, hc⟩ : ∃ c, sgn (runes (bl s)) = c := ⟨_, rfl⟩
  rw [hr] at h4 h5 q1 q2 q3 q4 hone ⊢
  rw [hx] at h4 h5 q1 q2 q3 q4 ⊢
  rw [ha] at h1 hR
  rw [hb] at h2 hS
  rw [hc] at h3 hsg ⊢
  by_cases c1 : r = 32 ∨ r = 9 ∨ r = 10
  · rw [if_pos c1]
    simp only [hone (by omega)]
    clear h1 h2 h3 h4 h5 hone hsg hR hS hr hx ha hb hc hne q4
    by_cases k1 : r = 32
    · have e1 : (x == 32) = true := by rw [q1.2 k1]; rfl
      clear c1 q1 q2 q3 k1
      go_enter Tryz.func64, Tryz.ntmps64
      go_wp2
      go_ret2
      exact ⟨rfl, Below.refl _ _⟩
    have e1 : (x == 32) = false := beq_eq_false_iff_ne.2 (fun e => k1 (q1.1 e))
    by_cases k2 : r = 9
    · have e2 : (x == 9) = true := by rw [q2.2 k2]; rfl
      clear c1 q1 q2 q3 k1 k2
      go_enter Tryz.func64, Tryz.ntmps64
      go_wp2
      go_ret2
      exact ⟨rfl, Below.refl _ _⟩
    have e2 : (x == 9) = false := beq_eq_false_iff_ne.2 (fun e => k2 (q2.1 e))
    have e3 : (x == 10) = true := by rw [q3.2 (by omega)]; rfl
    clear c1 q1 q2 q3 k1 k2
    go_enter Tryz.func64, Tryz.ntmps64
    go_wp2
    go_ret2
    exact ⟨rfl, Below.refl _ _⟩
  rw [if_neg c1]
  have e1 : (x == 32) = false := beq_eq_false_iff_ne.2 (fun e => c1 (.inl (q1.1 e)))
  have e2 : (x == 9) = false := beq_eq_false_iff_ne.2 (fun e => c1 (.inr (.inl (q2.1 e))))
  have e3 : (x == 10) = false := beq_eq_false_iff_ne.2 (fun e => c1 (.inr (.inr (q3.1 e))))
  by_cases c2 : r = 35
  · rw [if_pos c2]
    simp only [hR]
    have e4 : (x == 35) = true := by rw [q4.2 c2]; rfl
    clear h2 h3 h4 h5 hone hsg hR hS hr hx ha hb hc hne q1 q2 q3 q4 c1 c2
    go_enter Tryz.func64, Tryz.ntmps64
    go_wp2_with (first
      | (go_at_call 103; refine h1.mono ?_; rintro e w1 ⟨rfl, b1⟩))
    go_ret2
    exact ⟨rfl, b1⟩
  rw [if_neg c2]
  have e4 : (x == 35) = false := beq_eq_false_iff_ne.2 (fun e => c2 (q4.1 e))
  cases hl : letter r with
  | true =>
    rw [if_pos rfl]
    simp only [hS]
    rw [hl] at h4
    clear h1 h3 h5 hone hsg hR hS hr hx ha hb hc hne q1 q2 q3 q4 c1 c2 hl
    go_enter Tryz.func64, Tryz.ntmps64
    go_wp2_with (first
      | (go_at_call 104; refine h4.mono ?_; rintro e w' ⟨rfl, rfl⟩)
      | (go_at_call 105; refine h2.mono ?_; rintro e w1 ⟨rfl, b1⟩))
    go_ret2
    exact ⟨rfl, b1⟩
  | false =>
    rw [if_neg (by decide)]
    rw [hl] at h4
    cases hd : dgt r with
    | true =>
      rw [if_pos rfl]
      simp only [hS]
      rw [hd] at h5
      clear h1 h3 hone hsg hR hS hr hx ha hb hc hne q1 q2 q3 q4 c1 c2 hl hd
      go_enter Tryz.func64, Tryz.ntmps64
      go_wp2_with (first
        | (go_at_call 104; refine h4.mono ?_; rintro e w' ⟨rfl, rfl⟩)
        | (go_at_call 106; refine h5.mono ?_; rintro e w' ⟨rfl, rfl⟩)
        | (go_at_call 105; refine h2.mono ?_; rintro e w1 ⟨rfl, b1⟩))
      go_ret2
      exact ⟨rfl, b1⟩
    | false =>
      rw [if_neg (by decide)]
      simp only [hsg]
      rw [hd] at h5
      clear h1 h2 hone hsg hR hS hr hx ha hb hc hne q1 q2 q3 q4 c1 c2 hl hd
      go_enter Tryz.func64, Tryz.ntmps64
      go_wp2_with (first
        | (go_at_call 104; refine h4.mono ?_; rintro e w' ⟨rfl, rfl⟩)
        | (go_at_call 106; refine h5.mono ?_; rintro e w' ⟨rfl, rfl⟩)
        | (go_at_call 107; refine h3.mono ?_; rintro e w' ⟨rfl, rfl⟩))
      go_ret2
      exact ⟨rfl, Below.refl _ _⟩

/-- May a piece of that kind stand in a text? -/
def rightS (K : Nat) (t : List UInt8) : Bool := if K = 1 then nameS t else if K = 2 then numB t else if K = 3 then !(decide (t = [])) else true

set_option maxHeartbeats 1000000 in
theorem pRight_any (K : Nat) (t : ByteArray) (w : World) (hs : t.size ≤ 140737488351232) :
    Calls Tryz.prog 65 #[.int .i64 (K : Int), .string t] w fun e w' => e = .returned (.bool (rightS K (bl t))) ∧ Below w.heap.size w w' := by
  have h1 := pName_any t w hs
  have h2 := pNumber_any t w hs
  unfold rightS
  obtain ⟨a, ha⟩ : ∃ a, nameS (bl t) = a := ⟨_, rfl⟩
  obtain ⟨b, hb⟩ : ∃ b, numB (bl t) = b := ⟨_, rfl⟩
  rw [ha] at h1 ⊢
  rw [hb] at h2 ⊢
  clear ha hb
  by_cases k1 : K = 1
  · subst k1
    rw [if_pos rfl]
    go_enter Tryz.func65, Tryz.ntmps65
    go_wp2_with (first
      | (go_at_call 72; refine h1.mono ?_; rintro e w1 ⟨rfl, b1⟩))
    go_ret
    exact ⟨rfl, b1⟩
  rw [if_neg k1]
  have e1 : ((K : Int) == 1) = false := beq_eq_false_iff_ne.2 (by omega)
  by_cases k2 : K = 2
  · subst k2
    rw [if_pos rfl]
    go_enter Tryz.func65, Tryz.ntmps65
    go_wp2_with (first
      | (go_at_call 108; refine h2.mono ?_; rintro e w1 ⟨rfl, b1⟩))
    go_ret
    exact ⟨rfl, b1⟩
  rw [if_neg k2]
  have e2 : ((K : Int) == 2) = false := beq_eq_false_iff_ne.2 (by omega)
  by_cases k3 : K = 3
  · subst k3
    rw [if_pos rfl]
    have e : (t.toList == []) = decide (bl t = []) := by rw [ByteArray.toList_eq, Bool.eq_iff_iff]; simp
    obtain ⟨z, hz⟩ : ∃ z, decide (bl t = []) = z := ⟨_, rfl⟩
    rw [hz] at e ⊢
    clear hz h1 h2 e1 e2
    go_enter Tryz.func65, Tryz.ntmps65
    go_wp2
    go_ret
    exact ⟨by simp [bne, e], Below.refl _ _⟩
  rw [if_neg k3]
  have e3 : ((K : Int) == 3) = false := beq_eq_false_iff_ne.2 (by omega)
  clear h1 h2
  go_enter Tryz.func65, Tryz.ntmps65
  go_wp2
  go_ret
  exact ⟨rfl, Below.refl _ _⟩

abbrev ps (a b : Int) : Value := .agg #[.int .i64 a, .int .i64 b]
theorem pBehind_feed (ln co : Int) (w : World) (h1 : 0 ≤ ln ∧ ln ≤ 140737488351233) :
    Calls Tryz.prog 66 #[ps ln co, .int .i32 10] w fun e w' => e = .returned (ps (ln + 1) 1) ∧ Below w.heap.size w w' := by
  go_enter Tryz.func66, Tryz.ntmps66
  go_wp2
  exact bodyPost_ret (v := ps (ln + 1) 1) (by simp [results, Tryz.results66, go_sem]) rfl ⟨rfl, ((Below.refl _ _).alloc (Nat.le_refl _) _).alloc (by simp) _⟩
theorem pBehind_on (ln co r : Int) (w : World) (h1 : 0 ≤ co ∧ co ≤ 140737488351233) (hr : r ≠ 10) :
    Calls Tryz.prog 66 #[ps ln co, .int .i32 r] w fun e w' => e = .returned (ps ln (co + 1)) ∧ Below w.heap.size w w' := by
  have e1 : (r == 10) = false := beq_eq_false_iff_ne.2 hr
  clear hr
  go_enter Tryz.func66, Tryz.ntmps66
  go_wp2
  exact bodyPost_ret (v := ps ln (co + 1)) (by simp [results, Tryz.results66, go_sem]) rfl ⟨rfl, ((Below.refl _ _).alloc (Nat.le_refl _) _).alloc (by simp) _⟩

/-- A string's iterator. -/
def It0 (w : World) (k : Nat) (s : ByteArray) (p : Nat) : Prop := w.heap[k]? = some (.stringIter s p)
theorem It0.keepB {w w' : World} {k B : Nat} {s : ByteArray} {p : Nat} (h : It0 w k s p) (hb : Below B w w') (hB : k < B) : It0 w' k s p := (hb.block k hB).trans h
theorem It0.lt {w : World} {k : Nat} {s : ByteArray} {p : Nat} (h : It0 w k s p) : k < w.heap.size := (Array.getElem?_eq_some_iff.1 h).1
theorem It0.keep {w w' : World} {k : Nat} {s : ByteArray} {p : Nat} (h : It0 w k s p) (hb : Below w.heap.size w w') : It0 w' k s p := h.keepB hb h.lt
theorem It0.set {w : World} {k X i : Nat} {s : ByteArray} {p : Nat} (h : It0 w k s p) (hne : X ≠ k) (v : Value) : It0 (w.setCell ⟨X, i, none⟩ v) k s p := by
  unfold It0
  rw [Below.heap_setCell _ _ _ _ (fun e => hne e.symm)]
  exact h

end Go.Proofs.YtifgbioacknjpaaGreatDoor

/- What strings.Clone does: the same bytes. -/
namespace Go.Proofs.YtifgbioacknjpaaGreatDoor
open Go.Shelf Go.RowKit Go.Lib
set_option linter.unusedSimpArgs false
set_option linter.unusedVariables false

def renC : Ren := { f := fun x => match x with | 316 => 59 | n => n, t := fun x => match x with | 9 => 9 | 3 => 3 | 4 => 4 | 37 => 70 | 0 => 0 | 127 => 129 | 5 => 5 | n => n, g := fun x => x }
theorem laysC : LaysM.n316 Tryz.prog renC :=
  { mixed := by kernel_rfl, f316 := Tryz.func59.trans (congrArg some (by kernel_rfl)),
    t0 := Tryz.underlying0, a0 := Tryz.isAgg0, z0 := Tryz.sizeOf0, v0 := Tryz.zeroValue0, t3 := Tryz.underlying3, a3 := Tryz.isAgg3, z3 := Tryz.sizeOf3, v3 := Tryz.zeroValue3, t4 := Tryz.underlying4, a4 := Tryz.isAgg4, z4 := Tryz.sizeOf4, v4 := Tryz.zeroValue4,
    t9 := Tryz.underlying9, a9 := Tryz.isAgg9, z9 := Tryz.sizeOf9, v9 := Tryz.zeroValue9, t37 := Tryz.underlying70, a37 := Tryz.isAgg70, z37 := Tryz.sizeOf70, v37 := Tryz.zeroValue70,
    t127 := Tryz.underlying129, a127 := Tryz.isAgg129, z127 := Tryz.sizeOf129, v127 := Tryz.zeroValue129, t5 := Tryz.underlying5, a5 := Tryz.isAgg5, z5 := Tryz.sizeOf5, v5 := Tryz.zeroValue5,
    i0 := by kernel_rfl, i3 := by kernel_rfl, i4 := by kernel_rfl, i5 := by kernel_rfl, i9 := by kernel_rfl, i37 := by kernel_rfl, i127 := by kernel_rfl }
theorem pClone_any (s : ByteArray) (w : World) (hs : s.size ≤ 140737488351232) :
    Calls Tryz.prog 28 #[.string s] w fun e w' => e = .returned (.string s) ∧ Below w.heap.size w w' := by
  have h1 : Calls Tryz.prog 59 #[.string s] w fun e w' => e = .returned (.string s) ∧ Below w.heap.size w w' := Any.stringslite_Clone laysC s w (by omega)
  go_enter Tryz.func28, Tryz.ntmps28
  go_wp2_with (first
    | (go_at_call 59; refine h1.mono ?_; rintro e w1 ⟨rfl, b1⟩))
  go_ret
  exact ⟨rfl, b1⟩

/-- What is begun is a word just if it is right. -/
theorem right_word {l : List UInt8} (hl : l ≠ []) (h10 : (nx l).1 ≠ 10) (h32 : ¬ ((nx l).1 = 32 ∨ (nx l).1 = 9)) (h35 : (nx l).1 ≠ 35) :
    1 ≤ (pc l).1 ∧ (rightS (pc l).1 (l.take (pcB l)) = true → fst1 (runes l) = pc l) ∧ (rightS (pc l).1 (l.take (pcB l)) = false → (fst1 (runes l)).1 = 0) := by
  have hc := runes_cons hl
  have hf := fst1_cons ((nx l).1, l.take (nx l).2) (runes (l.drop (nx l).2))
  rw [← hc] at hf
  simp only at hf
  have htk : ∀ m, m ≤ (runes l).length → l.take (byt ((runes l).take m)).length = byt ((runes l).take m) := fun m _ => by
    have e2 : byt ((runes l).take m) ++ byt ((runes l).drop m) = l := by rw [← byt_append, List.take_append_drop, byt_runes _ l (Nat.le_refl _)]
    have e3 : ∀ (a b l : List UInt8), a ++ b = l → l.take a.length = a := fun a b l h => by rw [← h]; exact List.take_left
    exact e3 _ _ _ e2
  have hp : pc l = if letter (nx l).1 = true then (1, spn (runes l)) else if dgt (nx l).1 = true then (2, spn (runes l)) else (3, sgn (runes l)) := by
    unfold pc
    rw [if_neg (by omega), if_neg h35]
  unfold pcB
  rw [hp, hf]
  by_cases a : letter (nx l).1 = true
  · have hn := name_spb hl a
    have hsp : l.take (byt ((runes l).take (spn (runes l)))).length = l.take (spb l) := rfl
    simp only [if_pos a]
    rw [hsp]
    unfold rightS
    rw [if_pos rfl, hn]
    refine ⟨Nat.le_refl _, fun h => ?_, fun h => ?_⟩
    · rw [if_pos (of_decide_eq_true h)]
    · rw [if_neg (of_decide_eq_false h)]
  · simp only [if_neg a]
    by_cases d : dgt (nx l).1 = true
    · simp only [if_pos d]
      rw [htk _ (spn_le _)]
      unfold rightS
      rw [if_neg (by decide), if_pos rfl, numB_numb (l := l) _ (fun v hv => List.mem_of_mem_take hv)]
      refine ⟨by decide, fun h => ?_, fun h => ?_⟩
      · rw [if_pos h]
      · rw [if_neg (by rw [h]; decide)]
    · simp only [if_neg d]
      have hsb := sgn_bytes l
      rw [htk _ (sgn_le _)]
      unfold rightS
      rw [if_neg (by decide), if_neg (by decide), if_pos rfl]
      refine ⟨by decide, fun h => ?_, fun h => ?_⟩
      · rw [if_neg]
        intro e
        rw [e] at hsb
        have : byt ((runes l).take (sgn (runes l))) = [] := List.eq_nil_of_length_eq_zero (by rw [e]; exact hsb)
        rw [decide_eq_true this] at h
        cases h
      · rw [if_pos]
        have : byt ((runes l).take (sgn (runes l))) = [] := by simpa using h
        rw [this] at hsb
        exact hsb.symm
/-- None of a piece's runes but a line feed's own is one. -/
theorem spn_no10 {rs : List Ru} : ∀ v ∈ rs.take (spn rs), v.1 ≠ 10 := fun v hv e => by
  have := spn_all rs v hv
  rw [e] at this
  revert this
  decide
theorem sgn_no10 : ∀ (rs : List Ru), ∀ v ∈ rs.take (sgn rs), v.1 ≠ 10
  | [], v, h => by simp [sgn] at h
  | [u], v, h => by
    have hm := List.mem_of_mem_take h
    rcases List.mem_cons.1 hm with rfl | hm
    · intro e
      have : sgn [v] = 0 := by show one v.1 = 0; rw [e]; decide
      rw [this] at h
      simp at h
    · simp at hm
  | u :: x :: t, v, h => by
    have e : sgn (u :: x :: t) = if pair u.1 x.1 = true then 2 else one u.1 := rfl
    by_cases hp : pair u.1 x.1 = true
    · rw [e, if_pos hp] at h
      have := of_decide_eq_true hp
      simp only [List.take_succ_cons, List.take_zero, List.mem_cons, List.not_mem_nil, or_false] at h
      rcases h with rfl | rfl <;> omega
    · rw [e, if_neg hp] at h
      intro h10
      unfold one at h
      split at h
      · simp only [List.take_succ_cons, List.take_zero, List.mem_cons, List.not_mem_nil, or_false] at h
        subst h; omega
      · simp at h
theorem rest_no10 : ∀ (rs : List Ru), ∀ v ∈ rs.take (rest rs), v.1 ≠ 10
  | [], v, h => by simp [rest] at h
  | u :: t, v, h => by
    unfold rest at h
    by_cases hu : u.1 = 10
    · rw [if_pos hu] at h; simp at h
    · rw [if_neg hu, List.take_succ_cons] at h
      rcases List.mem_cons.1 h with rfl | h
      · exact hu
      · exact rest_no10 t v h
end Go.Proofs.YtifgbioacknjpaaGreatDoor

/- What is asked of the program's Formed. -/
namespace Go.Proofs.YtifgbioacknjpaaGreatDoor
open Go.RowKit Go.Lib
set_option linter.unusedSimpArgs false
set_option linter.unusedVariables false

/-- The program's Formed answers as the document says. -/
def FormedP : Prop := ∀ (d : Nat) (t : T d) (w : World), Cl d t → cnt d t ≤ 100000 → shrt 1000 d t = true → Calls Tryz.prog 162 #[exV d t] w fun r w' => r = .returned (.bool (fmC d t)) ∧ Below w.heap.size w w'
theorem bthen {a b c : World} (h : Below a.heap.size a b) (k : Below b.heap.size b c) : Below a.heap.size a c := h.trans (k.mono h.size)
theorem At4.on {w w' : World} {X : Nat} {a b c e : Value} (h : At4 w X a b c e) (hb : Below w.heap.size w w') : At4 w' X a b c e := h.keepB hb (World.block_lt_of_cell? w _ h.1)
/-- A small tree, cleaned. -/
theorem small_cln {d : Nat} {t : T d} (h : 0 ≤ sml d t 0 200) : cnt (d + 1) (cln d t) ≤ 1000 ∧ shrt 1000 (d + 1) (cln d t) = true := by
  obtain ⟨h1, h2⟩ := sml_ok d t 0 200 h
  have h3 := cnt_cln d t
  exact ⟨by omega, shrt_cln 1000 d t h2⟩
end Go.Proofs.YtifgbioacknjpaaGreatDoor

/- binText, operandText, textOf: the text of an expression. -/
namespace Go.Proofs.YtifgbioacknjpaaGreatDoor
open Go.RowKit Go.Lib
set_option linter.unusedSimpArgs false
set_option linter.unusedVariables false
attribute [local go_sem ↓] Go.wp_at_zero Go.wp_at_succ
attribute [local go_sem] as_lit_lit as_ref_lit as_ref_ref as_not_lit as_not_ref as_not_not as_neg_lit as_neg_ref as_neg_not as_neg_neg as_bin_lit as_bin_ref as_bin_not as_bin_neg as_bin_bin
/-- The table of powers of ten. -/
def Pow (w : World) : Prop := Lib.TabIs Tryz.prog w "internal/strconv.uint64pow10" .u64 Lib.pow10Tab
theorem Pow.below {w w' : World} (h : Pow w) (hb : Below w.heap.size w w') : Pow w' := tabBelow_of_tabIs h w' hb
theorem fmt_any {n : Int} (h0 : 0 ≤ n) (h1 : n ≤ 1000000000) (w : World) (hp : Pow w) :
    Calls Tryz.prog 38 #[.int .i64 n, .int .i64 10] w fun e w' => e = .returned (.string ⟨(dcN n).toArray⟩) ∧ Below w.heap.size w w' := by
  refine (Go.Proofs.Any.strconv_FormatInt_10 laysF n (by omega) (by omega) w hp).mono ?_
  rintro e w' ⟨rfl, k, os, rfl⟩
  refine ⟨?_, below_grow _ w (Nat.le_refl _) k os⟩
  unfold Lib.itoa dcN
  rw [if_neg (by omega)]
theorem sd_iface : ∀ {d : Nat} {t : T d}, Cl d t → sdC d t = true → ∃ u y, exV d t = .iface u y
  | 0, t, _, _ => Empty.elim t
  | d + 1, t, hc, h => by
    rcases exV_form (d + 1) t with h1 | h1
    · rcases hc.cases with ⟨n, rfl⟩ | ⟨s, rfl⟩ | ⟨k, p, hk, rfl, hp⟩ | ⟨s, p, q, rfl, hp, hq⟩ | rfl
      · exact ⟨_, _, rfl⟩
      · exact ⟨_, _, rfl⟩
      · rcases hk with rfl | rfl <;> exact ⟨_, _, rfl⟩
      · exact ⟨_, _, rfl⟩
      · exact absurd h (by simp [none0, sdC_mk])
    · exact h1
/-- An operand's text. -/
def aroX (d : Nat) (t : T d) (m : Nat) : List UInt8 := txP (aroP (pcs dcN d t) m)
theorem cell3_at (w : World) (a b c : Value) (t : TypeId) (n : Nat) (hn : n = w.heap.size) : (w.alloc (.cells #[a, b, c] t)).cell? ⟨n, 0, none⟩ = some a ∧ (w.alloc (.cells #[a, b, c] t)).cell? ⟨n, 1, none⟩ = some b ∧ (w.alloc (.cells #[a, b, c] t)).cell? ⟨n, 2, none⟩ = some c := by subst hn; simp
theorem txt_bin {d : Nat} (s : ByteArray) (p q : T d) : txtC (d + 1) (mkT 5 0 s [p, q]) = aroX d p (if lv (bl s) = 3 then 4 else lv (bl s)) ++ 32 :: (bl s ++ 32 :: aroX d q (lv (bl s) + 1)) := by
  show txP (pcF dcN 5 0 s [pcs dcN d p, pcs dcN d q]).2 = _
  show txP (aroP (pcs dcN d p) (if lv (bl s) = 3 then 4 else lv (bl s)) ++ none :: some (3, bl s) :: none :: aroP (pcs dcN d q) (lv (bl s) + 1)) = _
  rw [txP_app, txP_cons, txP_cons, txP_cons]
  rfl
theorem add_ok (a b c : ByteArray) (h : (bl a).length + (bl b).length ≤ 2000000) (hc : bl c = bl a ++ bl b) (W : World) : (Op.stringOp .add a b).run Tryz.prog W = .ok (.string c) W := by
  have h1 : a.size + b.size ≤ 2000000 := h
  have e : a ++ b = c := by
    have e1 : (a ++ b).data = c.data := by
      rw [ByteArray.data_append]
      apply Array.toList_inj.1
      rw [Array.toList_append]; exact hc.symm
    cases c; cases h2 : a ++ b; rw [h2] at e1; exact congrArg ByteArray.mk e1
  have h2 : ¬ (((a.size + b.size : Nat) : Int) > IntKind.i64.max) := by
    have : IntKind.i64.max = 9223372036854775807 := by decide
    rw [this]; omega
  unfold Op.stringOp
  simp only [if_neg h2, e]
  rfl
def OpC (d : Nat) : Prop := ∀ (t : T d) (m : Nat) (w : World), Cl d t → sdC d t = true → m ≤ 6 → (aroX d t m).length ≤ 1000000 → Pow w → Calls Tryz.prog 184 #[exV d t, .int .i64 (m : Int)] w fun e w' => e = .returned (.string ⟨(aroX d t m).toArray⟩) ∧ Below w.heap.size w w'
def BtC (d : Nat) : Prop := ∀ (s : ByteArray) (p q : T d) (w : World), Cl d p → Cl d q → sdC d p = true → sdC d q = true → (txtC (d + 1) (mkT 5 0 s [p, q])).length ≤ 1000000 → Pow w → Calls Tryz.prog 185 #[.agg #[.string s, exV d p, exV d q]] w fun e w' => e = .returned (.string ⟨(txtC (d + 1) (mkT 5 0 s [p, q])).toArray⟩) ∧ Below w.heap.size w w'
def TxC (d : Nat) : Prop := ∀ (t : T d) (w : World), Cl d t → sdC d t = true → (txtC d t).length ≤ 1000000 → Pow w → Calls Tryz.prog 165 #[exV d t] w fun e w' => e = .returned (.string ⟨(txtC d t).toArray⟩) ∧ Below w.heap.size w w'
set_option maxRecDepth 100000 in
set_option maxHeartbeats 4000000 in
theorem bin_step (d : Nat) (IH : OpC d) : BtC d := by
  intro s p q w hp hq sp sq hln hw
  have hlv := fun w1 => pLevel_any s w1
  have hI := fun m w1 hm hl hw1 => IH p m w1 hp sp hm hl hw1
  have hJ := fun m w1 hm hl hw1 => IH q m w1 hq sq hm hl hw1
  obtain ⟨pu, py, hpe⟩ := sd_iface hp sp
  obtain ⟨qu, qy, hqe⟩ := sd_iface hq sq
  rw [hpe, hqe]
  simp only [hpe] at hI
  simp only [hqe] at hJ
  clear hpe hqe
  have hl5 : lv (bl s) ≤ 5 := lv_le _
  obtain ⟨k, hk⟩ : ∃ k, lv (bl s) = k := ⟨_, rfl⟩
  rw [hk] at hl5
  simp only [hk] at hlv
  have hT : txtC (d + 1) (mkT 5 0 s [p, q]) = aroX d p (if k = 3 then 4 else k) ++ 32 :: (bl s ++ 32 :: aroX d q (k + 1)) := by
    rw [← hk]; exact txt_bin s p q
  obtain ⟨TX, hTX⟩ : ∃ TX, txtC (d + 1) (mkT 5 0 s [p, q]) = TX := ⟨_, rfl⟩
  rw [hTX] at hT hln ⊢
  clear hTX
  by_cases h3 : k = 3
  · subst h3
    have hIm := fun w1 h1 h => hI 4 w1 (by omega) h1 h
    have hJm := fun w1 h1 h => hJ 4 w1 (by omega) h1 h
    rw [if_pos rfl] at hT
    simp only [show ((4 : Nat) : Int) = 4 from rfl] at hIm hJm
    generalize aroX d p 4 = A at hT hIm
    generalize aroX d q 4 = B at hT hJm
    clear hI hJ
    have hlA : A.length ≤ 1000000 := by have := congrArg List.length hT; simp only [List.length_append, List.length_cons] at this; omega
    have hlB : B.length ≤ 1000000 := by have := congrArg List.length hT; simp only [List.length_append, List.length_cons] at this; omega
    replace hIm := fun w1 h => hIm w1 hlA h
    replace hJm := fun w1 h => hJm w1 hlB h
    clear hlA hlB
    have hA : A.length + B.length + (bl s).length + 2 ≤ 1000000 := by
      have := congrArg List.length hT
      simp only [List.length_append, List.length_cons] at this
      omega
    obtain ⟨bA, hbA⟩ : ∃ bA : ByteArray, ⟨A.toArray⟩ = bA := ⟨_, rfl⟩
    obtain ⟨bB, hbB⟩ : ∃ bB : ByteArray, ⟨B.toArray⟩ = bB := ⟨_, rfl⟩
    have hAe : bl bA = A := by rw [← hbA]
    have hBe : bl bB = B := by rw [← hbB]
    have a1 := add_ok bA ⟨#[32]⟩ ⟨(A ++ [32]).toArray⟩ (by rw [hAe]; show A.length + 1 ≤ _; omega) (by rw [hAe])
    have a2 := add_ok ⟨(A ++ [32]).toArray⟩ s ⟨(A ++ [32] ++ bl s).toArray⟩ (by show (A ++ [32]).length + _ ≤ _; simp only [List.length_append, List.length_cons, List.length_nil]; omega) rfl
    have a3 := add_ok ⟨(A ++ [32] ++ bl s).toArray⟩ ⟨#[32]⟩ ⟨(A ++ [32] ++ bl s ++ [32]).toArray⟩ (by show (A ++ [32] ++ bl s).length + 1 ≤ _; simp only [List.length_append, List.length_cons, List.length_nil]; omega) rfl
    have a4 := add_ok ⟨(A ++ [32] ++ bl s ++ [32]).toArray⟩ bB ⟨TX.toArray⟩ (by rw [hBe]; show (A ++ [32] ++ bl s ++ [32]).length + _ ≤ _; simp only [List.length_append, List.length_cons, List.length_nil]; omega) (by rw [hBe]; show TX = A ++ [32] ++ bl s ++ [32] ++ B; rw [hT]; simp)
    rw [hbA] at hIm
    rw [hbB] at hJm
    clear hT hA hAe hBe hbA hbB hln
    generalize (⟨(A ++ [32]).toArray⟩ : ByteArray) = x1 at *
    generalize (⟨(A ++ [32] ++ bl s).toArray⟩ : ByteArray) = x2 at *
    generalize (⟨(A ++ [32] ++ bl s ++ [32]).toArray⟩ : ByteArray) = x3 at *
    generalize (⟨TX.toArray⟩ : ByteArray) = x4 at *
    rw [show (4 : Int) = IntKind.i64.wrap 4 from by decide] at hJm
    go_enter Tryz.func185, Tryz.ntmps185
    go_wp2_with (first | (go_at_call 195; refine (hlv _).mono ?_; rintro e w2 ⟨rfl, rfl⟩))
    have hc := cell3_at w (.string s) (.iface pu py) (.iface qu qy) 162 w.heap.size rfl
    have b1 := (Below.refl w.heap.size w).alloc (Nat.le_refl _) (.cells #[.string s, .iface pu py, .iface qu qy] 162)
    have hw1 := hw.below b1
    clear hlv
    generalize w.alloc (.cells #[.string s, .iface pu py, .iface qu qy] 162) = w1 at *
    obtain ⟨c1, c2, c3⟩ := hc
    have bd : Below w1.heap.size w1 w1.drew := (Below.refl _ _).drew
    have b1 := bthen b1 bd
    have s1 := hIm w1.drew (hw1.below bd)
    go_region_held_law (fun w' => w'.cell? ⟨w.heap.size, 0, none⟩ = some (.string s) ∧ w'.cell? ⟨w.heap.size, 1, none⟩ = some (.iface pu py) ∧ w'.cell? ⟨w.heap.size, 2, none⟩ = some (.iface qu qy))
      (first | (with_reducible exact ⟨c1, c2, c3⟩) | (with_reducible exact ⟨d1, d2, d3⟩) | (with_reducible exact ⟨e1, e2, e3⟩) | go_keep)
      ((first
        | (go_at_call 184; (with_reducible refine s1.mono ?_); rintro e w3 ⟨rfl, b3⟩; have d1 := (b3.cell (p := ⟨w.heap.size, 0, none⟩) (World.block_lt_of_cell? w1 _ c1)).trans c1; have d2 := (b3.cell (p := ⟨w.heap.size, 1, none⟩) (World.block_lt_of_cell? w1 _ c2)).trans c2; have d3 := (b3.cell (p := ⟨w.heap.size, 2, none⟩) (World.block_lt_of_cell? w1 _ c3)).trans c3; have b4 := bthen b1 b3; have s2 := hJm w3 ((hw1.below bd).below b3); clear s1)
        | (go_at_call 184; (with_reducible refine s2.mono ?_); rintro e w4 ⟨rfl, b5⟩; have e1 := (b5.cell (p := ⟨w.heap.size, 0, none⟩) (World.block_lt_of_cell? _ _ d1)).trans d1; have e2 := (b5.cell (p := ⟨w.heap.size, 1, none⟩) (World.block_lt_of_cell? _ _ d2)).trans d2; have e3 := (b5.cell (p := ⟨w.heap.size, 2, none⟩) (World.block_lt_of_cell? _ _ d3)).trans d3; have b6 := bthen b4 b5; clear s2)))
    go_wp2
    go_ret
    exact ⟨rfl, b6⟩
  · have hIm := fun w1 h1 h => hI k w1 (by omega) h1 h
    have hJm := fun w1 h1 h => hJ (k + 1) w1 (by omega) h1 h
    rw [if_neg h3] at hT
    simp only [Int.natCast_add, show ((1 : Nat) : Int) = 1 from rfl] at hJm
    generalize aroX d p k = A at hT hIm
    generalize aroX d q (k + 1) = B at hT hJm
    have h3' : (k : Int) ≠ 3 := by omega
    clear hI hJ
    have hlA : A.length ≤ 1000000 := by have := congrArg List.length hT; simp only [List.length_append, List.length_cons] at this; omega
    have hlB : B.length ≤ 1000000 := by have := congrArg List.length hT; simp only [List.length_append, List.length_cons] at this; omega
    replace hIm := fun w1 h => hIm w1 hlA h
    replace hJm := fun w1 h => hJm w1 hlB h
    clear hlA hlB
    have hA : A.length + B.length + (bl s).length + 2 ≤ 1000000 := by
      have := congrArg List.length hT
      simp only [List.length_append, List.length_cons] at this
      omega
    obtain ⟨bA, hbA⟩ : ∃ bA : ByteArray, ⟨A.toArray⟩ = bA := ⟨_, rfl⟩
    obtain ⟨bB, hbB⟩ : ∃ bB : ByteArray, ⟨B.toArray⟩ = bB := ⟨_, rfl⟩
    have hAe : bl bA = A := by rw [← hbA]
    have hBe : bl bB = B := by rw [← hbB]
    have a1 := add_ok bA ⟨#[32]⟩ ⟨(A ++ [32]).toArray⟩ (by rw [hAe]; show A.length + 1 ≤ _; omega) (by rw [hAe])
    have a2 := add_ok ⟨(A ++ [32]).toArray⟩ s ⟨(A ++ [32] ++ bl s).toArray⟩ (by show (A ++ [32]).length + _ ≤ _; simp only [List.length_append, List.length_cons, List.length_nil]; omega) rfl
    have a3 := add_ok ⟨(A ++ [32] ++ bl s).toArray⟩ ⟨#[32]⟩ ⟨(A ++ [32] ++ bl s ++ [32]).toArray⟩ (by show (A ++ [32] ++ bl s).length + 1 ≤ _; simp only [List.length_append, List.length_cons, List.length_nil]; omega) rfl
    have a4 := add_ok ⟨(A ++ [32] ++ bl s ++ [32]).toArray⟩ bB ⟨TX.toArray⟩ (by rw [hBe]; show (A ++ [32] ++ bl s ++ [32]).length + _ ≤ _; simp only [List.length_append, List.length_cons, List.length_nil]; omega) (by rw [hBe]; show TX = A ++ [32] ++ bl s ++ [32] ++ B; rw [hT]; simp)
    rw [hbA] at hIm
    rw [hbB] at hJm
    clear hT hA hAe hBe hbA hbB hln
    generalize (⟨(A ++ [32]).toArray⟩ : ByteArray) = x1 at *
    generalize (⟨(A ++ [32] ++ bl s).toArray⟩ : ByteArray) = x2 at *
    generalize (⟨(A ++ [32] ++ bl s ++ [32]).toArray⟩ : ByteArray) = x3 at *
    generalize (⟨TX.toArray⟩ : ByteArray) = x4 at *
    rw [show ((k : Int) + 1) = IntKind.i64.wrap ((k : Int) + 1) from (wrap_small _ (by omega) (by omega)).symm] at hJm
    go_enter Tryz.func185, Tryz.ntmps185
    go_wp2_with (first | (go_at_call 195; refine (hlv _).mono ?_; rintro e w2 ⟨rfl, rfl⟩))
    have hc := cell3_at w (.string s) (.iface pu py) (.iface qu qy) 162 w.heap.size rfl
    have b1 := (Below.refl w.heap.size w).alloc (Nat.le_refl _) (.cells #[.string s, .iface pu py, .iface qu qy] 162)
    have hw1 := hw.below b1
    clear hlv
    generalize w.alloc (.cells #[.string s, .iface pu py, .iface qu qy] 162) = w1 at *
    obtain ⟨c1, c2, c3⟩ := hc
    have bd : Below w1.heap.size w1 w1.drew := (Below.refl _ _).drew
    have b1 := bthen b1 bd
    have s1 := hIm w1.drew (hw1.below bd)
    go_region_held_law (fun w' => w'.cell? ⟨w.heap.size, 0, none⟩ = some (.string s) ∧ w'.cell? ⟨w.heap.size, 1, none⟩ = some (.iface pu py) ∧ w'.cell? ⟨w.heap.size, 2, none⟩ = some (.iface qu qy))
      (first | (with_reducible exact ⟨c1, c2, c3⟩) | (with_reducible exact ⟨d1, d2, d3⟩) | (with_reducible exact ⟨e1, e2, e3⟩) | go_keep)
      ((first
        | (go_at_call 184; (with_reducible refine s1.mono ?_); rintro e w3 ⟨rfl, b3⟩; have d1 := (b3.cell (p := ⟨w.heap.size, 0, none⟩) (World.block_lt_of_cell? w1 _ c1)).trans c1; have d2 := (b3.cell (p := ⟨w.heap.size, 1, none⟩) (World.block_lt_of_cell? w1 _ c2)).trans c2; have d3 := (b3.cell (p := ⟨w.heap.size, 2, none⟩) (World.block_lt_of_cell? w1 _ c3)).trans c3; have b4 := bthen b1 b3; have s2 := hJm w3 ((hw1.below bd).below b3); clear s1)
        | (go_at_call 184; (with_reducible refine s2.mono ?_); rintro e w4 ⟨rfl, b5⟩; have e1 := (b5.cell (p := ⟨w.heap.size, 0, none⟩) (World.block_lt_of_cell? _ _ d1)).trans d1; have e2 := (b5.cell (p := ⟨w.heap.size, 1, none⟩) (World.block_lt_of_cell? _ _ d2)).trans d2; have e3 := (b5.cell (p := ⟨w.heap.size, 2, none⟩) (World.block_lt_of_cell? _ _ d3)).trans d3; have b6 := bthen b4 b5; clear s2)))
    go_wp2
    go_ret
    exact ⟨rfl, b6⟩
theorem aro_same {d : Nat} {k n : Int} {s : ByteArray} {ps : List (T d)} {m : Nat} (hk : k ≠ 5) (hm : m ≤ 6) : aroX (d + 1) (mkT k n s ps) m = txtC (d + 1) (mkT k n s ps) := by
  unfold aroX aroP txtC
  rw [if_neg]
  show ¬ (if k = 5 then lv s.data.toList else 6) < m
  rw [if_neg hk]; omega
theorem aro_bin {d : Nat} {s : ByteArray} {p q : T d} {m : Nat} : aroX (d + 1) (mkT 5 0 s [p, q]) m = if lv (bl s) < m then 40 :: (txtC (d + 1) (mkT 5 0 s [p, q]) ++ [41]) else txtC (d + 1) (mkT 5 0 s [p, q]) := by
  have e : (pcs dcN (d + 1) (mkT 5 0 s [p, q])).1 = lv (bl s) := rfl
  unfold aroX aroP txtC
  rw [e]
  split
  · rw [txP_cons, txP_app]; rfl
  · rfl
theorem ba_app (a b : List UInt8) : (⟨a.toArray⟩ : ByteArray) ++ ⟨b.toArray⟩ = ⟨(a ++ b).toArray⟩ := by
  have e1 : ((⟨a.toArray⟩ : ByteArray) ++ ⟨b.toArray⟩).data = (a ++ b).toArray := by
    rw [ByteArray.data_append]
    apply Array.toList_inj.1
    rw [Array.toList_append]
  cases h2 : (⟨a.toArray⟩ : ByteArray) ++ ⟨b.toArray⟩
  rw [h2] at e1
  exact congrArg ByteArray.mk e1
theorem ba_one (x : UInt8) (X : List UInt8) : (⟨#[x]⟩ ++ ⟨X.toArray⟩ : ByteArray) = ⟨(x :: X).toArray⟩ := ba_app [x] X
theorem ba_par (X : List UInt8) : (⟨#[40]⟩ ++ ⟨X.toArray⟩ ++ ⟨#[41]⟩ : ByteArray) = ⟨(40 :: (X ++ [41])).toArray⟩ :=
  (congrArg (fun b : ByteArray => b ++ ⟨#[41]⟩) (ba_one 40 X)).trans (ba_app (40 :: X) [41])
theorem as_lit_bin (w : World) (n : Value) : (Instr.typeAssert (.iface 155 (.agg #[n])) 112 162 true).run Tryz.prog w = .ok (.tuple #[.agg #[.string ⟨#[]⟩, .nilIface, .nilIface], .bool false]) w := by kernel_rfl
theorem as_ref_bin (w : World) (n : Value) : (Instr.typeAssert (.iface 157 (.agg #[n])) 112 162 true).run Tryz.prog w = .ok (.tuple #[.agg #[.string ⟨#[]⟩, .nilIface, .nilIface], .bool false]) w := by kernel_rfl
theorem as_not_bin (w : World) (n : Value) : (Instr.typeAssert (.iface 159 (.agg #[n])) 112 162 true).run Tryz.prog w = .ok (.tuple #[.agg #[.string ⟨#[]⟩, .nilIface, .nilIface], .bool false]) w := by kernel_rfl
theorem as_neg_bin (w : World) (n : Value) : (Instr.typeAssert (.iface 160 (.agg #[n])) 112 162 true).run Tryz.prog w = .ok (.tuple #[.agg #[.string ⟨#[]⟩, .nilIface, .nilIface], .bool false]) w := by kernel_rfl
attribute [local go_sem] as_lit_bin as_ref_bin as_not_bin as_neg_bin
set_option maxRecDepth 100000 in
set_option maxHeartbeats 4000000 in
theorem op_step (d : Nat) (HB : BtC d) (HX : TxC (d + 1)) : OpC (d + 1) := by
  intro t m w hc hs hm hl hw
  have hX := fun w1 hl1 hw1 => HX t w1 hc hs hl1 hw1
  have bz := (Below.refl w.heap.size w).alloc (Nat.le_refl _) (.cells #[.string ⟨#[]⟩, .nilIface, .nilIface] 162)
  have hwz := hw.below bz
  rcases hc.cases with ⟨n, rfl⟩ | ⟨s, rfl⟩ | ⟨k, p, hk, rfl, hp⟩ | ⟨s, p, q, rfl, hp, hq⟩ | rfl
  · have e : exV (d + 1) (mkT 1 n ⟨#[]⟩ [] : T (d + 1)) = .iface 155 (.agg #[.int .i64 n]) := rfl
    rw [aro_same (by decide) hm] at hl ⊢
    replace hX := fun w1 hw1 => hX w1 hl hw1
    rw [e] at hX ⊢
    generalize txtC (d + 1) (mkT 1 n ⟨#[]⟩ [] : T (d + 1)) = X at *
    clear e hs hc
    go_enter Tryz.func184, Tryz.ntmps184
    go_wp2_with (first | (go_at_call 165; refine (hX _ hwz).mono ?_; rintro e w2 ⟨rfl, b2⟩))
    go_ret
    exact ⟨rfl, bthen bz b2⟩
  · have e : exV (d + 1) (mkT 2 0 s [] : T (d + 1)) = .iface 157 (.agg #[.string s]) := rfl
    rw [aro_same (by decide) hm] at hl ⊢
    replace hX := fun w1 hw1 => hX w1 hl hw1
    rw [e] at hX ⊢
    generalize txtC (d + 1) (mkT 2 0 s [] : T (d + 1)) = X at *
    clear e hs hc
    go_enter Tryz.func184, Tryz.ntmps184
    go_wp2_with (first | (go_at_call 165; refine (hX _ hwz).mono ?_; rintro e w2 ⟨rfl, b2⟩))
    go_ret
    exact ⟨rfl, bthen bz b2⟩
  · rcases hk with rfl | rfl
    · have e : exV (d + 1) (mkT 3 0 ⟨#[]⟩ [p] : T (d + 1)) = .iface 159 (.agg #[exV d p]) := rfl
      rw [aro_same (by decide) hm] at hl ⊢
      replace hX := fun w1 hw1 => hX w1 hl hw1
      rw [e] at hX ⊢
      generalize txtC (d + 1) (mkT 3 0 ⟨#[]⟩ [p] : T (d + 1)) = X at *
      generalize exV d p = pv at *
      clear e hs hc
      go_enter Tryz.func184, Tryz.ntmps184
      go_wp2_with (first | (go_at_call 165; refine (hX _ hwz).mono ?_; rintro e w2 ⟨rfl, b2⟩))
      go_ret
      exact ⟨rfl, bthen bz b2⟩
    · have e : exV (d + 1) (mkT 4 0 ⟨#[]⟩ [p] : T (d + 1)) = .iface 160 (.agg #[exV d p]) := rfl
      rw [aro_same (by decide) hm] at hl ⊢
      replace hX := fun w1 hw1 => hX w1 hl hw1
      rw [e] at hX ⊢
      generalize txtC (d + 1) (mkT 4 0 ⟨#[]⟩ [p] : T (d + 1)) = X at *
      generalize exV d p = pv at *
      clear e hs hc
      go_enter Tryz.func184, Tryz.ntmps184
      go_wp2_with (first | (go_at_call 165; refine (hX _ hwz).mono ?_; rintro e w2 ⟨rfl, b2⟩))
      go_ret
      exact ⟨rfl, bthen bz b2⟩
  · have sd := hs
    rw [sdC_mk, if_neg (by decide), if_neg (by decide), if_neg (by decide), if_pos rfl] at sd
    simp only [List.all_cons, List.all_nil, Bool.and_true, Bool.and_eq_true] at sd
    obtain ⟨_, sp, sq⟩ := sd
    have hB := fun w1 hl1 hw1 => HB s p q w1 hp hq sp sq hl1 hw1
    have hlv := fun w1 => pLevel_any s w1
    rw [aro_bin] at hl ⊢
    have e : exV (d + 1) (mkT 5 0 s [p, q] : T (d + 1)) = .iface 162 (.agg #[.string s, exV d p, exV d q]) := rfl
    rw [e] at hX ⊢
    obtain ⟨pu, py, hpe⟩ := sd_iface hp sp
    obtain ⟨qu, qy, hqe⟩ := sd_iface hq sq
    rw [hpe, hqe] at hX hB ⊢
    generalize txtC (d + 1) (mkT 5 0 s [p, q] : T (d + 1)) = X at *
    clear e hs hc hpe hqe
    have bz := (Below.refl w.heap.size w).alloc (Nat.le_refl _) (.cells #[.string s, .iface pu py, .iface qu qy] 162)
    have hwz := hw.below bz
    by_cases hlt : lv (bl s) < m
    · rw [if_pos hlt] at hl ⊢
      have hl2 : X.length + 2 ≤ 1000000 := by simpa using hl
      replace hB := fun w1 hw1 => hB w1 (by omega) hw1
      have hlt' : ((lv (bl s) : Nat) : Int) < (m : Int) := by omega
      go_enter Tryz.func184, Tryz.ntmps184
      go_wp2_with (first
        | (go_at_call 195; refine (hlv _).mono ?_; rintro e w2 ⟨rfl, rfl⟩)
        | (go_at_call 185; refine (hB _ hwz).mono ?_; rintro e w2 ⟨rfl, b2⟩))
      go_ret
      exact ⟨congrArg (fun b => Ending.returned (.string b)) (ba_par X), bthen bz b2⟩
    · rw [if_neg hlt] at hl ⊢
      replace hX := fun w1 hw1 => hX w1 hl hw1
      have hlt' : ¬ ((lv (bl s) : Nat) : Int) < (m : Int) := by omega
      go_enter Tryz.func184, Tryz.ntmps184
      go_wp2_with (first
        | (go_at_call 195; refine (hlv _).mono ?_; rintro e w2 ⟨rfl, rfl⟩)
        | (go_at_call 165; refine (hX _ hwz).mono ?_; rintro e w2 ⟨rfl, b2⟩))
      go_ret
      exact ⟨rfl, bthen bz b2⟩
  · exact absurd hs (by simp [none0, sdC_mk])
set_option maxRecDepth 100000 in
set_option maxHeartbeats 4000000 in
theorem tx_step (d : Nat) (HO : OpC d) (HB : BtC d) : TxC (d + 1) := by
  intro t w hc hs hl hw
  rcases hc.cases with ⟨n, rfl⟩ | ⟨s, rfl⟩ | ⟨k, p, hk, rfl, hp⟩ | ⟨s, p, q, rfl, hp, hq⟩ | rfl
  · have e : exV (d + 1) (mkT 1 n ⟨#[]⟩ [] : T (d + 1)) = .iface 155 (.agg #[.int .i64 n]) := rfl
    have eT : txtC (d + 1) (mkT 1 n ⟨#[]⟩ [] : T (d + 1)) = dcN n := by
      show txP [some (2, dcN n)] = dcN n
      rw [txP_cons]; exact List.append_nil _
    rw [eT, e]
    rw [sdC_mk, if_pos rfl] at hs
    simp only [Bool.and_eq_true, decide_eq_true_eq] at hs
    have hF := fun w1 h => fmt_any hs.1 hs.2 w1 h
    have bz := (Below.refl w.heap.size w).alloc (Nat.le_refl _) (.cells #[.int .i64 n] 155)
    have hwz := hw.below bz
    generalize dcN n = X at *
    clear e hc eT
    go_enter Tryz.func165, Tryz.ntmps165
    go_wp2_with (first | (go_at_call 38; refine (hF _ hwz).mono ?_; rintro e w2 ⟨rfl, b2⟩))
    go_ret
    exact ⟨rfl, bthen bz b2⟩
  · have e : exV (d + 1) (mkT 2 0 s [] : T (d + 1)) = .iface 157 (.agg #[.string s]) := rfl
    have eT : (⟨(txtC (d + 1) (mkT 2 0 s [] : T (d + 1))).toArray⟩ : ByteArray) = s := by
      have : txtC (d + 1) (mkT 2 0 s [] : T (d + 1)) = s.data.toList := by
        show txP [some (1, s.data.toList)] = _
        rw [txP_cons]; exact List.append_nil _
      rw [this]
    rw [eT, e]
    have hsz : s.size ≤ 1000000 := by
      have h1 := hl
      rw [show txtC (d + 1) (mkT 2 0 s [] : T (d + 1)) = s.data.toList from by show txP [some (1, s.data.toList)] = _; rw [txP_cons]; exact List.append_nil _] at h1
      exact h1
    have hC := fun w1 => pClone_any s w1 (by omega)
    have bz := (Below.refl w.heap.size w).alloc (Nat.le_refl _) (.cells #[.string s] 157)
    clear e hc eT hs
    go_enter Tryz.func165, Tryz.ntmps165
    go_wp2_with (first | (go_at_call 28; refine (hC _).mono ?_; rintro e w2 ⟨rfl, b2⟩))
    go_ret
    exact ⟨rfl, bthen bz b2⟩
  · rcases hk with rfl | rfl
    · have e : exV (d + 1) (mkT 3 0 ⟨#[]⟩ [p] : T (d + 1)) = .iface 159 (.agg #[exV d p]) := rfl
      have sp : sdC d p = true := by
        rw [sdC_mk, if_neg (by decide), if_neg (by decide), if_pos (by decide)] at hs
        simpa using hs
      have eT : txtC (d + 1) (mkT 3 0 ⟨#[]⟩ [p] : T (d + 1)) = 33 :: aroX d p 6 := rfl
      rw [eT] at hl ⊢
      have hl2 : (aroX d p 6).length + 1 ≤ 1000000 := by simpa using hl
      have hO := fun w1 hw1 => HO p 6 w1 hp sp (by omega) (by omega) hw1
      obtain ⟨pu, py, hpe⟩ := sd_iface hp sp
      rw [e, hpe]
      simp only [hpe, show ((6 : Nat) : Int) = 6 from rfl] at hO
      generalize aroX d p 6 = X at *
      clear e hpe hs hc eT
      have bz := (Below.refl w.heap.size w).alloc (Nat.le_refl _) (.cells #[.iface pu py] 159)
      have hwz := hw.below bz
      go_enter Tryz.func165, Tryz.ntmps165
      go_wp2_with (first | (go_at_call 184; refine (hO _ hwz).mono ?_; rintro e w2 ⟨rfl, b2⟩))
      go_ret
      exact ⟨congrArg (fun b => Ending.returned (.string b)) (ba_one _ X), bthen bz b2⟩
    · have e : exV (d + 1) (mkT 4 0 ⟨#[]⟩ [p] : T (d + 1)) = .iface 160 (.agg #[exV d p]) := rfl
      have sp : sdC d p = true := by
        rw [sdC_mk, if_neg (by decide), if_neg (by decide), if_pos (by decide)] at hs
        simpa using hs
      have eT : txtC (d + 1) (mkT 4 0 ⟨#[]⟩ [p] : T (d + 1)) = 45 :: aroX d p 6 := rfl
      rw [eT] at hl ⊢
      have hl2 : (aroX d p 6).length + 1 ≤ 1000000 := by simpa using hl
      have hO := fun w1 hw1 => HO p 6 w1 hp sp (by omega) (by omega) hw1
      obtain ⟨pu, py, hpe⟩ := sd_iface hp sp
      rw [e, hpe]
      simp only [hpe, show ((6 : Nat) : Int) = 6 from rfl] at hO
      generalize aroX d p 6 = X at *
      clear e hpe hs hc eT
      have bz := (Below.refl w.heap.size w).alloc (Nat.le_refl _) (.cells #[.iface pu py] 160)
      have hwz := hw.below bz
      go_enter Tryz.func165, Tryz.ntmps165
      go_wp2_with (first | (go_at_call 184; refine (hO _ hwz).mono ?_; rintro e w2 ⟨rfl, b2⟩))
      go_ret
      exact ⟨congrArg (fun b => Ending.returned (.string b)) (ba_one _ X), bthen bz b2⟩
  · have e : exV (d + 1) (mkT 5 0 s [p, q] : T (d + 1)) = .iface 162 (.agg #[.string s, exV d p, exV d q]) := rfl
    have sd := hs
    rw [sdC_mk, if_neg (by decide), if_neg (by decide), if_neg (by decide), if_pos rfl] at sd
    simp only [List.all_cons, List.all_nil, Bool.and_true, Bool.and_eq_true] at sd
    obtain ⟨_, sp, sq⟩ := sd
    have hB := fun w1 hw1 => HB s p q w1 hp hq sp sq hl hw1
    obtain ⟨pu, py, hpe⟩ := sd_iface hp sp
    obtain ⟨qu, qy, hqe⟩ := sd_iface hq sq
    rw [e]
    rw [hpe, hqe] at hB ⊢
    generalize txtC (d + 1) (mkT 5 0 s [p, q] : T (d + 1)) = X at *
    clear e hs hc hpe hqe
    have bz := (Below.refl w.heap.size w).alloc (Nat.le_refl _) (.cells #[.string s, .iface pu py, .iface qu qy] 162)
    have hwz := hw.below bz
    go_enter Tryz.func165, Tryz.ntmps165
    go_wp2_with (first | (go_at_call 185; refine (hB _ hwz).mono ?_; rintro e w2 ⟨rfl, b2⟩))
    go_ret
    exact ⟨rfl, bthen bz b2⟩
  · exact absurd hs (by simp [none0, sdC_mk])
theorem op_any : ∀ d, OpC d
  | 0 => fun t => Empty.elim t
  | d + 1 => op_step d (bin_step d (op_any d)) (tx_step d (op_any d) (bin_step d (op_any d)))
theorem text_any : ∀ d, TxC d
  | 0 => fun t => Empty.elim t
  | d + 1 => tx_step d (op_any d) (bin_step d (op_any d))

/-- The slice v holds the values l, in a block from lo on. -/
def KidsN (lo : Nat) (w : World) (v : Value) (l : List Value) : Prop := Kids w v l ∧ ∀ g, v.ownBlock = some g → lo ≤ g
theorem kidsN0 (lo : Nat) (w : World) : KidsN lo w (.slice none 0 0) [] := ⟨kids0 w, fun g hg => by cases hg⟩
theorem kidsN1 {lo : Nat} {w : World} {g : Nat} {x : Value} (hl : lo ≤ g) (h : w.cell? ⟨g, 0, none⟩ = some x) : KidsN lo w (.slice (some ⟨g, 0, none⟩) 1 1) [x] := ⟨kids1 h, fun g' hg => by simp [Value.ownBlock] at hg; omega⟩
theorem kidsN2 {lo : Nat} {w : World} {g : Nat} {x y : Value} (hl : lo ≤ g) (h : w.cell? ⟨g, 0, none⟩ = some x) (h' : w.cell? ⟨g, 1, none⟩ = some y) : KidsN lo w (.slice (some ⟨g, 0, none⟩) 2 2) [x, y] := ⟨kids2 h h', fun g' hg => by simp [Value.ownBlock] at hg; omega⟩
theorem topN_nil (w : World) : Calls Tryz.prog 130 #[.nilIface] w fun e w' => ∃ sl, e = .returned (topV 0 0 ⟨#[]⟩ sl) ∧ KidsN w.heap.size w' sl [] ∧ Below w.heap.size w w' := by
  go_enter Tryz.func130, Tryz.ntmps130
  go_wp2
  refine bodyPost_ret (v := topV 0 0 ⟨#[]⟩ (.slice none 0 0)) (by simp [results, Tryz.results130, go_sem]) rfl ⟨_, rfl, kidsN0 _ _, ?_⟩
  · (repeat (refine Below.alloc ?_ (by simp <;> omega) _)); exact Below.refl _ _

theorem topN_lit (n : Int) (w : World) : Calls Tryz.prog 130 #[.iface 155 (.agg #[.int .i64 n])] w fun e w' => ∃ sl, e = .returned (topV 1 n ⟨#[]⟩ sl) ∧ KidsN w.heap.size w' sl [] ∧ Below w.heap.size w w' := by
  go_enter Tryz.func130, Tryz.ntmps130
  go_wp2
  refine bodyPost_ret (v := topV 1 n ⟨#[]⟩ (.slice none 0 0)) (by simp [results, Tryz.results130, go_sem]) rfl ⟨_, rfl, kidsN0 _ _, ?_⟩
  · (repeat (refine Below.alloc ?_ (by simp <;> omega) _)); exact Below.refl _ _

theorem topN_ref (s : ByteArray) (w : World) : Calls Tryz.prog 130 #[.iface 157 (.agg #[.string s])] w fun e w' => ∃ sl, e = .returned (topV 2 0 s sl) ∧ KidsN w.heap.size w' sl [] ∧ Below w.heap.size w w' := by
  go_enter Tryz.func130, Tryz.ntmps130
  go_wp2
  refine bodyPost_ret (v := topV 2 0 s (.slice none 0 0)) (by simp [results, Tryz.results130, go_sem]) rfl ⟨_, rfl, kidsN0 _ _, ?_⟩
  · (repeat (refine Below.alloc ?_ (by simp <;> omega) _)); exact Below.refl _ _

theorem topN_not (x : Value) (hx : Ifc x) (w : World) : Calls Tryz.prog 130 #[.iface 159 (.agg #[x])] w fun e w' => ∃ sl, e = .returned (topV 3 0 ⟨#[]⟩ sl) ∧ KidsN w.heap.size w' sl [x] ∧ Below w.heap.size w w' := by
  rcases hx with rfl | ⟨u, y, rfl⟩
  · go_enter Tryz.func130, Tryz.ntmps130
    go_wp2
    refine bodyPost_ret (v := topV 3 0 ⟨#[]⟩ (.slice (some ⟨w.heap.size + 4, 0, none⟩) 1 1)) (by simp [results, Tryz.results130, go_sem]) rfl ⟨_, rfl, kidsN1 ?_ ?_, ?_⟩
    · simp
    · exact cell1_new _ _ _ _ (by simp)
    · (repeat (refine Below.alloc ?_ (by simp <;> omega) _)); exact Below.refl _ _
  · go_enter Tryz.func130, Tryz.ntmps130
    go_wp2
    refine bodyPost_ret (v := topV 3 0 ⟨#[]⟩ (.slice (some ⟨w.heap.size + 4, 0, none⟩) 1 1)) (by simp [results, Tryz.results130, go_sem]) rfl ⟨_, rfl, kidsN1 ?_ ?_, ?_⟩
    · simp
    · exact cell1_new _ _ _ _ (by simp)
    · (repeat (refine Below.alloc ?_ (by simp <;> omega) _)); exact Below.refl _ _

theorem topN_neg (x : Value) (hx : Ifc x) (w : World) : Calls Tryz.prog 130 #[.iface 160 (.agg #[x])] w fun e w' => ∃ sl, e = .returned (topV 4 0 ⟨#[]⟩ sl) ∧ KidsN w.heap.size w' sl [x] ∧ Below w.heap.size w w' := by
  rcases hx with rfl | ⟨u, y, rfl⟩
  · go_enter Tryz.func130, Tryz.ntmps130
    go_wp2
    refine bodyPost_ret (v := topV 4 0 ⟨#[]⟩ (.slice (some ⟨w.heap.size + 5, 0, none⟩) 1 1)) (by simp [results, Tryz.results130, go_sem]) rfl ⟨_, rfl, kidsN1 ?_ ?_, ?_⟩
    · simp
    · exact cell1_new _ _ _ _ (by simp)
    · (repeat (refine Below.alloc ?_ (by simp <;> omega) _)); exact Below.refl _ _
  · go_enter Tryz.func130, Tryz.ntmps130
    go_wp2
    refine bodyPost_ret (v := topV 4 0 ⟨#[]⟩ (.slice (some ⟨w.heap.size + 5, 0, none⟩) 1 1)) (by simp [results, Tryz.results130, go_sem]) rfl ⟨_, rfl, kidsN1 ?_ ?_, ?_⟩
    · simp
    · exact cell1_new _ _ _ _ (by simp)
    · (repeat (refine Below.alloc ?_ (by simp <;> omega) _)); exact Below.refl _ _

theorem topN_bin (s : ByteArray) (x x' : Value) (hx : Ifc x) (hx' : Ifc x') (w : World) : Calls Tryz.prog 130 #[.iface 162 (.agg #[.string s, x, x'])] w fun e w' => ∃ sl, e = .returned (topV 5 0 s sl) ∧ KidsN w.heap.size w' sl [x, x'] ∧ Below w.heap.size w w' := by
  rcases hx with rfl | ⟨u, y, rfl⟩ <;> rcases hx' with rfl | ⟨u', y', rfl⟩
  · go_enter Tryz.func130, Tryz.ntmps130
    go_wp2
    refine bodyPost_ret (v := topV 5 0 s (.slice (some ⟨w.heap.size + 6, 0, none⟩) 2 2)) (by simp [results, Tryz.results130, go_sem]) rfl ⟨_, rfl, kidsN2 ?_ ?_ ?_, ?_⟩
    · simp
    · exact (cell2_new _ _ _ _ _ (by simp)).1
    · exact (cell2_new _ _ _ _ _ (by simp)).2
    · (repeat (refine Below.alloc ?_ (by simp <;> omega) _)); exact Below.refl _ _
  · go_enter Tryz.func130, Tryz.ntmps130
    go_wp2
    refine bodyPost_ret (v := topV 5 0 s (.slice (some ⟨w.heap.size + 6, 0, none⟩) 2 2)) (by simp [results, Tryz.results130, go_sem]) rfl ⟨_, rfl, kidsN2 ?_ ?_ ?_, ?_⟩
    · simp
    · exact (cell2_new _ _ _ _ _ (by simp)).1
    · exact (cell2_new _ _ _ _ _ (by simp)).2
    · (repeat (refine Below.alloc ?_ (by simp <;> omega) _)); exact Below.refl _ _
  · go_enter Tryz.func130, Tryz.ntmps130
    go_wp2
    refine bodyPost_ret (v := topV 5 0 s (.slice (some ⟨w.heap.size + 6, 0, none⟩) 2 2)) (by simp [results, Tryz.results130, go_sem]) rfl ⟨_, rfl, kidsN2 ?_ ?_ ?_, ?_⟩
    · simp
    · exact (cell2_new _ _ _ _ _ (by simp)).1
    · exact (cell2_new _ _ _ _ _ (by simp)).2
    · (repeat (refine Below.alloc ?_ (by simp <;> omega) _)); exact Below.refl _ _
  · go_enter Tryz.func130, Tryz.ntmps130
    go_wp2
    refine bodyPost_ret (v := topV 5 0 s (.slice (some ⟨w.heap.size + 6, 0, none⟩) 2 2)) (by simp [results, Tryz.results130, go_sem]) rfl ⟨_, rfl, kidsN2 ?_ ?_ ?_, ?_⟩
    · simp
    · exact (cell2_new _ _ _ _ _ (by simp)).1
    · exact (cell2_new _ _ _ _ _ (by simp)).2
    · (repeat (refine Below.alloc ?_ (by simp <;> omega) _)); exact Below.refl _ _


theorem topN_any {d : Nat} {t : T (d + 1)} (hc : Cl (d + 1) t) : ∃ k n s ps, t = mkT k n s ps ∧ ∀ w, Calls Tryz.prog 130 #[exV (d + 1) t] w fun e w' => ∃ sl, e = .returned (.agg #[.int .i64 k, .int .i64 n, .string s, sl]) ∧ KidsN w.heap.size w' sl (ps.map (exV d)) ∧ Below w.heap.size w w' := by
  rcases hc.cases with ⟨n, rfl⟩ | ⟨s, rfl⟩ | ⟨k, p, hk, rfl, hp⟩ | ⟨s, p, q, rfl, hp, hq⟩ | rfl
  · exact ⟨1, n, _, [], rfl, fun w => topN_lit n w⟩
  · exact ⟨2, 0, s, [], rfl, fun w => topN_ref s w⟩
  · rcases hk with rfl | rfl
    · exact ⟨3, 0, _, [p], rfl, fun w => topN_not (exV d p) (ifc_ex p) w⟩
    · exact ⟨4, 0, _, [p], rfl, fun w => topN_neg (exV d p) (ifc_ex p) w⟩
  · exact ⟨5, 0, s, [p, q], rfl, fun w => topN_bin s (exV d p) (exV d q) (ifc_ex p) (ifc_ex q) w⟩
  · exact ⟨0, 0, _, [], rfl, fun w => topN_nil w⟩
end Go.Proofs.YtifgbioacknjpaaGreatDoor

/- What the program's operator, rightTop do. -/
namespace Go.Proofs.YtifgbioacknjpaaGreatDoor
open Go.RowKit Go.Lib
set_option linter.unusedSimpArgs false
set_option linter.unusedVariables false
attribute [local go_sem ↓] Go.wp_at_zero Go.wp_at_succ

theorem str_is2 (s : ByteArray) (x : List UInt8) : (s.toList == x) = (bl s == x) := by rw [ByteArray.toList_eq]

set_option maxHeartbeats 1000000 in
theorem pOperator_any (s : ByteArray) (w : World) : Calls Tryz.prog 201 #[.string s] w fun e w' => e = .returned (.bool (opr s)) ∧ w = w' := by
  have hS := str_is2 s
  obtain ⟨l, hl⟩ : ∃ l, bl s = l := ⟨_, rfl⟩
  have ho : opr s = ops9.any (fun x => l == x) := by rw [← hl]; rfl
  rw [ho]
  simp only [hl] at hS
  clear hl ho
  obtain ⟨L, hL⟩ : ∃ L, s.toList = L := ⟨_, rfl⟩
  have q0 : (s.toList == [43]) = (l == [43]) := hS _
  have q1 : (s.toList == [45]) = (l == [45]) := hS _
  have q2 : (s.toList == [42]) = (l == [42]) := hS _
  have q3 : (s.toList == [60]) = (l == [60]) := hS _
  have q4 : (s.toList == [60, 61]) = (l == [60, 61]) := hS _
  have q5 : (s.toList == [61, 61]) = (l == [61, 61]) := hS _
  have q6 : (s.toList == [33, 61]) = (l == [33, 61]) := hS _
  have q7 : (s.toList == [38, 38]) = (l == [38, 38]) := hS _
  have q8 : (s.toList == [124, 124]) = (l == [124, 124]) := hS _
  clear hS hL
  simp only [ops9, List.any_cons, List.any_nil, Bool.or_false]
  cases r0 : (l == [43])
  case true => rw [r0] at q0; clear q1 q2 q3 q4 q5 q6 q7 q8; go_enter Tryz.func201, Tryz.ntmps201; go_wp2; go_ret; exact ⟨ret_bool (by simp), rfl⟩
  cases r1 : (l == [45])
  case true => rw [r0] at q0; rw [r1] at q1; clear q2 q3 q4 q5 q6 q7 q8; go_enter Tryz.func201, Tryz.ntmps201; go_wp2; go_ret; exact ⟨ret_bool (by simp), rfl⟩
  rw [r0] at q0; rw [r1] at q1
  cases r2 : (l == [42])
  case true => rw [r2] at q2; clear q3 q4 q5 q6 q7 q8; go_enter Tryz.func201, Tryz.ntmps201; go_wp2; go_ret; exact ⟨ret_bool (by simp), rfl⟩
  rw [r2] at q2
  cases r3 : (l == [60])
  case true => rw [r3] at q3; clear q4 q5 q6 q7 q8; go_enter Tryz.func201, Tryz.ntmps201; go_wp2; go_ret; exact ⟨ret_bool (by simp), rfl⟩
  rw [r3] at q3
  cases r4 : (l == [60, 61])
  case true => rw [r4] at q4; clear q5 q6 q7 q8; go_enter Tryz.func201, Tryz.ntmps201; go_wp2; go_ret; exact ⟨ret_bool (by simp), rfl⟩
  rw [r4] at q4
  cases r5 : (l == [61, 61])
  case true => rw [r5] at q5; clear q6 q7 q8; go_enter Tryz.func201, Tryz.ntmps201; go_wp2; go_ret; exact ⟨ret_bool (by simp), rfl⟩
  rw [r5] at q5
  cases r6 : (l == [33, 61])
  case true => rw [r6] at q6; clear q7 q8; go_enter Tryz.func201, Tryz.ntmps201; go_wp2; go_ret; exact ⟨ret_bool (by simp), rfl⟩
  rw [r6] at q6
  cases r7 : (l == [38, 38])
  case true => rw [r7] at q7; clear q8; go_enter Tryz.func201, Tryz.ntmps201; go_wp2; go_ret; exact ⟨ret_bool (by simp), rfl⟩
  rw [r7] at q7
  cases r8 : (l == [124, 124])
  case true => rw [r8] at q8; go_enter Tryz.func201, Tryz.ntmps201; go_wp2; go_ret; exact ⟨ret_bool (by simp), rfl⟩
  rw [r8] at q8
  go_enter Tryz.func201, Tryz.ntmps201
  go_wp2
  go_ret
  exact ⟨ret_bool (by simp), rfl⟩

/-- What an expression is by itself is right. -/
def rtC (k n : Int) (s : ByteArray) : Bool := if k = 1 then decide (0 ≤ n) && decide (n ≤ 1000000000) else if k = 2 then nameS (bl s) else if k = 3 ∨ k = 4 then true else if k = 5 then opr s else false
set_option maxRecDepth 100000 in
set_option maxHeartbeats 4000000 in
theorem rightTop_any (k n : Int) (s : ByteArray) (a : Option Addr) (m : Nat) (hs : s.size ≤ 1000) (w : World) :
    Calls Tryz.prog 192 #[.agg #[.int .i64 k, .int .i64 n, .string s, .slice a m m]] w fun e w' => e = .returned (.bool (rtC k n s)) ∧ Below w.heap.size w w' := by
  have hb : Below w.heap.size w (w.alloc (.cells #[.int .i64 k, .int .i64 n, .string s, .slice a m m] 198)) := (Below.refl _ _).alloc (Nat.le_refl _) _
  have h1 := fun w1 => pName_any s w1 (by omega)
  have h2 := fun w1 => pOperator_any s w1
  unfold rtC
  by_cases k1 : k = 1
  · subst k1
    rw [if_pos rfl]
    clear h1 h2
    by_cases c1 : 0 ≤ n
    · by_cases c2 : n ≤ 1000000000
      · rw [decide_eq_true c1, decide_eq_true c2]
        go_enter Tryz.func192, Tryz.ntmps192
        go_wp2
        go_ret
        exact ⟨rfl, hb⟩
      · rw [decide_eq_true c1, decide_eq_false c2]
        go_enter Tryz.func192, Tryz.ntmps192
        go_wp2
        go_ret
        exact ⟨rfl, hb⟩
    · rw [decide_eq_false c1, Bool.false_and]
      go_enter Tryz.func192, Tryz.ntmps192
      go_wp2
      go_ret
      exact ⟨rfl, hb⟩
  rw [if_neg k1]
  have e1 : (k == 1) = false := beq_eq_false_iff_ne.2 k1
  by_cases k2 : k = 2
  · subst k2
    rw [if_pos rfl]
    clear h2 k1 e1
    go_enter Tryz.func192, Tryz.ntmps192
    go_wp2_with (first
      | (go_at_call 72; refine (h1 _).mono ?_; rintro e w1 ⟨rfl, b1⟩))
    go_ret
    exact ⟨rfl, hb.trans (b1.mono hb.size)⟩
  rw [if_neg k2]
  have e2 : (k == 2) = false := beq_eq_false_iff_ne.2 k2
  by_cases k34 : k = 3 ∨ k = 4
  · rw [if_pos k34]
    clear h1 h2
    rcases k34 with rfl | rfl
    · go_enter Tryz.func192, Tryz.ntmps192
      go_wp2
      go_ret
      exact ⟨rfl, hb⟩
    · go_enter Tryz.func192, Tryz.ntmps192
      go_wp2
      go_ret
      exact ⟨rfl, hb⟩
  rw [if_neg k34]
  have e3 : (k == 3) = false := beq_eq_false_iff_ne.2 (by omega)
  have e4 : (k == 4) = false := beq_eq_false_iff_ne.2 (by omega)
  clear k34
  by_cases k5 : k = 5
  · subst k5
    rw [if_pos rfl]
    clear h1 k1 k2 e1 e2 e3 e4
    go_enter Tryz.func192, Tryz.ntmps192
    go_wp2_with (first
      | (go_at_call 201; refine (h2 _).mono ?_; rintro e w1 ⟨rfl, rfl⟩))
    go_ret
    exact ⟨rfl, hb⟩
  rw [if_neg k5]
  have e5 : (k == 5) = false := beq_eq_false_iff_ne.2 k5
  clear h1 h2
  go_enter Tryz.func192, Tryz.ntmps192
  go_wp2
  go_ret
  exact ⟨rfl, hb⟩
end Go.Proofs.YtifgbioacknjpaaGreatDoor
